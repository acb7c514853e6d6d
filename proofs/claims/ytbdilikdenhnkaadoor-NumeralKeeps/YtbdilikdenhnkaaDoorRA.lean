/-
  Texts put together: KeepT, OwI, IBx, IMemF, IMemG, NKpN.
-/
import Derived.Test.YtbdilikdenhnkaaDoorMem
import Derived.Deep.QuietTactic
import Derived.BigQuiet
import Derived.Laws.AppendOwn
import Derived.Laws.OwnMore
import Derived.OwnWalk
import Derived.Deep.LoopGhost
import Derived.Laws.Rows
namespace Go.Proofs.YtbdilikdenhnkaaDoor
open Go Go.RowKit Go.Deep

/-- Only blocks of S have been written, of those that were there. -/
structure Keep (S : Nat → Prop) (w w' : World) : Prop where
  os : w'.os = w.os
  tape : w'.tape = w.tape
  output : w'.output = w.output
  size : w.heap.size ≤ w'.heap.size
  block : ∀ b, b < w.heap.size → ¬ S b → w'.heap[b]? = w.heap[b]?

theorem Keep.refl (S : Nat → Prop) (w : World) : Keep S w w := ⟨rfl, rfl, rfl, Nat.le_refl _, fun _ _ _ => rfl⟩
theorem Keep.trans {S : Nat → Prop} {a b c : World} (h : Keep S a b) (k : Keep S b c) : Keep S a c :=
  ⟨k.os.trans h.os, k.tape.trans h.tape, k.output.trans h.output, Nat.le_trans h.size k.size, fun i hi hs => (k.block i (Nat.lt_of_lt_of_le hi h.size) hs).trans (h.block i hi hs)⟩
theorem Keep.mono {S T : Nat → Prop} {a b : World} (h : Keep S a b) (hst : ∀ b, S b → T b) : Keep T a b := ⟨h.os, h.tape, h.output, h.size, fun i hi hs => h.block i hi (fun k => hs (hst i k))⟩
theorem Keep.of_below {S : Nat → Prop} {B : Nat} {a b : World} (h : Below B a b) (hB : a.heap.size ≤ B) : Keep S a b := ⟨h.os, h.tape, h.output, h.size, fun i hi _ => h.block i (by omega)⟩
theorem Keep.below {S : Nat → Prop} {B : Nat} {a b : World} (h : Keep S a b) (hS : ∀ b, S b → B ≤ b) (hB : B ≤ a.heap.size) : Below B a b := ⟨h.os, h.tape, h.output, h.size, fun i hi => h.block i (by omega) (fun k => by have := hS i k; omega)⟩
theorem Keep.drewN {S : Nat → Prop} {a b : World} (h : Keep S a b) (n : Nat) : Keep S a (b.drewN n) := ⟨h.os, h.tape, h.output, h.size, h.block⟩
theorem Keep.cell {S : Nat → Prop} {a b : World} (h : Keep S a b) {p : Addr} {v : Value} (hc : a.cell? p = some v) (hs : ¬ S p.block) : b.cell? p = some v := by
  have hl := cell_lt hc
  have e := h.block p.block hl hs
  rw [← hc]
  unfold World.cell?
  rw [e]

theorem Lies.keep {S : Nat → Prop} {w w' : World} {p : Option Addr} {zs : List Int} (h : Lies w p zs) (k : Keep S w w') (hp : ∀ a, p = some a → ¬ S a.block) : Lies w' p zs := by
  rcases h with rfl | ⟨b, off, rfl, h⟩
  · exact .inl rfl
  · exact .inr ⟨b, off, rfl, fun i hi => k.cell (h i hi) (hp ⟨b, off, none⟩ rfl)⟩

theorem Arg.keep {S : Nat → Prop} {w w' : World} {p : Option Addr} {n cap : Nat} {zs : List Int} (h : Arg w p n cap zs) (k : Keep S w w') (hp : ∀ a, p = some a → ¬ S a.block) : Arg w' p n cap zs :=
  ⟨h.1, h.2.1, h.2.2.1, h.2.2.2.1.keep k hp, h.2.2.2.2⟩

theorem Own.keep {S : Nat → Prop} {w w' : World} {g : Nat} {zs : List Int} (h : Own w g zs) (k : Keep S w w') (hp : ¬ S g) : Own w' g zs := by
  have := h.lt
  simp only [Own] at h ⊢
  rw [k.block g this hp, h]

end Go.Proofs.YtbdilikdenhnkaaDoor

namespace Go.Proofs.YtbdilikdenhnkaaDoor
open Go Go.RowKit Go.Deep

namespace Re
/-- The cells of a list. -/
def fl {α : Type} (enc : α → List Value) (D : List α) : List Value := D.flatMap enc
section
variable {α : Type} {enc : α → List Value} {k : Nat} (hk : ∀ x, (enc x).length = k)
include hk
theorem fl_len (D : List α) : (fl enc D).length = D.length * k := by
  induction D with
  | nil => simp [fl]
  | cons x D ih => rw [fl, List.flatMap_cons, List.length_append, hk, ← fl, ih, List.length_cons, Nat.add_mul, Nat.one_mul, Nat.add_comm]
theorem fl_at : ∀ {D : List α} {i : Nat} {a : α}, D[i]? = some a → ∀ j, j < k → (fl enc D)[i * k + j]? = (enc a)[j]?
  | [], i, a, h, _, _ => by simp at h
  | b :: D, 0, a, h, j, hj => by
    obtain rfl : b = a := Option.some.inj h
    rw [fl, List.flatMap_cons, List.getElem?_append_left (by rw [hk]; omega)]
    simp
  | b :: D, i + 1, a, h, j, hj => by
    rw [fl, List.flatMap_cons, List.getElem?_append_right (by rw [hk, Nat.add_mul]; omega), ← fl]
    rw [← fl_at (D := D) (i := i) (a := a) (by simpa using h) j hj]
    congr 1
    rw [hk, Nat.add_mul]
    omega
end
/-- A row of our own, of things of k cells. -/
def Ow {α : Type} (enc : α → List Value) (t k base : Nat) (w : World) (mv : Value) (D : List α) : Prop := w.ownsRow base t k mv D.length (fl enc D)
section
variable {α : Type} {enc : α → List Value} {t k base : Nat}
theorem Ow.below {w w' : World} {mv : Value} {D : List α} (h : Ow enc t k base w mv D) (hb : Below w.heap.size w w') : Ow enc t k base w' mv D :=
  World.ownsRow.kept (row := none) h ⟨hb.os, hb.tape, hb.output, hb.size, fun j hj _ => hb.block j hj⟩ (by cases h : Value.ownBlock mv <;> simp)
theorem Ow.keep {S : Nat → Prop} {w w' : World} {mv : Value} {D : List α} (h : Ow enc t k base w mv D) (hb : Keep S w w') (hs : ∀ g, mv.ownBlock = some g → ¬ S g) : Ow enc t k base w' mv D := by
  obtain ⟨h1, h2⟩ := h
  refine ⟨h1, ?_⟩
  rcases h2 with h2 | ⟨g, cap, cur, e1, e2, e3, e4⟩
  · exact .inl h2
  · refine .inr ⟨g, cap, cur, e1, e2, ?_, e4⟩
    have hg : g < w.heap.size := by
      rcases Nat.lt_or_ge g w.heap.size with hl | hl
      · exact hl
      · simp [Array.getElem?_eq_none hl] at e3
    rw [hb.block g hg (hs g (by rw [e1]; rfl))]
    exact e3
theorem Ow.nil (w : World) : Ow enc t k base w (.slice none 0 0) [] := World.ownsRow_nil _ _ _ _
theorem Ow.shape {w : World} {mv : Value} {D : List α} (h : Ow enc t k base w mv D) : (∃ cap, mv = .slice none 0 cap ∧ D = []) ∨ ∃ g cap, mv = .slice (some ⟨g, 0, none⟩) D.length cap ∧ base ≤ g ∧ g < w.heap.size ∧ D.length ≤ cap ∧ cap ≤ maxLen := by
  rcases h.2 with ⟨rfl, hn⟩ | ⟨g, cp, cur, rfl, hb, hg, hc, hm, _⟩
  · exact .inl ⟨0, rfl, List.eq_nil_of_length_eq_zero hn⟩
  · refine .inr ⟨g, cp, rfl, hb, ?_, hc, hm⟩
    rcases Nat.lt_or_ge g w.heap.size with hl | hl
    · exact hl
    · simp [Array.getElem?_eq_none hl] at hg
theorem Ow.cell (hk : ∀ x, (enc x).length = k) {w : World} {g n cap : Nat} {D : List α} (h : Ow enc t k base w (.slice (some ⟨g, 0, none⟩) n cap) D) {i : Nat} {a : α} (hi : D[i]? = some a) (j : Nat) (hj : j < k) (v : Value) (hv : (enc a)[j]? = some v) : w.cell? ⟨g, i * k + j, none⟩ = some v := by
  have e := fl_at hk hi j hj
  rw [hv] at e
  have := World.ownsRow.cells h (g := g) rfl (i * k + j) v e
  rwa [Go.WideShapes.add_plain, Nat.zero_add] at this
theorem Ow.take (hk : ∀ x, (enc x).length = k) {w : World} {g n cap : Nat} {D : List α} (h : Ow enc t k base w (.slice (some ⟨g, 0, none⟩) n cap) D) (m : Nat) (hm : m ≤ D.length) : Ow enc t k base w (.slice (some ⟨g, 0, none⟩) m cap) (D.take m) := by
  obtain ⟨h1, h2⟩ := h
  have lk : (D.take m).length = m := by rw [List.length_take]; omega
  have l2 := fl_len hk D
  have l3 := fl_len hk (D.take m)
  rw [lk] at l3
  refine ⟨by rw [lk]; exact l3, ?_⟩
  rcases h2 with ⟨e, _⟩ | ⟨g', cap', cur, e1, e2, e3, e4, e5, e6, e7⟩
  · simp at e
  · simp only [Value.slice.injEq, Option.some.injEq, Addr.mk.injEq] at e1
    obtain ⟨⟨e1, _⟩, _, e1'⟩ := e1
    subst e1 e1'
    refine .inr ⟨g, cap, cur, by rw [lk], e2, e3, by rw [lk]; omega, e5, e6, ?_⟩
    have mk : m * k ≤ D.length * k := Nat.mul_le_mul_right k hm
    have : cur.toList.take (m * k) = (fl enc D).take (m * k) := by rw [← e7, List.take_take]; congr 1; omega
    have q : (fl enc D).take (m * k) = fl enc (D.take m) := by
      have e : fl enc D = fl enc (D.take m) ++ fl enc (D.drop m) := by rw [fl, fl, fl, ← List.flatMap_append, List.take_append_drop]
      rw [e, List.take_append_of_le_length (by omega), List.take_of_length_le (by omega)]
    rw [lk, this, q]
/-- One more thing, put behind; it lies in a block of its own ahead of that. -/
theorem Ow.push (hk : ∀ x, (enc x).length = k) (h1 : ∀ x, ∀ v ∈ enc x, v.oneCell' = true) (k0 : 0 < k) {P : Program} (s : TypeId) (hu : P.underlying s = some (.slice t)) {z : Value} {bytes : Nat} (hinf : (P.info? t).map (fun i => (i.zero, i.size, i.bytes)) = some (some z, k, bytes)) (hby : bytes ≤ 24) (hzc : z.cells.size = k)
    {w : World} {mv : Value} {D : List α} (ho : Ow enc t k base w mv D) (x : α) (hn : D.length ≤ 4000000000000) (hb : base ≤ w.heap.size) :
    ∃ mv' w', (Builtin.append_ #[s, s] s #[mv, .slice (some ⟨w.heap.size, 0, none⟩) 1 1]).run P (w.alloc (.cells (enc x).toArray t)) = .ok mv' w' ∧ Ow enc t k base w' mv' (D ++ [x]) ∧ w.heap.size ≤ w'.heap.size ∧
      Below base w w' ∧ (∀ j, j < w.heap.size → some j ≠ mv.ownBlock → w'.heap[j]? = w.heap[j]?) := by
  obtain ⟨i, hi, hz⟩ := Option.map_eq_some_iff.1 hinf
  simp only [Prod.mk.injEq] at hz
  obtain ⟨z1, z2, z3⟩ := hz
  have bm : Below w.heap.size w (w.alloc (.cells (enc x).toArray t)) := (Below.refl _ _).alloc (Nat.le_refl _) _
  have hs : (w.alloc (.cells (enc x).toArray t)).heap.size = w.heap.size + 1 := World.size_alloc _ _
  have ho' := World.ownsRow.alloc ho (.cells (enc x).toArray t)
  have hcell : ∀ j u, (enc x)[j]? = some u → (w.alloc (.cells (enc x).toArray t)).cell? ⟨w.heap.size, j, none⟩ = some u := by
    intro j u hu
    have h0 : (w.alloc (.cells (enc x).toArray t)).heap[w.heap.size]? = some (.cells (enc x).toArray t (0, 0)) := heap_alloc_new w _
    simp only [World.cell?, h0]
    simpa using hu
  obtain ⟨v', w', hr, h1, h2, _⟩ := run_append_own (P := P) (w.alloc (.cells (enc x).toArray t)) base s s t i _ k bytes hu hi z1 z2 z3 hzc (by omega) mv D.length (fl enc D) ho'
    ⟨w.heap.size, 0, none⟩ 1 1 (enc x) (by rw [hk]; omega) (fun j u hu => by
      rw [Go.WideShapes.add_plain, Nat.zero_add]
      exact hcell j u hu) (fun u hu => h1 x u hu) (by simp only [maxLen]; omega) (by
        have a1 : (D.length + 1) * bytes ≤ (D.length + 1) * 24 := Nat.mul_le_mul_left _ hby
        omega) (by rw [hs]; omega)
  refine ⟨v', w', hr, ?_, by have := h2.size; omega, ?_, fun j hj hne => ?_⟩
  · have e : fl enc (D ++ [x]) = fl enc D ++ enc x := by simp [fl]
    unfold Ow
    rw [e, List.length_append, List.length_singleton]
    exact h1
  · have hb2 : Below base (w.alloc (.cells (enc x).toArray t)) w' := by
      refine ⟨h2.os, h2.tape, h2.output, h2.size, fun j hj => h2.block j (by rw [hs]; omega) ?_⟩
      intro hk
      have := (ho'.lt j hk.symm).1
      omega
    exact (bm.mono hb).trans hb2
  · rw [h2.block j (by rw [hs]; omega) hne]; exact bm.block j hj
theorem Ow.push2 (hk : ∀ x, (enc x).length = k) (h1 : ∀ x, ∀ v ∈ enc x, v.oneCell' = true) (k0 : 0 < k) {P : Program} (s : TypeId) (hu : P.underlying s = some (.slice t)) {z : Value} {bytes : Nat} (hinf : (P.info? t).map (fun i => (i.zero, i.size, i.bytes)) = some (some z, k, bytes)) (hby : bytes ≤ 24) (hzc : z.cells.size = k)
    {w : World} {mv : Value} {D : List α} (ho : Ow enc t k base w mv D) (x : α) (hn : D.length ≤ 4000000000000) (hb : base ≤ w.heap.size) :
    ∃ mv' w', (Builtin.append_ #[s, s] s #[mv, .slice (some ⟨w.heap.size, 0, none⟩) 1 1]).run P (w.alloc (.cells (enc x).toArray t)) = .ok mv' w' ∧ Ow enc t k base w' mv' (D ++ [x]) ∧ w.heap.size ≤ w'.heap.size ∧
      Below base w w' ∧ (∀ j, j < w.heap.size → some j ≠ mv.ownBlock → w'.heap[j]? = w.heap[j]?) ∧ (∀ g, mv'.ownBlock = some g → mv.ownBlock = some g ∨ w.heap.size ≤ g) := by
  obtain ⟨mv', w', e1, e2, e3, e4, e5⟩ := ho.push hk h1 k0 s hu hinf hby hzc x hn hb
  refine ⟨mv', w', e1, e2, e3, e4, e5, ?_⟩
  intro g hg
  obtain ⟨i, hi, hz⟩ := Option.map_eq_some_iff.1 hinf
  simp only [Prod.mk.injEq] at hz
  obtain ⟨z1, z2, z3⟩ := hz
  have hs : (w.alloc (.cells (enc x).toArray t)).heap.size = w.heap.size + 1 := World.size_alloc _ _
  have hcell : ∀ j u, (enc x)[j]? = some u → (w.alloc (.cells (enc x).toArray t)).cell? ((⟨w.heap.size, 0, none⟩ : Addr).add j) = some u := by
    intro j u hu
    rw [Go.WideShapes.add_plain, Nat.zero_add]
    have h0 : (w.alloc (.cells (enc x).toArray t)).heap[w.heap.size]? = some (.cells (enc x).toArray t (0, 0)) := heap_alloc_new w _
    simp only [World.cell?, h0]
    simpa using hu
  have hby2 : (D.length + 1) * bytes ≤ (D.length + 1) * 24 := Nat.mul_le_mul_left _ hby
  have ho' := World.ownsRow.alloc ho (.cells (enc x).toArray t)
  rcases ho'.2 with ⟨rfl, h0⟩ | ⟨g', cap, cur, rfl, hbg, hgg, hnc, hcm, hcs, htake⟩
  · obtain ⟨v2, w2, r2, o2, _, _⟩ := run_append_own (P := P) (w.alloc (.cells (enc x).toArray t)) w.heap.size s s t i _ k bytes hu hi z1 z2 z3 hzc (by omega) (.slice none 0 0) 0 [] (World.ownsRow_nil _ _ _ _)
      ⟨w.heap.size, 0, none⟩ 1 1 (enc x) (by rw [hk]; omega) hcell (h1 x) (by simp only [maxLen]; omega) (by omega) (by rw [hs]; omega)
    rw [e1] at r2
    obtain ⟨rfl, rfl⟩ : mv' = v2 ∧ w' = w2 := by injection r2 with a b; exact ⟨a, b⟩
    exact .inr (o2.lt g hg).1
  · by_cases hroom : D.length + 1 ≤ cap
    · have hr := run_append_room (P := P) (w.alloc (.cells (enc x).toArray t)) s s t i hu hi g' D.length cap cur hgg ⟨w.heap.size, 0, none⟩ 1 1 (enc x) (by rw [z2, hk]; omega) hcell (h1 x) hroom (by
        rw [z2, hcs, hk]
        have := Nat.mul_le_mul_right k hroom
        rw [Nat.add_mul, Nat.one_mul] at this
        exact this)
      rw [e1] at hr
      injection hr with a b
      rw [a] at hg
      exact .inl hg
    · have hr := run_append_grow (P := P) (w.alloc (.cells (enc x).toArray t)) s s t i _ hu hi z1 ⟨g', 0, none⟩ D.length cap (fl enc D) (by rw [z2]; exact fl_len hk D) (ho'.cells (g := g') rfl) ⟨w.heap.size, 0, none⟩ 1 1 (enc x) (by rw [z2, hk]; omega) hcell (by omega) (by omega) (growslice_fits (by omega) (by rw [z3]; omega))
      rw [e1] at hr
      injection hr with a b
      rw [a] at hg
      simp only [Value.ownBlock, Option.some.injEq] at hg
      right
      omega
end
end Re
end Go.Proofs.YtbdilikdenhnkaaDoor

namespace Go.Proofs.YtbdilikdenhnkaaDoor
open Go Go.RowKit Go.Deep

/-- A box that holds these cells. -/
def Bx (w : World) (g : Nat) (t : Nat) (cs : Array Value) : Prop := w.heap[g]? = some (.cells cs t (0, 0))
theorem Bx.lt {w : World} {g t : Nat} {cs : Array Value} (h : Bx w g t cs) : g < w.heap.size := by
  rcases Nat.lt_or_ge g w.heap.size with c | c
  · exact c
  · simp [Bx, Array.getElem?_eq_none c] at h
theorem Bx.on {w w' : World} {g t : Nat} {cs : Array Value} (h : Bx w g t cs) (hB : Below w.heap.size w w') : Bx w' g t cs := by
  rw [Bx, hB.block g h.lt]; exact h
theorem Bx.set {w : World} {g t o : Nat} {cs : Array Value} (h : Bx w g t cs) (v : Value) : Bx (w.setCell ⟨g, o, none⟩ v) g t (cs.setIfInBounds o v) := by
  simp only [Bx] at *
  simp [World.setCell, Array.getElem?_modify, h]
theorem Bx.far {w : World} {g g' t o : Nat} {cs : Array Value} (h : Bx w g t cs) (ne : g' ≠ g) (v : Value) : Bx (w.setCell ⟨g', o, none⟩ v) g t cs := by
  simp only [Bx] at *
  simp [World.setCell, Array.getElem?_modify, ne, h]
theorem Bx.c13 {w : World} {g t : Nat} {v0 v1 v2 v3 v4 v5 v6 v7 v8 v9 v10 v11 v12 : Value} (h : Bx w g t #[v0, v1, v2, v3, v4, v5, v6, v7, v8, v9, v10, v11, v12]) : (w.cell? ⟨g, 0, none⟩ = some (v0) ∧ w.cell? ⟨g, 1, none⟩ = some (v1) ∧ w.cell? ⟨g, 2, none⟩ = some (v2) ∧ w.cell? ⟨g, 3, none⟩ = some (v3) ∧ w.cell? ⟨g, 4, none⟩ = some (v4) ∧ w.cell? ⟨g, 5, none⟩ = some (v5) ∧ w.cell? ⟨g, 6, none⟩ = some (v6) ∧ w.cell? ⟨g, 7, none⟩ = some (v7) ∧ w.cell? ⟨g, 8, none⟩ = some (v8) ∧ w.cell? ⟨g, 9, none⟩ = some (v9) ∧ w.cell? ⟨g, 10, none⟩ = some (v10) ∧ w.cell? ⟨g, 11, none⟩ = some (v11) ∧ w.cell? ⟨g, 12, none⟩ = some (v12)) ∧ ∀ o, w.frozen? ⟨g, o, none⟩ = false := by
  simp only [Bx] at h
  refine ⟨⟨?_, ?_, ?_, ?_, ?_, ?_, ?_, ?_, ?_, ?_, ?_, ?_, ?_⟩, fun o => ?_⟩ <;> simp [World.cell?, World.frozen?, h]
theorem Bx.c10 {w : World} {g t : Nat} {v0 v1 v2 v3 v4 v5 v6 v7 v8 v9 : Value} (h : Bx w g t #[v0, v1, v2, v3, v4, v5, v6, v7, v8, v9]) : (w.cell? ⟨g, 0, none⟩ = some (v0) ∧ w.cell? ⟨g, 1, none⟩ = some (v1) ∧ w.cell? ⟨g, 2, none⟩ = some (v2) ∧ w.cell? ⟨g, 3, none⟩ = some (v3) ∧ w.cell? ⟨g, 4, none⟩ = some (v4) ∧ w.cell? ⟨g, 5, none⟩ = some (v5) ∧ w.cell? ⟨g, 6, none⟩ = some (v6) ∧ w.cell? ⟨g, 7, none⟩ = some (v7) ∧ w.cell? ⟨g, 8, none⟩ = some (v8) ∧ w.cell? ⟨g, 9, none⟩ = some (v9)) := by
  simp only [Bx] at h
  refine ⟨?_, ?_, ?_, ?_, ?_, ?_, ?_, ?_, ?_, ?_⟩ <;> simp [World.cell?, h]
theorem Arg.setF {w : World} {p : Option Addr} {n cap : Nat} {zs : List Int} (h : Arg w p n cap zs) {g o : Nat} (hp : 0 < zs.length → ∀ a, p = some a → a.block ≠ g) (v : Value) : Arg (w.setCell ⟨g, o, none⟩ v) p n cap zs := by
  obtain ⟨h1, h2, h3, h4, h5⟩ := h
  refine ⟨h1, h2, h3, ?_, h5⟩
  rcases h4 with c | ⟨b, off, hp', hc⟩
  · exact .inl c
  · refine .inr ⟨b, off, hp', fun i hi => ?_⟩
    have ne : g ≠ b := fun e => hp (by omega) _ hp' e.symm
    have := hc i hi
    rw [World.cell?] at this ⊢
    simp only [World.setCell, Array.getElem?_modify]
    rw [if_neg ne]
    exact this
theorem alloc_b2 (w : World) (A : Obj) : Below w.heap.size w (w.alloc A) := Below.alloc (w := w) (Below.refl w.heap.size w) (Nat.le_refl _) A
theorem own_arg {w : World} {g n : Nat} {zs : List Int} (h : Own w g zs) (hl : zs.length = n) (hn : n ≤ 17592186044000) (hz : Nm.Limbs zs) : Arg w (some ⟨g, 0, none⟩) n n zs := ⟨hl, Nat.le_refl _, by omega, h.lies, hz⟩

end Go.Proofs.YtbdilikdenhnkaaDoor

namespace Go.Proofs.YtbdilikdenhnkaaDoor
open Go Go.RowKit Go.Deep

theorem Keep.set (w : World) (g o : Nat) (v : Value) : Keep (fun b => b = g) w (w.setCell ⟨g, o, none⟩ v) :=
  ⟨rfl, rfl, rfl, by simp [World.setCell], fun _ _ hb => Below.heap_setCell _ _ _ _ (fun e => hb e)⟩
theorem Keep.on {S : Nat → Prop} {w w' : World} (h : Below w.heap.size w w') : Keep S w w' := Keep.of_below h (Nat.le_refl _)

/-- A list with these limbs, that may be written. -/
def Ls (H : Nat) (w : World) (p : Option Addr) (zs : List Int) : Prop := Lies w p zs ∧ ∀ a, p = some a → 0 < zs.length → H ≤ a.block ∧ ∀ o, w.frozen? ⟨a.block, o, none⟩ = false
theorem Lies.keep0 {S : Nat → Prop} {w w' : World} {p : Option Addr} {zs : List Int} (h : Lies w p zs) (k : Keep S w w') (hp : ∀ a, p = some a → 0 < zs.length → ¬ S a.block) : Lies w' p zs := by
  rcases h with rfl | ⟨b, off, rfl, h⟩
  · exact .inl rfl
  · rcases Nat.eq_zero_or_pos zs.length with z | z
    · exact .inl (List.eq_nil_of_length_eq_zero z)
    · exact .inr ⟨b, off, rfl, fun i hi => k.cell (h i hi) (hp ⟨b, off, none⟩ rfl z)⟩
theorem Ls.keep {S : Nat → Prop} {H : Nat} {w w' : World} {p : Option Addr} {zs : List Int} (h : Ls H w p zs) (k : Keep S w w') (hp : ∀ a, p = some a → 0 < zs.length → ¬ S a.block) : Ls H w' p zs :=
  ⟨h.1.keep0 k hp, fun a ha h0 => ⟨(h.2 a ha h0).1, fun o => by
    have lt := h.1.lt h0 a ha
    have e := k.block a.block lt (hp a ha h0)
    have f := (h.2 a ha h0).2 o
    simp only [World.frozen?] at f ⊢
    rw [e]
    exact f⟩⟩
theorem Ls.on {H : Nat} {w w' : World} {p : Option Addr} {zs : List Int} (h : Ls H w p zs) (hB : Below w.heap.size w w') : Ls H w' p zs := h.keep (S := fun _ => False) (Keep.on hB) (fun _ _ _ h => h)
theorem Ls.low {H H' : Nat} {w : World} {p : Option Addr} {zs : List Int} (h : Ls H w p zs) (hh : H' ≤ H) : Ls H' w p zs := ⟨h.1, fun a ha h0 => ⟨Nat.le_trans hh (h.2 a ha h0).1, (h.2 a ha h0).2⟩⟩
theorem Own.ls {H : Nat} {w : World} {g : Nat} {zs : List Int} (h : Own w g zs) (hh : H ≤ g) : Ls H w (some ⟨g, 0, none⟩) zs := ⟨h.lies, fun a ha _ => by cases ha; exact ⟨hh, fun o => h.free o⟩⟩

structure Ke where
  p : Option Addr
  n : Nat
def Ke.blk (e : Ke) : Option Nat := if e.n = 0 then none else e.p.map (·.block)
theorem Ke.blk_of {e : Ke} {a : Addr} (h : e.p = some a) (h0 : 0 < e.n) : e.blk = some a.block := by
  unfold Ke.blk
  rw [if_neg (by omega), h]
  rfl
theorem Ke.of_blk {e : Ke} {b : Nat} (h : e.blk = some b) : 0 < e.n ∧ ∃ a, e.p = some a ∧ a.block = b := by
  unfold Ke.blk at h
  split at h
  · cases h
  · exact ⟨by omega, Option.map_eq_some_iff.1 h⟩
structure Sl where
  p : Option Addr
  n : Nat
  c : Nat
def v1 (x : Sl) : List Value := [.slice x.p x.n x.c]
theorem v1_len (x : Sl) : (v1 x).length = 1 := rfl
theorem v1_one (x : Sl) : ∀ v ∈ v1 x, v.oneCell' = true := fun v hv => by
  simp only [v1, List.mem_singleton] at hv
  subst hv
  rfl
def i1 (x : Int) : List Value := [.int .i64 x]
theorem i1_len (x : Int) : (i1 x).length = 1 := rfl
theorem i1_one (x : Int) : ∀ v ∈ i1 x, v.oneCell' = true := fun v hv => by
  simp only [i1, List.mem_singleton] at hv
  subst hv
  rfl
def u1 (x : Int) : List Value := [.int .u64 x]
theorem u1_len (x : Int) : (u1 x).length = 1 := rfl
theorem u1_one (x : Int) : ∀ v ∈ u1 x, v.oneCell' = true := fun v hv => by
  simp only [u1, List.mem_singleton] at hv
  subst hv
  rfl
def Ke.v (e : Ke) : Sl := ⟨e.p, e.n, e.n⟩
def Apart (L : List Ke) : Prop := L.Pairwise (fun e f => ∀ b, e.blk = some b → f.blk ≠ some b)
theorem Apart.ne {L : List Ke} (h : Apart L) {i j : Nat} {e f : Ke} (hi : L[i]? = some e) (hj : L[j]? = some f) (hn : i ≠ j) {b : Nat} (he : e.blk = some b) : f.blk ≠ some b := by
  obtain ⟨a1, a2⟩ := List.getElem?_eq_some_iff.1 hi
  obtain ⟨b1, b2⟩ := List.getElem?_eq_some_iff.1 hj
  have hp := List.pairwise_iff_getElem.1 h
  rcases Nat.lt_or_gt_of_ne hn with q | q
  · have := hp i j a1 b1 q
    rw [a2, b2] at this
    exact this b he
  · intro hf
    have := hp j i b1 a1 q
    rw [a2, b2] at this
    exact this b hf he

/-- What the law keeps: the lists of L, of which the first k are in the list of lists. -/
structure KI (C : Nat → List Int → Prop) (B : Nat) (w : World) (mv : Value) (L : List Ke) (k : Nat) : Prop where
  row : Re.Ow v1 22 1 B w mv ((L.take k).map Ke.v)
  each : ∀ i e, L[i]? = some e → ∃ zs, zs.length = e.n ∧ C i zs ∧ Ls B w e.p zs
  small : ∀ e ∈ L, e.n ≤ 17592186044000
  apart : Apart L
  away : ∀ e ∈ L, ∀ b, e.blk = some b → mv.ownBlock ≠ some b
def T0 : Nat → List Int → Prop := fun _ _ => True
theorem ow_lt {α : Type} {enc : α → List Value} {t k B : Nat} {w : World} {mv : Value} {D : List α} (h : Re.Ow enc t k B w mv D) {g : Nat} (hg : mv.ownBlock = some g) : B ≤ g ∧ g < w.heap.size := by
  rcases h.shape with ⟨c, rfl, _⟩ | ⟨g', c, rfl, h1, h2, _⟩
  · cases hg
  · simp only [Value.ownBlock, Option.some.injEq] at hg
    subst hg
    exact ⟨h1, h2⟩
theorem KI.blk {C : Nat → List Int → Prop} {B : Nat} {w : World} {mv : Value} {L : List Ke} {k : Nat} (h : KI C B w mv L k) {e : Ke} (he : e ∈ L) {b : Nat} (hb : e.blk = some b) : B ≤ b ∧ b < w.heap.size := by
  obtain ⟨i, hi⟩ := List.getElem?_of_mem he
  obtain ⟨zs, z1, _, z3⟩ := h.each i e hi
  obtain ⟨n0, a, ha, rfl⟩ := Ke.of_blk hb
  exact ⟨(z3.2 a ha (by omega)).1, z3.1.lt (by omega) a ha⟩
theorem KI.keep {C : Nat → List Int → Prop} {B : Nat} {w w' : World} {mv : Value} {L : List Ke} {k : Nat} {S : Nat → Prop} (h : KI C B w mv L k) (q : Keep S w w') (h1 : ∀ g, mv.ownBlock = some g → ¬ S g) (h2 : ∀ e ∈ L, ∀ b, e.blk = some b → ¬ S b) : KI C B w' mv L k :=
  ⟨h.row.keep q h1, fun i e hi => by
    obtain ⟨zs, z1, z2, z3⟩ := h.each i e hi
    exact ⟨zs, z1, z2, z3.keep q (fun a ha h0 => h2 e (List.mem_of_getElem? hi) _ (Ke.blk_of ha (by omega)))⟩, h.small, h.apart, h.away⟩
theorem KI.on {C : Nat → List Int → Prop} {B : Nat} {w w' : World} {mv : Value} {L : List Ke} {k : Nat} (h : KI C B w mv L k) (hB : Below w.heap.size w w') : KI C B w' mv L k :=
  h.keep (S := fun _ => False) (Keep.on hB) (fun _ _ h => h) (fun _ _ _ _ h => h)
theorem KI.mono {C C' : Nat → List Int → Prop} {B : Nat} {w : World} {mv : Value} {L : List Ke} {k : Nat} (h : KI C B w mv L k) (q : ∀ i e, L[i]? = some e → ∀ zs, zs.length = e.n → C i zs → C' i zs) : KI C' B w mv L k :=
  ⟨h.row, fun i e hi => by
    obtain ⟨zs, z1, z2, z3⟩ := h.each i e hi
    exact ⟨zs, z1, q i e hi zs z1 z2, z3⟩, h.small, h.apart, h.away⟩
theorem KI.ext {B : Nat} {w0 w : World} {mv : Value} {L : List Ke} (h : KI T0 B w0 mv L L.length) (hB : Below w0.heap.size w0 w) (hb : B ≤ w0.heap.size) (N : List Ke) (hN : ∀ e ∈ N, (∃ zs, zs.length = e.n ∧ Ls w0.heap.size w e.p zs) ∧ e.n ≤ 17592186044000) (ap : Apart N) :
    KI T0 B w mv (L ++ N) L.length := by
  have h' := h.on hB
  have nb : ∀ e ∈ N, ∀ b, e.blk = some b → w0.heap.size ≤ b := fun e he b eb => by
    obtain ⟨⟨zs, z1, z2⟩, _⟩ := hN e he
    obtain ⟨n0, a, ha, rfl⟩ := Ke.of_blk eb
    exact (z2.2 a ha (by omega)).1
  refine ⟨by rw [List.take_left]; have := h'.row; rwa [List.take_length] at this, fun i e hi => ?_, fun e he => ?_, ?_, fun e he b eb => ?_⟩
  · rcases Nat.lt_or_ge i L.length with il | il
    · rw [List.getElem?_append_left il] at hi
      exact h'.each i e hi
    · rw [List.getElem?_append_right il] at hi
      obtain ⟨⟨zs, z1, z2⟩, _⟩ := hN e (List.mem_of_getElem? hi)
      exact ⟨zs, z1, trivial, z2.low hb⟩
  · rcases List.mem_append.1 he with q | q
    · exact h.small e q
    · exact (hN e q).2
  · refine List.pairwise_append.2 ⟨h.apart, ap, fun e he f hf b eb fb => ?_⟩
    have := (h.blk he eb).2
    have := nb f hf b fb
    omega
  · rcases List.mem_append.1 he with q | q
    · exact h.away e q b eb
    · intro hg
      have := (ow_lt h.row hg).2
      have := nb e q b eb
      omega

theorem info_u64s : (Tryd.prog.info? 22).map (fun i => (i.zero, i.size, i.bytes)) = some (some (.slice none 0 0), 1, 24) := by kernel_rfl
theorem info_int : (Tryd.prog.info? 3).map (fun i => (i.zero, i.size, i.bytes)) = some (some (.int .i64 0), 1, 8) := by kernel_rfl
theorem info_u64 : (Tryd.prog.info? 32).map (fun i => (i.zero, i.size, i.bytes)) = some (some (.int .u64 0), 1, 8) := by kernel_rfl

/-- One more list is put behind. -/
theorem KI.push {C : Nat → List Int → Prop} {B : Nat} {w : World} {mv : Value} {L : List Ke} {k : Nat} (h : KI C B w mv L k) {e : Ke} (he : L[k]? = some e) (hL : L.length ≤ 4000000000000) (hB : B ≤ w.heap.size) :
    ∃ mv' w', (Builtin.append_ #[38, 38] 38 #[mv, .slice (some ⟨w.heap.size, 0, none⟩) 1 1]).run Tryd.prog (w.alloc (.cells #[.slice e.p e.n e.n] 22)) = .ok mv' w' ∧ KI C B w' mv' L (k + 1) ∧ Below B w w' ∧ Keep (fun b => mv.ownBlock = some b) w w' ∧ (∀ b, mv'.ownBlock = some b → mv.ownBlock = some b ∨ w.heap.size ≤ b) := by
  have hk := (List.getElem?_eq_some_iff.1 he).1
  have hl : ((L.take k).map Ke.v).length ≤ 4000000000000 := by simp; omega
  obtain ⟨mv', w', e1, e2, e3, e4, e5, e6⟩ := h.row.push2 v1_len v1_one (by omega) (P := Tryd.prog) 38 Tryd.underlying38 info_u64s (by omega) rfl e.v hl hB
  have K : Keep (fun b => mv.ownBlock = some b) w w' := ⟨e4.os, e4.tape, e4.output, e4.size, fun j hj hs => e5 j hj (fun q => hs q.symm)⟩
  refine ⟨mv', w', e1, ⟨?_, fun i f hi => ?_, h.small, h.apart, fun f hf b fb => ?_⟩, e4, K, e6⟩
  · rw [List.take_add_one, he, List.map_append]
    exact e2
  · obtain ⟨zs, z1, z2, z3⟩ := h.each i f hi
    exact ⟨zs, z1, z2, z3.keep K (fun a ha h0 => h.away f (List.mem_of_getElem? hi) _ (Ke.blk_of ha (by omega)))⟩
  · intro hg
    rcases e6 b hg with q | q
    · exact h.away f hf b fb q
    · have := (h.blk hf fb).2
      omega

/-- What stands while the marks are written. -/
structure K2 (C : Nat → List Int → Prop) (B : Nat) (w : World) (mv sv : Value) (L : List Ke) (i : Nat) : Prop where
  ki : KI C B w mv L L.length
  sz : Re.Ow i1 3 1 B w sv ((L.take i).map (fun e => (e.n : Int)))
  aw : ∀ e ∈ L, ∀ b, e.blk = some b → sv.ownBlock ≠ some b
  ne : ∀ b, sv.ownBlock = some b → mv.ownBlock ≠ some b
theorem K2.push {C : Nat → List Int → Prop} {B : Nat} {w : World} {mv sv : Value} {L : List Ke} {i : Nat} (h : K2 C B w mv sv L i) {e : Ke} (he : L[i]? = some e) (hL : L.length ≤ 4000000000000) (hB : B ≤ w.heap.size) :
    ∃ sv' w', (Builtin.append_ #[46, 46] 46 #[sv, .slice (some ⟨w.heap.size, 0, none⟩) 1 1]).run Tryd.prog (w.alloc (.cells #[.int .i64 (e.n : Int)] 3)) = .ok sv' w' ∧ K2 C B w' mv sv' L (i + 1) ∧ Below B w w' := by
  have hk := (List.getElem?_eq_some_iff.1 he).1
  have hl : ((L.take i).map (fun e => (e.n : Int))).length ≤ 4000000000000 := by simp; omega
  obtain ⟨sv', w', e1, e2, e3, e4, e5, e6⟩ := h.sz.push2 i1_len i1_one (by omega) (P := Tryd.prog) 46 Tryd.underlying46 info_int (by omega) rfl (e.n : Int) hl hB
  have K : Keep (fun b => sv.ownBlock = some b) w w' := ⟨e4.os, e4.tape, e4.output, e4.size, fun j hj hs => e5 j hj (fun q => hs q.symm)⟩
  refine ⟨sv', w', e1, ⟨h.ki.keep K (fun g hg hs => h.ne g hs hg) (fun f hf b fb => h.aw f hf b fb), ?_, fun f hf b fb hg => ?_, fun b hg hm => ?_⟩, e4⟩
  · rw [List.take_add_one, he, List.map_append]
    exact e2
  · rcases e6 b hg with q | q
    · exact h.aw f hf b fb q
    · have := (h.ki.blk hf fb).2
      omega
  · rcases e6 b hg with q | q
    · exact h.ne b q hm
    · have := (ow_lt h.ki.row hm).2
      omega
theorem K2.put {C : Nat → List Int → Prop} {B : Nat} {w : World} {mv sv : Value} {L : List Ke} {i : Nat} (h : K2 C B w mv sv L i) {j : Nat} {e : Ke} (hj : L[j]? = some e) {k : Nat} (hk : k < e.n) (x : Int) (C' : Nat → List Int → Prop)
    (hC : ∀ t zs, t ≠ j → C t zs → C' t zs) (hC2 : ∀ zs, zs.length = e.n → C j zs → C' j (zs.set k x)) :
    ∃ b off y, e.p = some ⟨b, off, none⟩ ∧ w.cell? ⟨b, off + k, none⟩ = some (.int .u64 y) ∧ w.frozen? ⟨b, off + k, none⟩ = false ∧ B ≤ b ∧ K2 C' B (w.setCell ⟨b, off + k, none⟩ (.int .u64 x)) mv sv L i := by
  obtain ⟨zs, z1, z2, z3⟩ := h.ki.each j e hj
  have hm := List.mem_of_getElem? hj
  rcases z3.1 with z | ⟨b, off, hp, hc⟩
  · rw [z] at z1; simp at z1; omega
  · have eb := Ke.blk_of hp (show 0 < e.n by omega)
    have fr := z3.2 _ hp (by omega)
    have K := Keep.set w b (off + k) (.int .u64 x)
    refine ⟨b, off, _, hp, hc k (by omega), fr.2 _, fr.1, ⟨⟨h.ki.row.keep K (fun g hg e => ?_), fun t f ht => ?_, h.ki.small, h.ki.apart, h.ki.away⟩, h.sz.keep K (fun g hg e => ?_), h.aw, h.ne⟩⟩
    · subst e; exact h.ki.away _ hm _ eb hg
    · by_cases q : t = j
      · subst q
        rw [hj] at ht
        cases ht
        refine ⟨zs.set k x, by rw [List.length_set]; exact z1, hC2 zs z1 z2, .inr ⟨b, off, hp, fun u hu => ?_⟩, fun a ha h0 => ?_⟩
        · rw [List.length_set] at hu
          by_cases qu : u = k
          · subst qu
            have := hc u hu
            rw [List.getD, List.getElem?_set_self (by omega)]
            simp only [World.cell?, World.setCell] at this ⊢
            rw [Array.getElem?_modify, if_pos rfl]
            cases hh : w.heap[b]? with
            | none => rw [hh] at this; simp at this
            | some o =>
              rw [hh] at this
              cases o with
              | cells c t f =>
                have q : c[off + u]? = some (.int .u64 (zs.getD u 0)) := this
                show (c.setIfInBounds (off + u) (.int .u64 x))[off + u]? = some (.int .u64 x)
                rw [Array.getElem?_setIfInBounds, if_pos rfl, if_pos (Array.getElem?_eq_some_iff.1 q).1]
              | _ => simp at this
          · have := hc u hu
            rw [List.getD, List.getElem?_set_ne (fun e => qu e.symm)]
            rw [List.getD] at this
            rw [← this]
            simp only [World.cell?, World.setCell]
            rw [Array.getElem?_modify, if_pos rfl]
            cases hh : w.heap[b]? with
            | none => rfl
            | some o =>
              have qk : ¬ k = u := fun e => qu e.symm
              cases o with
              | cells c t f => simp [qk]
              | _ => rfl
        · rw [List.length_set] at h0
          have := z3.2 a ha h0
          exact ⟨this.1, fun o => by rw [World.frozen?_setCell]; exact this.2 o⟩
      · obtain ⟨ys, y1, y2, y3⟩ := h.ki.each t f ht
        refine ⟨ys, y1, hC t ys q y2, y3.keep K (fun a ha h0 e => ?_)⟩
        have := Apart.ne h.ki.apart ht hj q (Ke.blk_of ha (by omega))
        exact this (by rw [eb, e])
    · subst e; exact h.aw _ hm _ eb hg
end Go.Proofs.YtbdilikdenhnkaaDoor

namespace Go.Proofs.YtbdilikdenhnkaaDoor
open Go Go.RowKit Go.Deep

/-- The mark of a list. -/
def mk1 (j : Nat) : Int := 7881706626762146792 + (j : Int)
/-- What stands while the lists are grown. -/
structure K3 (B : Nat) (w : World) (mv sv : Value) (L : List Ke) (vs : List Sl) (i : Nat) : Prop where
  row : Re.Ow v1 22 1 B w mv vs
  len : vs.length = L.length
  old : ∀ j e, i ≤ j → L[j]? = some e → vs[j]? = some e.v ∧ Lies w e.p (List.replicate e.n (mk1 j)) ∧ ∀ b, e.blk = some b → mv.ownBlock ≠ some b
  new : ∀ j e, j < i → L[j]? = some e → ∃ g cap, vs[j]? = some ⟨some ⟨g, 0, none⟩, e.n + 20, cap⟩ ∧ Lies w (some ⟨g, 0, none⟩) (List.replicate (e.n + 20) (mk1 j)) ∧ mv.ownBlock ≠ some g
  sz : Re.Ow i1 3 1 B w sv (L.map (fun e => (e.n : Int)))
  ne : ∀ b, sv.ownBlock = some b → mv.ownBlock ≠ some b
theorem K3.on {B : Nat} {w w' : World} {mv sv : Value} {L : List Ke} {vs : List Sl} {i : Nat} (h : K3 B w mv sv L vs i) (hB : Below w.heap.size w w') : K3 B w' mv sv L vs i :=
  ⟨h.row.below hB, h.len, fun j e hj he => by
    obtain ⟨a, b, c⟩ := h.old j e hj he
    exact ⟨a, b.below hB (Nat.le_refl _), c⟩, fun j e hj he => by
    obtain ⟨g, cap, a, b, c⟩ := h.new j e hj he
    exact ⟨g, cap, a, b.below hB (Nat.le_refl _), c⟩, h.sz.below hB, h.ne⟩
theorem K3.put {B : Nat} {w : World} {mv sv : Value} {L : List Ke} {vs : List Sl} {i : Nat} (h : K3 B w mv sv L vs i) {e : Ke} (he : L[i]? = some e) {g cap : Nat} (hl : Lies w (some ⟨g, 0, none⟩) (List.replicate (e.n + 20) (mk1 i))) (hg : mv.ownBlock ≠ some g) :
    ∃ gk ck, mv = .slice (some ⟨gk, 0, none⟩) L.length ck ∧ B ≤ gk ∧ (∃ u, w.cell? ⟨gk, i, none⟩ = some u ∧ u.oneCell' = true) ∧ w.frozen? ⟨gk, i, none⟩ = false ∧ K3 B (w.setCell ⟨gk, i, none⟩ (.slice (some ⟨g, 0, none⟩) (e.n + 20) cap)) mv sv L (vs.set i ⟨some ⟨g, 0, none⟩, e.n + 20, cap⟩) (i + 1) := by
  have il := (List.getElem?_eq_some_iff.1 he).1
  have hlen := h.len
  rcases h.row.shape with ⟨c, rfl, hD⟩ | ⟨gk, ck, hmv, hb, hs, hc, hm⟩
  · rw [hD] at hlen; simp at hlen; omega
  · rw [hlen] at hmv
    have K := Keep.set w gk i (.slice (some ⟨g, 0, none⟩) (e.n + 20) cap)
    have row := h.row
    rw [Re.Ow, hmv, hlen] at row
    have st := (World.ownsRow.stored row i (.slice (some ⟨g, 0, none⟩) (e.n + 20) cap)).1
    have ob : mv.ownBlock = some gk := by rw [hmv]; rfl
    have fs : (Re.fl v1 vs).set i (.slice (some ⟨g, 0, none⟩) (e.n + 20) cap) = Re.fl v1 (vs.set i ⟨some ⟨g, 0, none⟩, e.n + 20, cap⟩) := by
      have : ∀ l : List Sl, Re.fl v1 l = l.map (fun x => Value.slice x.p x.n x.c) := fun l => by
        induction l with
        | nil => rfl
        | cons x l ih => rw [Re.fl, List.flatMap_cons, ← Re.fl, ih]; rfl
      rw [this, this, List.map_set]
    have cl := World.ownsRow.cellAt row i (by omega)
    obtain ⟨x, hx⟩ : ∃ x, vs[i]? = some x := ⟨_, List.getElem?_eq_getElem (by omega)⟩
    have fa := Re.fl_at v1_len hx 0 (by omega)
    rw [Nat.mul_one, Nat.add_zero] at fa
    refine ⟨gk, ck, hmv, hb, ⟨.slice x.p x.n x.c, by rw [cl, fa]; rfl, rfl⟩, World.ownsRow.frozenAt row i, ⟨?_, by rw [List.length_set]; exact hlen, fun j f hj hf => ?_, fun j f hj hf => ?_, h.sz.keep K (fun b hb e => ?_), h.ne⟩⟩
    · rw [Re.Ow, List.length_set, hlen, hmv, ← fs]
      exact st
    · obtain ⟨a, b, c⟩ := h.old j f (by omega) hf
      refine ⟨by rw [List.getElem?_set_ne (by omega)]; exact a, b.keep0 K (fun ad ha h0 q => ?_), c⟩
      rw [List.length_replicate] at h0
      exact c _ (Ke.blk_of ha h0) (by rw [ob, q])
    · by_cases q : j = i
      · subst q
        rw [he] at hf
        cases hf
        exact ⟨g, cap, by rw [List.getElem?_set_self (by omega)], hl.keep0 K (fun ad ha _ q => by cases ha; exact hg (by rw [ob]; exact congrArg some q.symm)), hg⟩
      · obtain ⟨g', cap', a, b, c⟩ := h.new j f (by omega) hf
        exact ⟨g', cap', by rw [List.getElem?_set_ne (fun e => q e.symm)]; exact a, b.keep0 K (fun ad ha _ q => by cases ha; exact c (by rw [ob]; exact congrArg some q.symm)), c⟩
    · exact h.ne b hb (by rw [ob, e])

theorem zero_u (n : Nat) : Builtin.zeroCells #[Value.int .u64 0] n = (List.replicate n (Value.int .u64 0)).toArray := by
  apply Array.ext'
  simp only [Builtin.zeroCells, Array.toList_map, Array.toList_range, List.size_toArray, List.length_cons, List.length_nil, Nat.zero_add, Nat.mul_one, Nat.mod_one]
  exact List.eq_replicate_iff.2 ⟨by simp, fun v hv => by
    obtain ⟨i, _, rfl⟩ := List.mem_map.1 hv
    rfl⟩
theorem fl_u1 (l : List Int) : Re.fl u1 l = l.map (Value.int .u64) := by
  induction l with
  | nil => rfl
  | cons x l ih => rw [Re.fl, List.flatMap_cons, ← Re.fl, ih]; rfl
/-- The first append to a list that has no room. -/
theorem first_app (p : Option Addr) (n : Nat) (zs : List Int) (x : Int) (w : World) (hz : zs.length = n) (hn : n ≤ 17592186044000) (hl : Lies w p zs) :
    ∃ cap w', (Builtin.append_ #[22, 22] 22 #[.slice p n n, .slice (some ⟨w.heap.size, 0, none⟩) 1 1]).run Tryd.prog (w.alloc (.cells #[.int .u64 x] 32)) = .ok (.slice (some ⟨w.heap.size + 1, 0, none⟩) (n + 1) cap) w' ∧ Re.Ow u1 32 1 w.heap.size w' (.slice (some ⟨w.heap.size + 1, 0, none⟩) (n + 1) cap) (zs ++ [x]) ∧ Below w.heap.size w w' := by
  obtain ⟨i, hi, hzz⟩ := Option.map_eq_some_iff.1 info_u64
  simp only [Prod.mk.injEq] at hzz
  obtain ⟨z1, z2, z3⟩ := hzz
  have bm : Below w.heap.size w (w.alloc (.cells #[.int .u64 x] 32)) := alloc_b2 _ _
  have hs : (w.alloc (.cells #[.int .u64 x] 32)).heap.size = w.heap.size + 1 := World.size_alloc _ _
  have hnew : ∀ j v, [Value.int .u64 x][j]? = some v → (w.alloc (.cells #[.int .u64 x] 32)).cell? ((⟨w.heap.size, 0, none⟩ : Addr).add j) = some v := by
    intro j u hu
    rw [Go.WideShapes.add_plain, Nat.zero_add]
    have h0 : (w.alloc (.cells #[.int .u64 x] 32)).heap[w.heap.size]? = some (.cells #[.int .u64 x] 32 (0, 0)) := heap_alloc_new w _
    simp only [World.cell?, h0]
    simpa using hu
  have fin : ∀ (cap : Nat) (W : World), n + 1 ≤ cap → cap ≤ maxLen → W.heap.size = w.heap.size + 1 → Re.Ow u1 32 1 w.heap.size (W.alloc (.cells ((zs.map (Value.int .u64)).toArray ++ [Value.int .u64 x].toArray ++ Builtin.zeroCells (Value.cells (Value.int .u64 0)) (cap - (n + 1))) 32)) (.slice (some ⟨w.heap.size + 1, 0, none⟩) (n + 1) cap) (zs ++ [x]) := by
    intro cap W h1 h2 hW
    have e : (zs.map (Value.int .u64)).toArray ++ [Value.int .u64 x].toArray ++ Builtin.zeroCells (Value.cells (Value.int .u64 0)) (cap - (n + 1)) = ((zs ++ [x]).map (Value.int .u64) ++ List.replicate (cap - (n + 1)) (Value.int .u64 0)).toArray := by
      rw [show Value.cells (Value.int .u64 0) = #[Value.int .u64 0] from rfl, zero_u]
      simp
    have l1 : ((zs ++ [x]).map (Value.int .u64)).length = n + 1 := by simp [hz]
    rw [e]
    have l2 : (zs ++ [x]).length = n + 1 := by simp [hz]
    refine ⟨by rw [fl_u1, l1, l2]; omega, .inr ⟨w.heap.size + 1, cap, ((zs ++ [x]).map (Value.int .u64) ++ List.replicate (cap - (n + 1)) (Value.int .u64 0)).toArray, by rw [l2], by omega, ?_, by rw [l2]; exact h1, h2, ?_, ?_⟩⟩
    · rw [← hW]; exact heap_alloc_new _ _
    · rw [List.size_toArray, List.length_append, l1, List.length_replicate]; omega
    · rw [fl_u1]
      show ((zs ++ [x]).map (Value.int .u64) ++ List.replicate (cap - (n + 1)) (Value.int .u64 0)).take ((zs ++ [x]).length * 1) = _
      rw [List.take_append_of_le_length (by simp), List.take_of_length_le (by simp)]
  rcases p with _ | a
  · have z0 : zs = [] := by
      rcases hl with c | ⟨b, off, hp, _⟩
      · exact c
      · cases hp
    subst z0
    obtain rfl : n = 0 := by simpa using hz.symm
    have hr := run_append_nil (P := Tryd.prog) (w.alloc (.cells #[.int .u64 x] 32)) 22 22 32 i (.int .u64 0) Tryd.underlying22 hi z1 ⟨w.heap.size, 0, none⟩ 1 1 [.int .u64 x] (by rw [z2]; rfl) hnew (by omega) (by omega) (by rw [z3]; omega)
    have hge := grownCap_ge (w.alloc (.cells #[.int .u64 x] 32)) 1 0 32
    have hle := grownCap_le_maxLen (w.alloc (.cells #[.int .u64 x] 32)) 1 0 32 (by simp only [maxLen]; omega)
    obtain ⟨cap, hcap⟩ : ∃ c, grownCap (w.alloc (.cells #[.int .u64 x] 32)) 1 0 32 = c := ⟨_, rfl⟩
    rw [hcap] at hr hge hle
    rw [hs] at hr
    refine ⟨cap, _, hr, ?_, bm.drew.alloc (by show w.heap.size ≤ (w.alloc (.cells #[.int .u64 x] 32)).heap.size; rw [hs]; omega) _⟩
    exact fin cap _ (by omega) hle hs
  · have hold : ∀ j v, (zs.map (Value.int .u64))[j]? = some v → (w.alloc (.cells #[.int .u64 x] 32)).cell? (a.add j) = some v := by
      intro j v hv
      rcases hl with c | ⟨b, off, hp, hc⟩
      · rw [c] at hv; simp at hv
      · cases hp
        have jl : j < zs.length := by have := (List.getElem?_eq_some_iff.1 hv).1; simpa using this
        have := hc j jl
        rw [Go.WideShapes.add_plain, bm.cell (p := ⟨b, off + j, none⟩) (cell_lt this), this]
        rw [List.getElem?_map, List.getElem?_eq_getElem jl] at hv
        rw [List.getD, List.getElem?_eq_getElem jl]
        exact hv
    have hr := run_append_grow (P := Tryd.prog) (w.alloc (.cells #[.int .u64 x] 32)) 22 22 32 i (.int .u64 0) Tryd.underlying22 hi z1 a n n (zs.map (Value.int .u64)) (by rw [z2, List.length_map]; omega) hold ⟨w.heap.size, 0, none⟩ 1 1 [.int .u64 x] (by rw [z2]; rfl) hnew (by omega) (by omega) (growslice_fits (by omega) (by rw [z3]; omega))
    have hge := grownCap_ge (w.alloc (.cells #[.int .u64 x] 32)) (n + 1) n 32
    have hle := grownCap_le_maxLen (w.alloc (.cells #[.int .u64 x] 32)) (n + 1) n 32 (by simp only [maxLen]; omega)
    obtain ⟨cap, hcap⟩ : ∃ c, grownCap (w.alloc (.cells #[.int .u64 x] 32)) (n + 1) n 32 = c := ⟨_, rfl⟩
    rw [hcap] at hr hge hle
    rw [hs] at hr
    refine ⟨cap, _, hr, ?_, bm.drew.alloc (by show w.heap.size ≤ (w.alloc (.cells #[.int .u64 x] 32)).heap.size; rw [hs]; omega) _⟩
    exact fin cap _ (by omega) hle hs
end Go.Proofs.YtbdilikdenhnkaaDoor

namespace Go.Proofs.YtbdilikdenhnkaaDoor
open Go Go.RowKit Go.Deep

namespace Kp
def LC (vs : List Sl) : Array Value := (vs.map (fun x => Value.slice x.p x.n x.c)).toArray
def IC (l : List Int) : Array Value := (l.map (Value.int .i64)).toArray
theorem bx_cell {w : World} {g t i : Nat} {l : List Value} {v : Value} (h : Bx w g t l.toArray) (hv : l[i]? = some v) : w.cell? ⟨g, i, none⟩ = some v := by
  simp only [Bx] at h
  simp only [World.cell?, h, List.getElem?_toArray]
  exact hv
theorem bx_free {w : World} {g t : Nat} {l : Array Value} (h : Bx w g t l) (i : Nat) : w.frozen? ⟨g, i, none⟩ = false := by
  simp only [Bx] at h
  simp [World.frozen?, h]
theorem lc_cell {w : World} {g t i : Nat} {vs : List Sl} {x : Sl} (h : Bx w g t (LC vs)) (hx : vs[i]? = some x) : w.cell? ⟨g, i, none⟩ = some (.slice x.p x.n x.c) := bx_cell h (by rw [List.getElem?_map, hx]; rfl)
theorem ic_cell {w : World} {g t i : Nat} {l : List Int} {x : Int} (h : Bx w g t (IC l)) (hx : l[i]? = some x) : w.cell? ⟨g, i, none⟩ = some (.int .i64 x) := bx_cell h (by rw [List.getElem?_map, hx]; rfl)
theorem lc_set {w : World} {g t i : Nat} {vs : List Sl} (h : Bx w g t (LC vs)) (x : Sl) : Bx (w.setCell ⟨g, i, none⟩ (.slice x.p x.n x.c)) g t (LC (vs.set i x)) := by
  have := h.set (o := i) (.slice x.p x.n x.c)
  rw [LC, List.setIfInBounds_toArray, ← List.map_set (f := fun x : Sl => Value.slice x.p x.n x.c)] at this
  exact this
theorem ic_set {w : World} {g t i : Nat} {l : List Int} (h : Bx w g t (IC l)) (x : Int) : Bx (w.setCell ⟨g, i, none⟩ (.int .i64 x)) g t (IC (l.set i x)) := by
  have := h.set (o := i) (.int .i64 x)
  rw [IC, List.setIfInBounds_toArray, ← List.map_set] at this
  exact this

/-- Lists of our own, each with limbs that C tells. -/
def Each (C : Nat → List Int → Prop) (B : Nat) (w : World) (L : List Ke) : Prop := ∀ i e, L[i]? = some e → ∃ zs, zs.length = e.n ∧ C i zs ∧ Ls B w e.p zs
theorem Each.keep {C : Nat → List Int → Prop} {B : Nat} {w w' : World} {L : List Ke} {S : Nat → Prop} (h : Each C B w L) (K : Keep S w w') (hS : ∀ e ∈ L, ∀ b, e.blk = some b → ¬ S b) : Each C B w' L := fun i e hi => by
  obtain ⟨zs, z1, z2, z3⟩ := h i e hi
  exact ⟨zs, z1, z2, z3.keep K (fun a ha h0 => hS e (List.mem_of_getElem? hi) _ (Ke.blk_of ha (by omega)))⟩
theorem Each.on {C : Nat → List Int → Prop} {B : Nat} {w w' : World} {L : List Ke} (h : Each C B w L) (hB : Below w.heap.size w w') : Each C B w' L := h.keep (S := fun _ => False) (Keep.on hB) (fun _ _ _ _ h => h)
theorem Each.mono {C C' : Nat → List Int → Prop} {B : Nat} {w : World} {L : List Ke} (h : Each C B w L) (q : ∀ i e, L[i]? = some e → ∀ zs, zs.length = e.n → C i zs → C' i zs) : Each C' B w L := fun i e hi => by
  obtain ⟨zs, z1, z2, z3⟩ := h i e hi
  exact ⟨zs, z1, q i e hi zs z1 z2, z3⟩
theorem Each.blk {C : Nat → List Int → Prop} {B : Nat} {w : World} {L : List Ke} (h : Each C B w L) {e : Ke} (he : e ∈ L) {b : Nat} (hb : e.blk = some b) : B ≤ b ∧ b < w.heap.size := by
  obtain ⟨i, hi⟩ := List.getElem?_of_mem he
  obtain ⟨zs, z1, _, z3⟩ := h i e hi
  obtain ⟨n0, a, ha, rfl⟩ := Ke.of_blk hb
  exact ⟨(z3.2 a ha (by omega)).1, z3.1.lt (by omega) a ha⟩
theorem Each.put {C : Nat → List Int → Prop} {B : Nat} {w : World} {L : List Ke} (h : Each C B w L) (ap : Apart L) {j : Nat} {e : Ke} (hj : L[j]? = some e) {k : Nat} (hk : k < e.n) (x : Int) (C' : Nat → List Int → Prop)
    (hC : ∀ t zs, t ≠ j → C t zs → C' t zs) (hC2 : ∀ zs, zs.length = e.n → C j zs → C' j (zs.set k x)) :
    ∃ b off y, e.p = some ⟨b, off, none⟩ ∧ w.cell? ⟨b, off + k, none⟩ = some (.int .u64 y) ∧ w.frozen? ⟨b, off + k, none⟩ = false ∧ e.blk = some b ∧ Each C' B (w.setCell ⟨b, off + k, none⟩ (.int .u64 x)) L := by
  obtain ⟨zs, z1, z2, z3⟩ := h j e hj
  rcases z3.1 with z | ⟨b, off, hp, hc⟩
  · rw [z] at z1; simp at z1; omega
  · have eb := Ke.blk_of hp (show 0 < e.n by omega)
    have fr := z3.2 _ hp (by omega)
    have K := Keep.set w b (off + k) (.int .u64 x)
    refine ⟨b, off, _, hp, hc k (by omega), fr.2 _, eb, fun t f ht => ?_⟩
    by_cases q : t = j
    · subst q
      rw [hj] at ht
      cases ht
      refine ⟨zs.set k x, by rw [List.length_set]; exact z1, hC2 zs z1 z2, .inr ⟨b, off, hp, fun u hu => ?_⟩, fun a ha h0 => ?_⟩
      · rw [List.length_set] at hu
        by_cases qu : u = k
        · subst qu
          have := hc u hu
          rw [List.getD, List.getElem?_set_self (by omega)]
          simp only [World.cell?, World.setCell] at this ⊢
          rw [Array.getElem?_modify, if_pos rfl]
          cases hh : w.heap[b]? with
          | none => rw [hh] at this; simp at this
          | some o =>
            rw [hh] at this
            cases o with
            | cells c t f =>
              have q : c[off + u]? = some (.int .u64 (zs.getD u 0)) := this
              show (c.setIfInBounds (off + u) (.int .u64 x))[off + u]? = some (.int .u64 x)
              rw [Array.getElem?_setIfInBounds, if_pos rfl, if_pos (Array.getElem?_eq_some_iff.1 q).1]
            | _ => simp at this
        · have := hc u hu
          rw [List.getD, List.getElem?_set_ne (fun e => qu e.symm)]
          rw [List.getD] at this
          rw [← this]
          simp only [World.cell?, World.setCell]
          rw [Array.getElem?_modify, if_pos rfl]
          cases hh : w.heap[b]? with
          | none => rfl
          | some o =>
            have qk : ¬ k = u := fun e => qu e.symm
            cases o with
            | cells c t f => simp [qk]
            | _ => rfl
      · rw [List.length_set] at h0
        have := z3.2 a ha h0
        exact ⟨this.1, fun o => by rw [World.frozen?_setCell]; exact this.2 o⟩
    · obtain ⟨ys, y1, y2, y3⟩ := h t f ht
      refine ⟨ys, y1, hC t ys q y2, y3.keep K (fun a ha h0 e => ?_)⟩
      have := Apart.ne ap ht hj q (Ke.blk_of ha (by omega))
      exact this (by rw [eb, e])

/-- The marks of list i: n of them from place a on. -/
def ms (s : Int) (i a n : Nat) : List Int := (List.range n).map (fun k => s * ((i : Int) + 1) + ((a + k : Nat) : Int))
theorem ms_len (s : Int) (i a n : Nat) : (ms s i a n).length = n := by simp [ms]
theorem ms_succ (s : Int) (i a n : Nat) : ms s i a (n + 1) = ms s i a n ++ [s * ((i : Int) + 1) + ((a + n : Nat) : Int)] := by simp [ms, List.range_succ]
theorem ms_at {s : Int} {i a n k : Nat} (h : k < n) : (ms s i a n)[k]? = some (s * ((i : Int) + 1) + ((a + k : Nat) : Int)) := by simp [ms, h]
def CM (s : Int) (i k : Nat) : Nat → List Int → Prop := fun j zs => (j < i → zs = ms s j 0 zs.length) ∧ (j = i → zs.take k = ms s i 0 k)
theorem cm_zero (s : Int) (j : Nat) (zs : List Int) : CM s 0 0 j zs := ⟨fun h => absurd h (by omega), fun _ => by simp [ms]⟩
theorem cm_other {s : Int} {i k t : Nat} {zs : List Int} (h : t ≠ i) (c : CM s i k t zs) : CM s i (k + 1) t zs := ⟨c.1, fun e => absurd e h⟩
theorem cm_put {s : Int} {i k : Nat} {zs : List Int} (h : k < zs.length) (c : CM s i k i zs) : CM s i (k + 1) i (zs.set k (s * ((i : Int) + 1) + (k : Int))) :=
  ⟨fun e => absurd e (by omega), fun _ => by
    rw [List.take_add_one, List.take_set, List.set_eq_of_length_le (by rw [List.length_take]; omega), c.2 rfl, List.getElem?_set_self h, ms_succ, Nat.zero_add]
    rfl⟩
theorem cm_next {s : Int} {i j n : Nat} {zs : List Int} (hn : j = i → zs.length = n) (c : CM s i n j zs) : CM s (i + 1) 0 j zs :=
  ⟨fun h => by
    rcases Nat.lt_or_ge j i with q | q
    · exact c.1 q
    · have e : j = i := by omega
      have := c.2 e
      rw [List.take_of_length_le (by rw [hn e]; exact Nat.le_refl _)] at this
      rw [hn e, e]
      exact this, fun _ => by simp [ms]⟩
/-- What holdsOwn looks for. -/
def HO (w : World) (vs : List Sl) (fs : List Int) (s : Int) : Prop :=
  vs.length = fs.length ∧ ∀ (i : Nat) (x : Sl), vs[i]? = some x → ∃ (f : Nat) (zs : List Int), fs[i]? = some (f : Int) ∧ zs.length = x.n ∧ x.n ≤ 1048576 ∧ f ≤ x.n ∧ Lies w x.p zs ∧ ∀ k, f ≤ k → k < x.n → zs.getD k 0 = s * ((i : Int) + 1) + (k : Int)
theorem HO.on {w w' : World} {vs : List Sl} {fs : List Int} {s : Int} (h : HO w vs fs s) (hB : Below w.heap.size w w') : HO w' vs fs s := ⟨h.1, fun i x hi => by
  obtain ⟨f, zs, a, b, c, d, e, g⟩ := h.2 i x hi
  exact ⟨f, zs, a, b, c, d, e.below hB (Nat.le_refl _), g⟩⟩
end Kp
end Go.Proofs.YtbdilikdenhnkaaDoor
