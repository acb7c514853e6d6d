/-
  NumeralKeeps: lists that are filled with marks; boxes of slices and of ints.
-/
import Derived.Test.YtmihjiiagpkciaaDoorQMemG
namespace Go.Proofs.YtmihjiiagpkciaaDoor
open Go Go.RowKit Go.Deep

namespace Kp
def LC (vs : List Sl) : Array Value := (vs.map (fun x => Value.slice x.p x.n x.c)).toArray
def IC (l : List Int) : Array Value := (l.map (Value.int .i64)).toArray
theorem bx_cell {w : World} {g t i : Nat} {l : List Value} {v : Value} (h : Bx w g t l.toArray) (hv : l[i]? = some v) : w.cell? ⟨g, i, none⟩ = some v := by
  simp only [Bx] at h
  simp only [World.cell?, h, List.getElem?_toArray]
  exact hv
theorem bx_free {w : World} {g t : Nat} {l : Array Value} (h : Bx w g t l) (i : Nat) : w.frozen? ⟨g, i, none⟩ = false := by
  simp only [Bx] at h
  simp [World.frozen?, h]
theorem lc_cell {w : World} {g t i : Nat} {vs : List Sl} {x : Sl} (h : Bx w g t (LC vs)) (hx : vs[i]? = some x) : w.cell? ⟨g, i, none⟩ = some (.slice x.p x.n x.c) := bx_cell h (by rw [List.getElem?_map, hx]; rfl)
theorem ic_cell {w : World} {g t i : Nat} {l : List Int} {x : Int} (h : Bx w g t (IC l)) (hx : l[i]? = some x) : w.cell? ⟨g, i, none⟩ = some (.int .i64 x) := bx_cell h (by rw [List.getElem?_map, hx]; rfl)
theorem lc_set {w : World} {g t i : Nat} {vs : List Sl} (h : Bx w g t (LC vs)) (x : Sl) : Bx (w.setCell ⟨g, i, none⟩ (.slice x.p x.n x.c)) g t (LC (vs.set i x)) := by
  have := h.set (o := i) (.slice x.p x.n x.c)
  rw [LC, List.setIfInBounds_toArray, ← List.map_set (f := fun x : Sl => Value.slice x.p x.n x.c)] at this
  exact this
theorem ic_set {w : World} {g t i : Nat} {l : List Int} (h : Bx w g t (IC l)) (x : Int) : Bx (w.setCell ⟨g, i, none⟩ (.int .i64 x)) g t (IC (l.set i x)) := by
  have := h.set (o := i) (.int .i64 x)
  rw [IC, List.setIfInBounds_toArray, ← List.map_set] at this
  exact this

/-- Lists of our own, each with limbs that C tells. -/
def Each (C : Nat → List Int → Prop) (B : Nat) (w : World) (L : List Ke) : Prop := ∀ i e, L[i]? = some e → ∃ zs, zs.length = e.n ∧ C i zs ∧ Ls B w e.p zs
theorem Each.keep {C : Nat → List Int → Prop} {B : Nat} {w w' : World} {L : List Ke} {S : Nat → Prop} (h : Each C B w L) (K : Keep S w w') (hS : ∀ e ∈ L, ∀ b, e.blk = some b → ¬ S b) : Each C B w' L := fun i e hi => by
  obtain ⟨zs, z1, z2, z3⟩ := h i e hi
  exact ⟨zs, z1, z2, z3.keep K (fun a ha h0 => hS e (List.mem_of_getElem? hi) _ (Ke.blk_of ha (by omega)))⟩
theorem Each.on {C : Nat → List Int → Prop} {B : Nat} {w w' : World} {L : List Ke} (h : Each C B w L) (hB : Below w.heap.size w w') : Each C B w' L := h.keep (S := fun _ => False) (Keep.on hB) (fun _ _ _ _ h => h)
theorem Each.mono {C C' : Nat → List Int → Prop} {B : Nat} {w : World} {L : List Ke} (h : Each C B w L) (q : ∀ i e, L[i]? = some e → ∀ zs, zs.length = e.n → C i zs → C' i zs) : Each C' B w L := fun i e hi => by
  obtain ⟨zs, z1, z2, z3⟩ := h i e hi
  exact ⟨zs, z1, q i e hi zs z1 z2, z3⟩
theorem Each.blk {C : Nat → List Int → Prop} {B : Nat} {w : World} {L : List Ke} (h : Each C B w L) {e : Ke} (he : e ∈ L) {b : Nat} (hb : e.blk = some b) : B ≤ b ∧ b < w.heap.size := by
  obtain ⟨i, hi⟩ := List.getElem?_of_mem he
  obtain ⟨zs, z1, _, z3⟩ := h i e hi
  obtain ⟨n0, a, ha, rfl⟩ := Ke.of_blk hb
  exact ⟨(z3.2 a ha (by omega)).1, z3.1.lt (by omega) a ha⟩
theorem Each.put {C : Nat → List Int → Prop} {B : Nat} {w : World} {L : List Ke} (h : Each C B w L) (ap : Apart L) {j : Nat} {e : Ke} (hj : L[j]? = some e) {k : Nat} (hk : k < e.n) (x : Int) (C' : Nat → List Int → Prop)
    (hC : ∀ t zs, t ≠ j → C t zs → C' t zs) (hC2 : ∀ zs, zs.length = e.n → C j zs → C' j (zs.set k x)) :
    ∃ b off y, e.p = some ⟨b, off, none⟩ ∧ w.cell? ⟨b, off + k, none⟩ = some (.int .u64 y) ∧ w.frozen? ⟨b, off + k, none⟩ = false ∧ e.blk = some b ∧ Each C' B (w.setCell ⟨b, off + k, none⟩ (.int .u64 x)) L := by
  obtain ⟨zs, z1, z2, z3⟩ := h j e hj
  rcases z3.1 with z | ⟨b, off, hp, hc⟩
  · rw [z] at z1; simp at z1; omega
  · have eb := Ke.blk_of hp (show 0 < e.n by omega)
    have fr := z3.2 _ hp (by omega)
    have K := Keep.set w b (off + k) (.int .u64 x)
    refine ⟨b, off, _, hp, hc k (by omega), fr.2 _, eb, fun t f ht => ?_⟩
    by_cases q : t = j
    · subst q
      rw [hj] at ht
      cases ht
      refine ⟨zs.set k x, by rw [List.length_set]; exact z1, hC2 zs z1 z2, .inr ⟨b, off, hp, fun u hu => ?_⟩, fun a ha h0 => ?_⟩
      · rw [List.length_set] at hu
        by_cases qu : u = k
        · subst qu
          have := hc u hu
          rw [List.getD, List.getElem?_set_self (by omega)]
          simp only [World.cell?, World.setCell] at this ⊢
          rw [Array.getElem?_modify, if_pos rfl]
          cases hh : w.heap[b]? with
          | none => rw [hh] at this; simp at this
          | some o =>
            rw [hh] at this
            cases o with
            | cells c t f =>
              have q : c[off + u]? = some (.int .u64 (zs.getD u 0)) := this
              show (c.setIfInBounds (off + u) (.int .u64 x))[off + u]? = some (.int .u64 x)
              rw [Array.getElem?_setIfInBounds, if_pos rfl, if_pos (Array.getElem?_eq_some_iff.1 q).1]
            | _ => simp at this
        · have := hc u hu
          rw [List.getD, List.getElem?_set_ne (fun e => qu e.symm)]
          rw [List.getD] at this
          rw [← this]
          simp only [World.cell?, World.setCell]
          rw [Array.getElem?_modify, if_pos rfl]
          cases hh : w.heap[b]? with
          | none => rfl
          | some o =>
            have qk : ¬ k = u := fun e => qu e.symm
            cases o with
            | cells c t f => simp [qk]
            | _ => rfl
      · rw [List.length_set] at h0
        have := z3.2 a ha h0
        exact ⟨this.1, fun o => by rw [World.frozen?_setCell]; exact this.2 o⟩
    · obtain ⟨ys, y1, y2, y3⟩ := h t f ht
      refine ⟨ys, y1, hC t ys q y2, y3.keep K (fun a ha h0 e => ?_)⟩
      have := Apart.ne ap ht hj q (Ke.blk_of ha (by omega))
      exact this (by rw [eb, e])

/-- The marks of list i: n of them from place a on. -/
def ms (s : Int) (i a n : Nat) : List Int := (List.range n).map (fun k => s * ((i : Int) + 1) + ((a + k : Nat) : Int))
theorem ms_len (s : Int) (i a n : Nat) : (ms s i a n).length = n := by simp [ms]
theorem ms_succ (s : Int) (i a n : Nat) : ms s i a (n + 1) = ms s i a n ++ [s * ((i : Int) + 1) + ((a + n : Nat) : Int)] := by simp [ms, List.range_succ]
theorem ms_at {s : Int} {i a n k : Nat} (h : k < n) : (ms s i a n)[k]? = some (s * ((i : Int) + 1) + ((a + k : Nat) : Int)) := by simp [ms, h]
def CM (s : Int) (i k : Nat) : Nat → List Int → Prop := fun j zs => (j < i → zs = ms s j 0 zs.length) ∧ (j = i → zs.take k = ms s i 0 k)
theorem cm_zero (s : Int) (j : Nat) (zs : List Int) : CM s 0 0 j zs := ⟨fun h => absurd h (by omega), fun _ => by simp [ms]⟩
theorem cm_other {s : Int} {i k t : Nat} {zs : List Int} (h : t ≠ i) (c : CM s i k t zs) : CM s i (k + 1) t zs := ⟨c.1, fun e => absurd e h⟩
theorem cm_put {s : Int} {i k : Nat} {zs : List Int} (h : k < zs.length) (c : CM s i k i zs) : CM s i (k + 1) i (zs.set k (s * ((i : Int) + 1) + (k : Int))) :=
  ⟨fun e => absurd e (by omega), fun _ => by
    rw [List.take_add_one, List.take_set, List.set_eq_of_length_le (by rw [List.length_take]; omega), c.2 rfl, List.getElem?_set_self h, ms_succ, Nat.zero_add]
    rfl⟩
theorem cm_next {s : Int} {i j n : Nat} {zs : List Int} (hn : j = i → zs.length = n) (c : CM s i n j zs) : CM s (i + 1) 0 j zs :=
  ⟨fun h => by
    rcases Nat.lt_or_ge j i with q | q
    · exact c.1 q
    · have e : j = i := by omega
      have := c.2 e
      rw [List.take_of_length_le (by rw [hn e]; exact Nat.le_refl _)] at this
      rw [hn e, e]
      exact this, fun _ => by simp [ms]⟩
/-- What holdsOwn looks for. -/
def HO (w : World) (vs : List Sl) (fs : List Int) (s : Int) : Prop :=
  vs.length = fs.length ∧ ∀ (i : Nat) (x : Sl), vs[i]? = some x → ∃ (f : Nat) (zs : List Int), fs[i]? = some (f : Int) ∧ zs.length = x.n ∧ x.n ≤ 1048576 ∧ f ≤ x.n ∧ Lies w x.p zs ∧ ∀ k, f ≤ k → k < x.n → zs.getD k 0 = s * ((i : Int) + 1) + (k : Int)
theorem HO.on {w w' : World} {vs : List Sl} {fs : List Int} {s : Int} (h : HO w vs fs s) (hB : Below w.heap.size w w') : HO w' vs fs s := ⟨h.1, fun i x hi => by
  obtain ⟨f, zs, a, b, c, d, e, g⟩ := h.2 i x hi
  exact ⟨f, zs, a, b, c, d, e.below hB (Nat.le_refl _), g⟩⟩
end Kp
end Go.Proofs.YtmihjiiagpkciaaDoor
