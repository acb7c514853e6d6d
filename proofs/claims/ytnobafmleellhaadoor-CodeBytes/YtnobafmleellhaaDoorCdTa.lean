/-
  abacuslaw26: copied: lists in new memory.
-/
import Derived.Test.YtnobafmleellhaaDoorCdX
import Derived.Laws.MakeOwn
namespace Go.Proofs.YtnobafmleellhaaDoor
open Go Go.RowKit Go.Deep Go.Shelf

theorem heap_setRow (w : World) (g j : Nat) (cs : Array Value) (h : j ≠ g) : (w.setRow g cs).heap[j]? = w.heap[j]? := by
  simp only [World.setRow, Array.getElem?_modify]
  rw [if_neg (fun e => h e.symm)]
theorem bx_setRow {w : World} {g t : Nat} {c cs : Array Value} (h : Bx w g t c) : Bx (w.setRow g cs) g t cs := by
  unfold Bx at *
  simp only [World.setRow, Array.getElem?_modify, h]
  rfl
theorem setRow_below {B : Nat} {w0 w : World} {g : Nat} {cs : Array Value} (h : Below B w0 w) (hg : B ≤ g) : Below B w0 (w.setRow g cs) :=
  ⟨h.os, h.tape, h.output, by simpa [World.setRow] using h.size, fun j hj => by rw [heap_setRow _ _ _ _ (by omega)]; exact h.block j hj⟩
/-- A list laid out anew, with just its room. -/
theorem cd_copy {α : Type} (enc : α → List Value) {k bytes : Nat} (hk : ∀ x, (enc x).length = k) (h1 : ∀ x, ∀ v ∈ enc x, v.oneCell' = true) (t e : TypeId) (i : TypeInfo) (z : Value) (ht : Tryd.prog.underlying t = some (.slice e)) (hi : Tryd.prog.info? e = some i) (hz : i.zero = some z)
    (hs : i.size = k) (hy : i.bytes = bytes) (D : List α) (p : Option Addr) (cap : Nat) (w : World) (hD : ∀ x, p = some x → ∀ j u, (Re.fl enc D)[j]? = some u → w.cell? (x.add j) = some u) (hp : p = none → D = []) (hn : D.length * bytes ≤ 140737488355328) (hm : D.length ≤ 9223372036854775807) :
    ∃ W1 W2, (Instr.makeSlice t (.int .i64 0) (.int .i64 (D.length : Int))).run Tryd.prog w = .ok (.slice (some ⟨w.heap.size, 0, none⟩) 0 D.length) W1 ∧ (Builtin.append_ #[t, t] t #[.slice (some ⟨w.heap.size, 0, none⟩) 0 D.length, .slice p D.length cap]).run Tryd.prog W1 = .ok (.slice (some ⟨w.heap.size, 0, none⟩) D.length D.length) W2 ∧
      Bx W2 w.heap.size e (Re.fl enc D).toArray ∧ Below w.heap.size w W1 ∧ Below w.heap.size w W2 := by
  have mk := run_make (P := Tryd.prog) w t e i z ht hi hz .i64 .i64 0 (D.length : Int) (by omega) (by omega) (by rw [hy, Int.mul_comm]; omega) (by omega)
  rw [Int.toNat_natCast, hs, show (0 : Int).toNat = 0 from rfl] at mk
  have B1 := alloc_b w (.cells (madeCells z.cells (D.length * k)) e)
  have X1 := Bx.new w e (madeCells z.cells (D.length * k))
  have sz : (madeCells z.cells (D.length * k)).size = D.length * k := by simp [madeCells]
  have fl := Re.fl_len hk D
  have one : ∀ u ∈ Re.fl enc D, u.oneCell' = true := fun u hu => by
    obtain ⟨x, _, hx⟩ := List.mem_flatMap.1 hu
    exact h1 x u hx
  cases p with
  | none =>
    have h0 := hp rfl
    subst h0
    refine ⟨_, _, mk, ?_, ?_, B1, B1⟩
    · have n0 : ([] : List α).length = 0 := rfl
      rw [n0]
      simp [Builtin.append_, run_underlying ht, sizeOf, typeInfo, hi, Builtin.lenOf, Builtin.firstCells, storeCells]
    · have e : madeCells z.cells (([] : List α).length * k) = (Re.fl enc ([] : List α)).toArray := by
        apply Array.eq_empty_of_size_eq_zero
        rw [sz]; simp
      rw [← e]; exact X1
  | some x =>
    have src : ∀ j u, (Re.fl enc D)[j]? = some u → (w.alloc (.cells (madeCells z.cells (D.length * k)) e)).cell? (x.add j) = some u := fun j u hu => by
      have c := hD x rfl j u hu
      rw [B1.cell (cell_lt c)]; exact c
    have ap := run_append_room (P := Tryd.prog) (w.alloc (.cells (madeCells z.cells (D.length * k)) e)) t t e i ht hi w.heap.size 0 D.length (madeCells z.cells (D.length * k)) X1 x D.length cap (Re.fl enc D) (by rw [hs]; exact fl) src one (by omega) (by rw [sz, fl]; omega)
    rw [Nat.zero_add] at ap
    refine ⟨_, _, mk, ap, ?_, B1, setRow_below B1 (Nat.le_refl _)⟩
    have := bx_setRow (cs := ((madeCells z.cells (D.length * k)).toList.take (0 * i.size) ++ Re.fl enc D ++ (madeCells z.cells (D.length * k)).toList.drop (0 * i.size + (Re.fl enc D).length)).toArray) X1
    have e2 : (madeCells z.cells (D.length * k)).toList.take (0 * i.size) ++ Re.fl enc D ++ (madeCells z.cells (D.length * k)).toList.drop (0 * i.size + (Re.fl enc D).length) = Re.fl enc D := by
      rw [Nat.zero_mul, List.take_zero, List.nil_append, Nat.zero_add, List.drop_eq_nil_of_le (by rw [Array.length_toList, sz, fl]; exact Nat.le_refl _), List.append_nil]
    rw [e2] at this ⊢
    exact this
theorem fl_each {α : Type} {enc : α → List Value} {k : Nat} (hk : ∀ x, (enc x).length = k) (k0 : 0 < k) {w : World} {b off : Nat} {D : List α} (h : ∀ i a, D[i]? = some a → ∀ r v, (enc a)[r]? = some v → w.cell? ⟨b, off + i * k + r, none⟩ = some v) : ∀ j u, (Re.fl enc D)[j]? = some u → w.cell? ((⟨b, off, none⟩ : Addr).add j) = some u := fun j u hu => by
  rw [Go.WideShapes.add_plain]
  have hj : j < D.length * k := by rw [← Re.fl_len hk D]; exact (List.getElem?_eq_some_iff.1 hu).1
  have hi : j / k < D.length := Nat.div_lt_of_lt_mul (by rwa [Nat.mul_comm])
  have hr : j % k < k := Nat.mod_lt _ k0
  have e : j / k * k + j % k = j := Nat.div_add_mod' j k
  have f := Re.fl_at hk (D := D) (List.getElem?_eq_getElem hi) (j % k) hr
  rw [e, hu] at f
  have := h _ _ (List.getElem?_eq_getElem hi) (j % k) u f.symm
  rwa [Nat.add_assoc, e] at this
namespace Cd
def eu (x : Int) : List Value := [.int .u64 x]
def es (s : ByteArray) : List Value := [.string s]
theorem LI.cells {w : World} {p : Option Addr} {l : List In} (h : LI w p l) : ∀ x, p = some x → ∀ j u, (Re.fl en l)[j]? = some u → w.cell? (x.add j) = some u := fun x hp j u hu => by
  have hj : j < l.length * 3 := by rw [← Re.fl_len en_len l]; exact (List.getElem?_eq_some_iff.1 hu).1
  obtain ⟨b, off, e, _⟩ := h 0 _ (List.getElem?_eq_getElem (by omega))
  obtain rfl : x = ⟨b, off, none⟩ := Option.some.inj (hp.symm.trans e)
  refine fl_each en_len (by omega) (fun i a ha r v hv => ?_) j u hu
  obtain ⟨b', off', e', c0, c1, c2⟩ := h i a ha
  have e2 := Option.some.inj (hp.symm.trans e')
  simp only [Addr.mk.injEq, and_true] at e2
  obtain ⟨rfl, rfl⟩ := e2
  have rl := (List.getElem?_eq_some_iff.1 hv).1
  rw [en_len] at rl
  rcases (show r = 0 ∨ r = 1 ∨ r = 2 by omega) with rfl | rfl | rfl
  · cases hv; exact c0
  · cases hv; exact c1
  · cases hv; exact c2
theorem LI.none {w : World} {p : Option Addr} {l : List In} (h : LI w p l) (hp : p = none) : l = [] := by
  cases l with
  | nil => rfl
  | cons a l => obtain ⟨b, off, e, _⟩ := h 0 a rfl; rw [hp] at e; cases e
theorem NI.cells {w : World} {p : Option Addr} {l : List Int} (h : NI w p l) : ∀ x, p = some x → ∀ j u, (Re.fl eu l)[j]? = some u → w.cell? (x.add j) = some u := fun x hp j u hu => by
  have hj : j < l.length * 1 := by rw [← Re.fl_len (enc := eu) (fun _ => rfl) l]; exact (List.getElem?_eq_some_iff.1 hu).1
  obtain ⟨b, off, e, _⟩ := h 0 _ (List.getElem?_eq_getElem (by omega))
  obtain rfl : x = ⟨b, off, none⟩ := Option.some.inj (hp.symm.trans e)
  refine fl_each (enc := eu) (k := 1) (fun _ => rfl) (by omega) (fun i a ha r v hv => ?_) j u hu
  obtain ⟨b', off', e', c0⟩ := h i a ha
  have e2 := Option.some.inj (hp.symm.trans e')
  simp only [Addr.mk.injEq, and_true] at e2
  obtain ⟨rfl, rfl⟩ := e2
  have rl : r < 1 := (List.getElem?_eq_some_iff.1 hv).1
  obtain rfl : r = 0 := by omega
  rw [Nat.mul_one]
  cases hv; exact c0
theorem NI.none {w : World} {p : Option Addr} {l : List Int} (h : NI w p l) (hp : p = none) : l = [] := by
  cases l with
  | nil => rfl
  | cons a l => obtain ⟨b, off, e, _⟩ := h 0 a rfl; rw [hp] at e; cases e
theorem TR.cells {w : World} {p : Option Addr} {l : List ByteArray} (h : TR w p l) : ∀ x, p = some x → ∀ j u, (Re.fl es l)[j]? = some u → w.cell? (x.add j) = some u := fun x hp j u hu => by
  rcases h with rfl | ⟨b, off, e, h⟩
  · simp [Re.fl] at hu
  obtain rfl : x = ⟨b, off, Option.none⟩ := Option.some.inj (hp.symm.trans e)
  refine fl_each (enc := es) (k := 1) (fun _ => rfl) (by omega) (fun i a ha r v hv => ?_) j u hu
  have c0 := h i a ha
  have rl : r < 1 := (List.getElem?_eq_some_iff.1 hv).1
  obtain rfl : r = 0 := by omega
  rw [Nat.mul_one]
  cases hv; exact c0
theorem TR.none {w : World} {p : Option Addr} {l : List ByteArray} (h : TR w p l) (hp : p = none) : l = [] := by
  rcases h with h | ⟨b, off, e, _⟩
  · exact h
  · rw [hp] at e; cases e
theorem NI.row {w : World} {b t : Nat} {l : List Int} (h : Bx w b t (Re.fl eu l).toArray) : NI w (some ⟨b, 0, Option.none⟩) l := fun i x hx => by
  have := Re.bx_cell (enc := eu) (k := 1) (fun _ => rfl) h hx 0 (by omega) _ rfl
  exact ⟨b, 0, rfl, by rw [Nat.zero_add]; simpa using this⟩
theorem TR.row {w : World} {b t : Nat} {l : List ByteArray} (h : Bx w b t (Re.fl es l).toArray) : TR w (some ⟨b, 0, Option.none⟩) l := .inr ⟨b, 0, rfl, fun i x hx => by
  have := Re.bx_cell (enc := es) (k := 1) (fun _ => rfl) h hx 0 (by omega) _ rfl
  rw [Nat.zero_add]; simpa using this⟩
/-- The first that isn't right. -/
theorem bad_at {n N S : Nat} : ∀ {l : List In} {i j : Nat} {x : In}, (∀ m y, l[m]? = some y → m < j → rt n N S (i + m) y = true) → l[j]? = some x → rt n N S (i + j) x = false → bad n N S l i = some (i + j)
  | [], i, j, x, _, hx, _ => by simp at hx
  | y :: l, i, 0, x, _, hx, hr => by
    simp only [List.getElem?_cons_zero, Option.some.injEq] at hx
    subst hx
    rw [bad, if_neg (by rw [Nat.add_zero] at hr; rw [hr]; decide), Nat.add_zero]
  | y :: l, i, j + 1, x, h, hx, hr => by
    have h0 := h 0 y rfl (by omega)
    rw [bad, if_pos (by rwa [Nat.add_zero] at h0)]
    have := bad_at (n := n) (N := N) (S := S) (l := l) (i := i + 1) (j := j) (x := x) (fun m z hz hm => by
      have := h (m + 1) z (by simpa using hz) (by omega)
      rwa [show i + (m + 1) = i + 1 + m by omega] at this) (by simpa using hx) (by rwa [show i + 1 + j = i + (j + 1) by omega])
    rw [this]; congr 1; omega
theorem rt_bad {n N S k : Nat} {x : In} (h : ¬ (ok x = true ∧ ¬ ((x.w = 27 ∨ x.w = 28 ∨ x.w = 29) ∧ (x.a ≤ k ∨ (n : Int) < x.a)))) : rt n N S k x = false := by
  cases hr : rt n N S k x with
  | false => rfl
  | true =>
    obtain ⟨r1, r2, _⟩ := rt_ok hr
    exfalso
    refine h ⟨r1, fun ⟨w, a⟩ => ?_⟩
    have a3 : (rx x).a = 3 := by
      rcases w with w | w | w
      · unfold rx; rw [w]; rfl
      · exact w28 w
      · exact w29 w
    have := r2 a3
    omega
/-- A code that is taken, with another instruction in it that is none. -/
theorem turned {l : List In} {N S k : Nat} {x : In} (h : (chk l N S).2.2 = 0) (hk : k < l.length) (hx : rt l.length N S k x = false) : hts (l.set k x) N S = ([], k, 260) ∧ chk (l.set k x) N S = (0, k, 260) := by
  have e : hts (l.set k x) N S = ([], k, 260) := by
    rcases hts_err l N S with h1 | ⟨h1, _⟩
    · obtain ⟨h1, hb, _⟩ := hts_ok h1
      have := bad_at (n := l.length) (N := N) (S := S) (l := l.set k x) (i := 0) (j := k) (x := x) (fun m y hy hm => by
        rw [List.getElem?_set_ne (by omega)] at hy
        exact bad_none hb m y hy) (by simp [hk]) (by rwa [Nat.zero_add])
      rw [Nat.zero_add] at this
      have b : bad (l.set k x).length N S (l.set k x) 0 = some k := by rw [List.length_set]; exact this
      exact hts_bad (by rw [List.length_set]; omega) b
    · exfalso
      unfold chk at h
      rw [h1] at h
      simp at h
  refine ⟨e, ?_⟩
  unfold chk
  rw [e]
  rfl
end Cd
end Go.Proofs.YtnobafmleellhaaDoor
