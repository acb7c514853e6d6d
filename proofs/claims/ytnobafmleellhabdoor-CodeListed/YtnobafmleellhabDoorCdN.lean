/-
  code: instructions, the table of words, heights, in whole numbers (mkcdn.py).
-/
import Derived.Test.YtnobafmleellhabDoorTrM
namespace Go.Proofs.YtnobafmleellhabDoor
open Go Go.RowKit Go.Deep

namespace Cd
structure In where
  w : Int
  a : Int
  b : Int
def en (x : In) : List Value := [.int .i64 x.w, .int .i64 x.a, .int .i64 x.b]
theorem en_len (x : In) : (en x).length = 3 := rfl
theorem en_one (x : In) : ∀ v ∈ en x, v.oneCell' = true := fun v hv => by
  simp only [en, List.mem_cons, List.not_mem_nil, or_false] at hv
  rcases hv with rfl | rfl | rfl <;> rfl
structure Rw where
  name : ByteArray
  a : Int
  b : Int
  takes : Int
  puts : Int
def er (r : Rw) : List Value := [.string r.name, .int .i64 r.a, .int .i64 r.b, .int .i64 r.takes, .int .i64 r.puts]
theorem er_len (r : Rw) : (er r).length = 5 := rfl
def zr : Rw := ⟨⟨#[]⟩, 0, 0, 0, 0⟩
def tab : List Rw :=
  [⟨⟨#[]⟩, 0, 0, 0, 0⟩,
   ⟨⟨#[110, 117, 109]⟩, 1, 0, 0, 1⟩,
   ⟨⟨#[115, 116, 114]⟩, 2, 0, 0, 1⟩,
   ⟨⟨#[118, 97, 114]⟩, 4, 0, 0, 1⟩,
   ⟨⟨#[115, 101, 116, 118, 97, 114]⟩, 4, 0, 1, 1⟩,
   ⟨⟨#[111, 112, 118, 97, 114]⟩, 4, 6, 1, 1⟩,
   ⟨⟨#[115, 116, 101, 112, 118, 97, 114]⟩, 4, 7, 0, 1⟩,
   ⟨⟨#[115, 117, 98, 118, 97, 114]⟩, 4, 9, 2, 1⟩,
   ⟨⟨#[102, 105, 101, 108, 100]⟩, 0, 0, 1, 1⟩,
   ⟨⟨#[115, 101, 116, 102, 105, 101, 108, 100]⟩, 0, 0, 2, 1⟩,
   ⟨⟨#[111, 112, 102, 105, 101, 108, 100]⟩, 0, 6, 2, 1⟩,
   ⟨⟨#[115, 116, 101, 112, 102, 105, 101, 108, 100]⟩, 0, 7, 1, 1⟩,
   ⟨⟨#[115, 117, 98, 102, 105, 101, 108, 100]⟩, 0, 9, 3, 1⟩,
   ⟨⟨#[107, 101, 121]⟩, 11, 0, 0, 1⟩,
   ⟨⟨#[101, 108, 101, 109]⟩, 5, 0, 1, 1⟩,
   ⟨⟨#[115, 101, 116, 101, 108, 101, 109]⟩, 5, 0, 2, 1⟩,
   ⟨⟨#[111, 112, 101, 108, 101, 109]⟩, 5, 6, 2, 1⟩,
   ⟨⟨#[115, 116, 101, 112, 101, 108, 101, 109]⟩, 5, 7, 1, 1⟩,
   ⟨⟨#[115, 117, 98, 101, 108, 101, 109]⟩, 5, 9, 3, 1⟩,
   ⟨⟨#[105, 110]⟩, 5, 0, 1, 1⟩,
   ⟨⟨#[110, 101, 103]⟩, 0, 0, 1, 1⟩,
   ⟨⟨#[112, 111, 115]⟩, 0, 0, 1, 1⟩,
   ⟨⟨#[110, 111, 116]⟩, 0, 0, 1, 1⟩,
   ⟨⟨#[116, 114, 117, 116, 104]⟩, 0, 0, 1, 1⟩,
   ⟨⟨#[98, 105, 110]⟩, 6, 0, 2, 1⟩,
   ⟨⟨#[99, 97, 116]⟩, 0, 0, 2, 1⟩,
   ⟨⟨#[114, 101, 108]⟩, 8, 0, 2, 1⟩,
   ⟨⟨#[106, 117, 109, 112]⟩, 3, 0, 0, 0⟩,
   ⟨⟨#[105, 102, 110, 111, 116]⟩, 3, 0, 1, 0⟩,
   ⟨⟨#[105, 102]⟩, 3, 0, 1, 0⟩,
   ⟨⟨#[112, 111, 112]⟩, 0, 0, 1, 0⟩,
   ⟨⟨#[99, 97, 108, 108]⟩, 10, 11, 0, 1⟩,
   ⟨⟨#[115, 112, 108, 105, 116]⟩, 5, 0, 2, 1⟩,
   ⟨⟨#[97, 115, 111, 114, 116]⟩, 5, 0, 0, 1⟩]
theorem tab_len : tab.length = 34 := rfl
def row (n : Nat) : Rw := tab.getD n zr
/-- What a field of a kind may hold. -/
def hd (k x : Int) : Bool :=
  if k = 1 ∨ k = 2 then decide (0 ≤ x)
  else if k = 3 then decide (1 ≤ x)
  else if k = 4 then decide (0 ≤ x ∧ x ≤ 255)
  else if k = 5 then decide (0 ≤ x ∧ x ≤ 63)
  else if k = 6 then decide (1 ≤ x ∧ x ≤ 6)
  else if k = 7 then decide (1 ≤ x ∧ x ≤ 4)
  else if k = 8 then decide (1 ≤ x ∧ x ≤ 6)
  else if k = 9 then decide (10 ≤ x ∧ x ≤ 11)
  else if k = 11 then decide (1 ≤ x ∧ x ≤ 32768)
  else decide (x = 0)
def args (f : Int) : Int × Int :=
  if f = 1 ∨ f = 6 ∨ f = 7 ∨ f = 8 ∨ f = 9 then (1, 1)
  else if f = 3 then (2, 2)
  else if f = 2 then (2, 3)
  else if f = 4 ∨ f = 12 then (1, 32768)
  else (1, 0)
def ft (r : Rw) (A B : Int) : Bool := if r.a = 10 then decide ((args A).1 ≤ B ∧ B ≤ (args A).2) else hd r.a A && hd r.b B
/-- The row of an instruction's word. -/
def rx (x : In) : Rw := row x.w.toNat
/-- Right by itself. -/
def ok (x : In) : Bool := decide (1 ≤ x.w ∧ x.w ≤ 33) && ft (rx x) x.a x.b
def tk (x : In) : Int := (rx x).takes + (if (rx x).a = 11 then x.a else 0) + (if (rx x).b = 11 then x.b else 0)
def pt (x : In) : Int := (rx x).puts
def ef (x : In) : Int × Int × Bool := if ok x then (tk x, pt x, true) else (0, 0, false)
/-- Right in a code of n instructions, N numbers, S texts, at place i. -/
def rt (n N S i : Nat) (x : In) : Bool :=
  ok x && (if (rx x).a = 1 then decide (x.a < N) else if (rx x).a = 2 then decide (x.a < S) else if (rx x).a = 3 then decide ((i : Int) + 1 ≤ x.a ∧ x.a ≤ n) else true)
/-- The first that isn't right. -/
def bad (n N S : Nat) : List In → Nat → Option Nat
  | [], _ => none
  | x :: l, i => if rt n N S i x then bad n N S l (i + 1) else some i
def gv (hs : List Int) (p : Nat) (h : Int) : Option (List Int) :=
  if hs.getD p 0 < 0 then some (hs.set p h) else if hs.getD p 0 = h then some hs else none
/-- Behind the instruction at a place. -/
def bh (x : In) (i : Nat) (hs : List Int) : Int := hs.getD i 0 - tk x + pt x
def ps1 (x : In) (i : Nat) (hs : List Int) : Option (List Int) :=
  if x.w = 27 then some hs else gv hs (i + 1) (bh x i hs)
def ps2 (x : In) (h : Int) (hs : List Int) : Option (List Int) :=
  if (rx x).a = 3 then gv hs x.a.toNat h else some hs
def ps (x : In) (i : Nat) (hs : List Int) : Option (List Int) :=
  if hs.getD i 0 < tk x ∨ 32768 < bh x i hs then none else (ps1 x i hs).bind (ps2 x (bh x i hs))
/-- The heights, or the place that isn't fit. -/
def run : List In → Nat → List Int → Nat ⊕ List Int
  | [], _, hs => .inr hs
  | x :: l, i, hs => if hs.getD i 0 < 0 then run l (i + 1) hs else match ps x i hs with
    | none => .inl i
    | some hs' => run l (i + 1) hs'
def h0 (n : Nat) : List Int := 0 :: List.replicate n (-1)
/-- Heights: the list, the place, the error. -/
def hts (l : List In) (N S : Nat) : List Int × Nat × Int :=
  if 131072 < l.length then ([], 131072, 260)
  else match bad l.length N S l 0 with
    | some i => ([], i, 260)
    | none => match run l 0 (h0 l.length) with
      | .inl i => ([], i, 260)
      | .inr hs => if hs.getD l.length 0 = 1 then (hs, 0, 0) else ([], l.length, 260)
def mx (hs : List Int) : Int := hs.foldl max 0
def chk (l : List In) (N S : Nat) : Int × Nat × Int :=
  if (hts l N S).2.2 = 0 then (mx (hts l N S).1, 0, 0) else (0, (hts l N S).2.1, (hts l N S).2.2)
/-- Instructions in memory. -/
def LI (w : World) (p : Option Addr) (l : List In) : Prop := ∀ i x, l[i]? = some x → ∃ b off, p = some ⟨b, off, none⟩ ∧ w.cell? ⟨b, off + i * 3, none⟩ = some (.int .i64 x.w) ∧ w.cell? ⟨b, off + i * 3 + 1, none⟩ = some (.int .i64 x.a) ∧ w.cell? ⟨b, off + i * 3 + 2, none⟩ = some (.int .i64 x.b)
theorem LI.below {w w' : World} {p : Option Addr} {l : List In} {B : Nat} (h : LI w p l) (hB : Below B w w') (hb : w.heap.size ≤ B) : LI w' p l := by
  intro i x hx
  obtain ⟨b, off, hp, c0, c1, c2⟩ := h i x hx
  refine ⟨b, off, hp, ?_, ?_, ?_⟩
  · rw [hB.cell (Nat.lt_of_lt_of_le (cell_lt c0) hb)]; exact c0
  · rw [hB.cell (Nat.lt_of_lt_of_le (cell_lt c1) hb)]; exact c1
  · rw [hB.cell (Nat.lt_of_lt_of_le (cell_lt c2) hb)]; exact c2
theorem LI.on {w w' : World} {p : Option Addr} {l : List In} (h : LI w p l) (hB : Below w.heap.size w w') : LI w' p l := h.below hB (Nat.le_refl _)
theorem LI.row {w : World} {b t : Nat} {D l : List In} (h : Bx w b t (Re.fl en D).toArray) (hd : ∀ (i : Nat) (x : In), l[i]? = some x → D[i]? = some x) : LI w (some ⟨b, 0, none⟩) l := by
  intro i x hx
  have hD := hd i x hx
  refine ⟨b, 0, rfl, ?_, ?_, ?_⟩
  · have := Re.bx_cell en_len h hD 0 (by omega) _ rfl
    rw [Nat.zero_add]; exact this
  · have := Re.bx_cell en_len h hD 1 (by omega) _ rfl
    rw [Nat.zero_add]; exact this
  · have := Re.bx_cell en_len h hD 2 (by omega) _ rfl
    rw [Nat.zero_add]; exact this
/-- The table's cells. -/
def TT : List Value := Re.fl er tab
theorem TT_len : TT.length = 170 := by rw [TT, Re.fl_len er_len, tab_len]
theorem TT_size : TT.toArray.size = 170 := by rw [List.size_toArray, TT_len]
theorem TT_one : ∀ v ∈ TT, v.oneCell' = true := fun v hv => by
  simp only [TT, Re.fl, List.mem_flatMap] at hv
  obtain ⟨r, _, hv⟩ := hv
  simp only [er, List.mem_cons, List.not_mem_nil, or_false] at hv
  rcases hv with rfl | rfl | rfl | rfl | rfl <;> rfl
/-- The table lies in a block. -/
def TB (w : World) (b : Nat) : Prop := Bx w b 55 TT.toArray
theorem TB.on {w w' : World} {b : Nat} (h : TB w b) (hB : Below w.heap.size w w') : TB w' b := Bx.on h hB
theorem TB.cells {w : World} {b : Nat} (h : TB w b) (n : Nat) (hn : n < 34) : w.cell? ⟨b, n * 5, none⟩ = some (.string (row n).name) ∧ w.cell? ⟨b, n * 5 + 1, none⟩ = some (.int .i64 (row n).a) ∧ w.cell? ⟨b, n * 5 + 2, none⟩ = some (.int .i64 (row n).b) ∧ w.cell? ⟨b, n * 5 + 3, none⟩ = some (.int .i64 (row n).takes) ∧ w.cell? ⟨b, n * 5 + 4, none⟩ = some (.int .i64 (row n).puts) := by
  have hi : tab[n]? = some (row n) := by
    rw [row, List.getD_eq_getElem?_getD, List.getElem?_eq_getElem (by rw [tab_len]; exact hn)]
    rfl
  have c := fun j hj v hv => Re.bx_cell er_len (D := tab) (show Bx w b 55 (Re.fl er tab).toArray from h) hi j hj v hv
  exact ⟨c 0 (by omega) _ rfl, c 1 (by omega) _ rfl, c 2 (by omega) _ rfl, c 3 (by omega) _ rfl, c 4 (by omega) _ rfl⟩
/-- Heights in memory. -/
def HB (w : World) (b : Nat) (hs : List Int) : Prop := Bx w b 3 (hs.map (Value.int .i64)).toArray
theorem HB.cell {w : World} {b : Nat} {hs : List Int} (h : HB w b hs) (i : Nat) (hi : i < hs.length) : w.cell? ⟨b, i, none⟩ = some (.int .i64 (hs.getD i 0)) := by
  refine Bx.cell h i _ ?_
  simp [List.getD, hi]
theorem HB.free {w : World} {b : Nat} {hs : List Int} (h : HB w b hs) (i : Nat) : w.frozen? ⟨b, i, none⟩ = false := Bx.free h i
theorem HB.on {w w' : World} {b : Nat} {hs : List Int} (h : HB w b hs) (hB : Below w.heap.size w w') : HB w' b hs := Bx.on h hB
theorem HB.lt {w : World} {b : Nat} {hs : List Int} (h : HB w b hs) : b < w.heap.size := Bx.lt h
theorem HB.put {w : World} {b : Nat} {hs : List Int} (h : HB w b hs) (i : Nat) (x : Int) : HB (w.setCell ⟨b, i, none⟩ (.int .i64 x)) b (hs.set i x) := by
  have := Bx.set h i (.int .i64 x)
  unfold HB
  rw [List.setIfInBounds_toArray, ← List.map_set] at this
  exact this
theorem tab_rng : ∀ r ∈ tab, 0 ≤ r.a ∧ r.a ≤ 11 ∧ 0 ≤ r.b ∧ r.b ≤ 11 ∧ 0 ≤ r.takes ∧ r.takes ≤ 3 ∧ 0 ≤ r.puts ∧ r.puts ≤ 1 ∧ (r.a = 10 → r.b = 11 ∧ r.takes = 0) ∧ (r.a = 11 → r.b = 0 ∧ r.takes = 0) ∧ (r.b = 11 → r.a = 10) ∧ r.b ≠ 10 := by
  intro r hr
  simp only [tab, List.mem_cons, List.not_mem_nil, or_false] at hr
  rcases hr with h | h | h | h | h | h | h | h | h | h | h | h | h | h | h | h | h | h | h | h | h | h | h | h | h | h | h | h | h | h | h | h | h | h <;> (rw [h]; simp)
theorem row_rng (n : Nat) : 0 ≤ (row n).a ∧ (row n).a ≤ 11 ∧ 0 ≤ (row n).b ∧ (row n).b ≤ 11 ∧ 0 ≤ (row n).takes ∧ (row n).takes ≤ 3 ∧ 0 ≤ (row n).puts ∧ (row n).puts ≤ 1 ∧ ((row n).a = 10 → (row n).b = 11 ∧ (row n).takes = 0) ∧ ((row n).a = 11 → (row n).b = 0 ∧ (row n).takes = 0) ∧ ((row n).b = 11 → (row n).a = 10) ∧ (row n).b ≠ 10 := by
  by_cases h : n < 34
  · refine tab_rng _ ?_
    rw [row, List.getD_eq_getElem?_getD, List.getElem?_eq_getElem (by rw [tab_len]; exact h)]
    exact List.getElem_mem _
  · have : row n = zr := by rw [row, List.getD_eq_getElem?_getD, List.getElem?_eq_none (by rw [tab_len]; omega)]; rfl
    rw [this]; simp [zr]
theorem args_le (f : Int) : 1 ≤ (args f).1 ∧ (args f).1 ≤ 2 ∧ 0 ≤ (args f).2 ∧ (args f).2 ≤ 32768 := by
  unfold args
  split
  · simp
  · split
    · simp
    · split
      · simp
      · split <;> simp
def RwR (q : Rw) : Prop := 0 ≤ q.a ∧ q.a ≤ 11 ∧ 0 ≤ q.b ∧ q.b ≤ 11 ∧ 0 ≤ q.takes ∧ q.takes ≤ 3 ∧ 0 ≤ q.puts ∧ q.puts ≤ 1 ∧ (q.a = 10 → q.b = 11 ∧ q.takes = 0) ∧ (q.a = 11 → q.b = 0 ∧ q.takes = 0) ∧ (q.b = 11 → q.a = 10) ∧ q.b ≠ 10
def tkq (q : Rw) (A B : Int) : Int := q.takes + (if q.a = 11 then A else 0) + (if q.b = 11 then B else 0)
theorem tkq_rng {q : Rw} {A B : Int} (r : RwR q) (h2 : ft q A B = true) : 0 ≤ tkq q A B ∧ tkq q A B ≤ 32768 ∧ 0 ≤ q.puts ∧ q.puts ≤ 1 ∧ 0 ≤ q.takes ∧ q.takes ≤ 3 ∧ (q.a = 11 → 1 ≤ A ∧ A ≤ 32768) ∧ (q.b = 11 → 0 ≤ B ∧ B ≤ 32768) := by
  have a := args_le A
  unfold tkq
  unfold ft at h2
  unfold RwR at r
  by_cases ha : q.a = 10
  · rw [if_pos ha] at h2
    have := of_decide_eq_true h2
    have r9 := r.2.2.2.2.2.2.2.2.1 ha
    rw [if_neg (show ¬ q.a = 11 by omega), if_pos r9.1]
    refine ⟨by omega, by omega, by omega, by omega, by omega, by omega, by omega, by omega⟩
  · rw [if_neg ha, Bool.and_eq_true] at h2
    have hb : q.b ≠ 11 := fun e => ha (r.2.2.2.2.2.2.2.2.2.2.1 e)
    rw [if_neg hb]
    by_cases h11 : q.a = 11
    · rw [if_pos h11]
      have h3 := h2.1
      rw [h11] at h3
      have h4 : 1 ≤ A ∧ A ≤ 32768 := by
        unfold hd at h3
        simp at h3
        exact h3
      have := r.2.2.2.2.2.2.2.2.2.1 h11
      refine ⟨by omega, by omega, by omega, by omega, by omega, by omega, fun _ => h4, fun e => absurd e hb⟩
    · rw [if_neg h11]
      refine ⟨by omega, by omega, by omega, by omega, by omega, by omega, fun e => absurd e h11, fun e => absurd e hb⟩
theorem ok_ft {x : In} (h : ok x = true) : 1 ≤ x.w ∧ x.w ≤ 33 ∧ ft (rx x) x.a x.b = true := by
  unfold ok at h
  rw [Bool.and_eq_true] at h
  have := of_decide_eq_true h.1
  exact ⟨this.1, this.2, h.2⟩
theorem tk_rng {x : In} (h : ok x = true) : 0 ≤ tk x ∧ tk x ≤ 32768 ∧ 0 ≤ pt x ∧ pt x ≤ 1 := by
  have := tkq_rng (row_rng x.w.toNat) (ok_ft h).2.2
  exact ⟨this.1, this.2.1, this.2.2.1, this.2.2.2.1⟩
end Cd
end Go.Proofs.YtnobafmleellhabDoor
