/-
  strings.Builder, strings.Repeat, strings.HasPrefix at this seat.
-/
import Derived.Test.YtbldddagddmbgaaJSpec
namespace Go.Proofs.Ytbldddagddmbgaa
open Go Go.RowKit Go.Deep Go.Shelf

theorem ret_str {a b : ByteArray} (h : a = b) : Ending.returned (.string a) = .returned (.string b) := by rw [h]
theorem str_cells {s : ByteArray} {xs : List Int} (h : Str s xs) : Lib.strCells s = xs.map (Value.int .u8) := by
  rw [← h, List.map_map]; rfl
def IsB (B b : Nat) (zs : List Int) (w : World) : Prop := Lib.IsBuilder 46 5 B b (zs.map (Value.int .u8)) w
theorem IsB.below {B b : Nat} {zs : List Int} {w w' : World} (h : IsB B b zs w) (k : Below w.heap.size w w') : IsB B b zs w' := by
  have key : ∀ p, Lib.BuilderAt 46 5 B b p (zs.map (Value.int .u8)) w → Lib.BuilderAt 46 5 B b p (zs.map (Value.int .u8)) w' := by
    rintro p ⟨h1, v, h2, h3, h4⟩
    have hl : b < w.heap.size := by
      rcases Nat.lt_or_ge b w.heap.size with c | c
      · exact c
      · simp [Array.getElem?_eq_none c] at h2
    exact ⟨h1, v, by rw [k.block b hl]; exact h2, World.ownsRow.kept (row := none) h3 ⟨k.os, k.tape, k.output, k.size, fun j hj _ => k.block j hj⟩ (by cases h : Value.ownBlock v <;> simp), h4⟩
  rcases h with h | h
  · exact .inl (key _ h)
  · exact .inr (key _ h)
theorem bwrite_any (B b : Nat) (zs xs : List Int) (s : ByteArray) (w : World) (h : IsB B b zs w) (hs : Str s xs) (hl : zs.length + xs.length ≤ 140737488355328) (hB : B ≤ w.heap.size) : Calls Try.prog 20 #[.pointer (some ⟨b, 0, none⟩), .string s] w fun e w' => e = .returned (.tuple #[.int .i64 s.size, .nilIface]) ∧ IsB B b (zs ++ xs) w' ∧ Below B w w' := by
  have q := Any.Builder_WriteString jwsLays jExtra B b (zs.map (Value.int .u8)) s w h (by have := hs.size; rw [List.length_map]; omega) hB
  rw [str_cells hs, ← List.map_append] at q
  refine q.mono ?_
  rintro e w' ⟨rfl, h1, h2⟩
  exact ⟨rfl, .inr h1, h2⟩
theorem bstr_any (B b : Nat) (zs : List Int) (w : World) (h : IsB B b zs w) (hz : ∀ x ∈ zs, 0 ≤ x ∧ x < 256) (hB : B ≤ w.heap.size) : Calls Try.prog 22 #[.pointer (some ⟨b, 0, none⟩)] w fun e w' => e = .returned (.string (strOfNums zs)) ∧ Below B w w' := by
  have S := Str.of_nums hz
  have e1 : zs.map (Value.int .u8) = Lib.byteCells (strOfNums zs).data.toList := by rw [← str_cells S]; rfl
  have h' : Lib.IsBuilder 46 5 B b (Lib.byteCells (strOfNums zs).data.toList) w := by rw [← e1]; exact h
  have q := Any.Builder_String_any { repLays with } jExtra B b (strOfNums zs).data.toList w h' hB
  have e2 : (⟨(strOfNums zs).data.toList.toArray⟩ : ByteArray) = strOfNums zs := by simp
  rw [e2] at q
  exact q
theorem bgrow_any (B b n : Nat) (w : World) (hB : B ≤ b) (hbk : w.heap[b]? = some (.cells #[.pointer none, .slice none 0 0] 46 (0, 0))) (hBw : B ≤ w.heap.size) (hn : n ≤ 281474976710656) : Calls Try.prog 19 #[.pointer (some ⟨b, 0, none⟩), .int .i64 n] w fun e w' => e = .returned (.tuple #[]) ∧ IsB B b [] w' ∧ Below B w w' := by
  refine (Any.Builder_Grow_fresh { repLays with } jExtra B b n w hB hbk hBw hn).mono ?_
  rintro e w' ⟨rfl, h1, h2⟩
  exact ⟨rfl, .inr h1, h2⟩

theorem rep_str (c : UInt8) (k : Nat) : Str ⟨(Lib.repeatL (#[c] : Array UInt8).toList k).toArray⟩ (List.replicate k (c.toNat : Int)) := by
  unfold Str
  simp only
  induction k with
  | zero => rfl
  | succ k ih =>
    rw [Lib.repeatL, List.replicate_succ]
    simpa using ih
theorem jrep (c : UInt8) (n : Nat) (w : World) (hn : n ≤ 100000) : Calls Try.prog 21 #[.string ⟨#[c]⟩, .int .i64 (n : Int)] w fun e w' => e = .returned (.string (strOfNums (Wh.rep (c.toNat : Int) (n : Int)))) ∧ Below w.heap.size w w' := by
  refine (Any.strings_Repeat repLays jExtra ⟨#[c]⟩ n w (by omega) (by have : (⟨#[c]⟩ : ByteArray).size = 1 := rfl; rw [this]; omega)).mono ?_
  rintro e w' ⟨rfl, hB⟩
  refine ⟨?_, hB⟩
  rw [Wh.rep, Int.toNat_natCast, ← str_is (rep_str c n)]
theorem jrep32 (n : Nat) (w : World) (hn : n ≤ 100000) : Calls Try.prog 21 #[.string ⟨#[32]⟩, .int .i64 (n : Int)] w fun e w' => e = .returned (.string (strOfNums (Wh.rep 32 (n : Int)))) ∧ Below w.heap.size w w' := jrep 32 n w hn
theorem jrep48 (n : Nat) (w : World) (hn : n ≤ 100000) : Calls Try.prog 21 #[.string ⟨#[48]⟩, .int .i64 (n : Int)] w fun e w' => e = .returned (.string (strOfNums (Wh.rep 48 (n : Int)))) ∧ Below w.heap.size w w' := jrep 48 n w hn

/-- A Builder of our own among what is new. -/
structure PS (w0 : World) (bb : Nat) (zs : List Int) (wk : World) : Prop where
  bel : Below w0.heap.size w0 wk
  isb : IsB bb bb zs wk
  sz : bb ≤ wk.heap.size
  lo : w0.heap.size ≤ bb
theorem PS.on {w0 wk w' : World} {bb : Nat} {zs : List Int} (h : PS w0 bb zs wk) (k : Below wk.heap.size wk w') : PS w0 bb zs w' :=
  ⟨below_on h.bel k, h.isb.below k, Nat.le_trans h.sz k.size, h.lo⟩
theorem PS.write {w0 wk : World} {bb : Nat} {zs : List Int} (h : PS w0 bb zs wk) (xs : List Int) (hx : Wh.By xs) (hl : zs.length + xs.length ≤ 140737488355328) :
    Calls Try.prog 20 #[.pointer (some ⟨bb, 0, none⟩), .string (strOfNums xs)] wk fun e w' => e = .returned (.tuple #[.int .i64 (strOfNums xs).size, .nilIface]) ∧ PS w0 bb (zs ++ xs) w' := by
  refine (bwrite_any bb bb zs xs _ wk h.isb (Str.of_nums hx) hl h.sz).mono ?_
  rintro e w' ⟨rfl, i, b⟩
  exact ⟨rfl, h.bel.trans (b.mono h.lo), i, Nat.le_trans h.sz b.size, h.lo⟩
theorem PS.str {w0 wk : World} {bb : Nat} {zs : List Int} (h : PS w0 bb zs wk) (hz : Wh.By zs) :
    Calls Try.prog 22 #[.pointer (some ⟨bb, 0, none⟩)] wk fun e w' => e = .returned (.string (strOfNums zs)) ∧ Below w0.heap.size w0 w' := by
  refine (bstr_any bb bb zs wk h.isb hz h.sz).mono ?_
  rintro e w' ⟨rfl, b⟩
  exact ⟨rfl, h.bel.trans (b.mono h.lo)⟩
theorem PS.grow {w0 w1 : World} (n : Nat) (h : Below w0.heap.size w0 w1) (hn : n ≤ 281474976710656) :
    Calls Try.prog 19 #[.pointer (some ⟨w1.heap.size, 0, none⟩), .int .i64 (n : Int)] (w1.alloc (.cells #[.pointer none, .slice none 0 0] 46)) fun e w' => e = .returned (.tuple #[]) ∧ PS w0 w1.heap.size [] w' := by
  have A := alloc_b w1 (.cells #[.pointer none, .slice none 0 0] 46)
  refine (bgrow_any w1.heap.size w1.heap.size n _ (Nat.le_refl _) (heap_alloc_new w1 _) A.size hn).mono ?_
  rintro e w' ⟨rfl, i, b⟩
  exact ⟨rfl, below_on h A |>.trans (b.mono h.size), i, Nat.le_trans A.size b.size, h.size⟩
end Go.Proofs.Ytbldddagddmbgaa
