/-
  relate's queue: entries and the rows that they stand in.
-/
import Derived.Test.YtpmmbaahoegmlaaGreatDoorReB
namespace Go.Proofs.YtpmmbaahoegmlaaGreatDoor
open Go Go.RowKit Go.Deep Go.Shelf

namespace Re
/-- An entry: a ticket and a value. -/
structure En where
  x : Tk
  k : Int
  n : Int
  s : ByteArray
  deriving Inhabited
def ee (e : En) : List Value := et e.x ++ [.int .i64 e.k, .int .u64 e.n, .string e.s]
def ees (E : List En) : List Value := E.flatMap ee
theorem ees_app (a b : List En) : ees (a ++ b) = ees a ++ ees b := by simp [ees]
theorem ees_one (a : En) : ees [a] = ee a := by simp [ees]
/-- Its seven cells. -/
theorem ee_ex (e : En) : ∃ t p u, ee e = [.bool t, .int .i64 p, .string u, .int .i64 e.x.i, .int .i64 e.k, .int .u64 e.n, .string e.s] ∧ er e.x.r = #[.bool t, .int .i64 p, .string u] := by
  obtain ⟨t, p, u, h⟩ := er_ex e.x.r
  exact ⟨t, p, u, by rw [ee, et, h]; rfl, h⟩
theorem ee_len (e : En) : (ee e).length = 7 := by
  obtain ⟨t, p, u, h, _⟩ := ee_ex e
  rw [h]; rfl
theorem ees_len : ∀ (E : List En), (ees E).length = E.length * 7
  | [] => rfl
  | e :: E => by rw [ees, List.flatMap_cons, List.length_append, ee_len, ← ees, ees_len E, List.length_cons]; omega
theorem ees_at : ∀ {A : List En} {i : Nat} {a : En}, A[i]? = some a → ∀ j, j < 7 → (ees A)[i * 7 + j]? = (ee a)[j]?
  | [], i, a, h, _, _ => by simp at h
  | b :: A, 0, a, h, j, hj => by
    obtain rfl : b = a := Option.some.inj h
    rw [ees, List.flatMap_cons, List.getElem?_append_left (by rw [ee_len]; omega)]
    simp
  | b :: A, i + 1, a, h, j, hj => by
    rw [ees, List.flatMap_cons, List.getElem?_append_right (by rw [ee_len]; omega), ← ees]
    rw [← ees_at (A := A) (i := i) (a := a) (by simpa using h) j hj]
    congr 1
    rw [ee_len]
    omega
/-- Seven cells of a list, written. -/
def set7 (L : List Value) (o : Nat) (v0 v1 v2 v3 v4 v5 v6 : Value) : List Value := ((((((L.set o v0).set (o + 1) v1).set (o + 2) v2).set (o + 3) v3).set (o + 4) v4).set (o + 5) v5).set (o + 6) v6
theorem set7_cons7 (a0 a1 a2 a3 a4 a5 a6 : Value) (L : List Value) (o : Nat) (v0 v1 v2 v3 v4 v5 v6 : Value) :
    set7 (a0 :: a1 :: a2 :: a3 :: a4 :: a5 :: a6 :: L) (o + 7) v0 v1 v2 v3 v4 v5 v6 = a0 :: a1 :: a2 :: a3 :: a4 :: a5 :: a6 :: set7 L o v0 v1 v2 v3 v4 v5 v6 := by
  unfold set7
  have e : ∀ c, o + 7 + c = (o + c) + 7 := fun c => by omega
  simp only [e, List.set]
theorem ees_set : ∀ (E : List En) (i : Nat) (x : En) (v0 v1 v2 v3 v4 v5 v6 : Value), i < E.length → ee x = [v0, v1, v2, v3, v4, v5, v6] → set7 (ees E) (i * 7) v0 v1 v2 v3 v4 v5 v6 = ees (E.set i x)
  | [], i, x, _, _, _, _, _, _, _, h, _ => by simp at h
  | e :: E, 0, x, v0, v1, v2, v3, v4, v5, v6, _, hx => by
    obtain ⟨t, p, u, h, _⟩ := ee_ex e
    rw [List.set_cons_zero, ees, ees, List.flatMap_cons, List.flatMap_cons, h, hx]
    simp [set7]
  | e :: E, i + 1, x, v0, v1, v2, v3, v4, v5, v6, hi, hx => by
    obtain ⟨t, p, u, h, _⟩ := ee_ex e
    rw [List.set_cons_succ, ees, ees, List.flatMap_cons, List.flatMap_cons, ← ees, ← ees, ← ees_set E i x v0 v1 v2 v3 v4 v5 v6 (by simpa using hi) hx, h]
    rw [show (i + 1) * 7 = i * 7 + 7 by omega]
    exact set7_cons7 _ _ _ _ _ _ _ _ _ _ _ _ _ _ _ _

/-- What changes is in S or new. -/
structure Kp (S : Nat → Prop) (w w' : World) : Prop where
  os : w'.os = w.os
  tape : w'.tape = w.tape
  output : w'.output = w.output
  size : w.heap.size ≤ w'.heap.size
  block : ∀ b, b < w.heap.size → ¬ S b → w'.heap[b]? = w.heap[b]?
theorem Kp.refl (S : Nat → Prop) (w : World) : Kp S w w := ⟨rfl, rfl, rfl, Nat.le_refl _, fun _ _ _ => rfl⟩
theorem Kp.of {S : Nat → Prop} {w w' : World} (h : Below w.heap.size w w') : Kp S w w' := ⟨h.os, h.tape, h.output, h.size, fun b hb _ => h.block b hb⟩
theorem Kp.trans {S : Nat → Prop} {a b c : World} (h : Kp S a b) (k : Kp S b c) : Kp S a c :=
  ⟨k.os.trans h.os, k.tape.trans h.tape, k.output.trans h.output, Nat.le_trans h.size k.size, fun i hi hs => (k.block i (Nat.lt_of_lt_of_le hi h.size) hs).trans (h.block i hi hs)⟩
theorem Kp.mono {S T : Nat → Prop} {w w' : World} (h : Kp S w w') (q : ∀ b, S b → T b) : Kp T w w' := ⟨h.os, h.tape, h.output, h.size, fun b hb ht => h.block b hb (fun s => ht (q b s))⟩
theorem Kp.set {S : Nat → Prop} {w w' : World} (h : Kp S w w') {b : Nat} (hb : S b) (o : Nat) (v : Value) : Kp S w (w'.setCell ⟨b, o, none⟩ v) :=
  ⟨h.os, h.tape, h.output, by simpa [World.setCell] using h.size, fun i hi hs => by
    rw [Below.heap_setCell _ _ _ _ (fun e => hs (by rw [e]; exact hb))]; exact h.block i hi hs⟩
theorem Kp.below {S : Nat → Prop} {w w' : World} {B : Nat} (h : Kp S w w') (hB : B ≤ w.heap.size) (hs : ∀ b, S b → B ≤ b) : Below B w w' :=
  ⟨h.os, h.tape, h.output, h.size, fun b hb => h.block b (by omega) (fun s => by have := hs b s; omega)⟩
theorem _root_.Go.Proofs.YtpmmbaahoegmlaaGreatDoor.Bx.kp {S : Nat → Prop} {w w' : World} {b t : Nat} {c : Array Value} (h : Bx w b t c) (k : Kp S w w') (hs : ¬ S b) : Bx w' b t c := by
  unfold Bx
  rw [k.block b h.lt hs]; exact h

/-- A row of entries of our own. -/
def RowE (base : Nat) (w : World) (mv : Value) (E : List En) : Prop := w.ownsRow base 87 7 mv E.length (ees E)
theorem RowE.below {base : Nat} {w w' : World} {mv : Value} {A : List En} (h : RowE base w mv A) (hb : Below w.heap.size w w') : RowE base w' mv A :=
  World.ownsRow.kept (row := none) h ⟨hb.os, hb.tape, hb.output, hb.size, fun j hj _ => hb.block j hj⟩ (by cases h : Value.ownBlock mv <;> simp)
theorem RowE.nil (base : Nat) (w : World) : RowE base w (.slice none 0 0) [] := World.ownsRow_nil _ _ _ _
theorem RowE.shape {base : Nat} {w : World} {mv : Value} {A : List En} (h : RowE base w mv A) : ∃ p cap, mv = .slice p A.length cap := by
  rcases h.2 with ⟨rfl, hn⟩ | ⟨g, cp, cur, rfl, _⟩
  · exact ⟨none, 0, by rw [hn]⟩
  · exact ⟨_, _, rfl⟩
theorem RowE.open {base : Nat} {w : World} {mv : Value} {A : List En} (h : RowE base w mv A) (h0 : A ≠ []) : ∃ g cap, mv = .slice (some ⟨g, 0, none⟩) A.length cap ∧ A.length ≤ cap ∧ cap ≤ maxLen ∧ base ≤ g ∧ ∃ cur, w.heap[g]? = some (.cells cur 87 (0, 0)) := by
  rcases h.2 with ⟨rfl, hn⟩ | ⟨g, cp, cur, rfl, hb, hg, hc, hm, _⟩
  · exact absurd (List.eq_nil_of_length_eq_zero hn) h0
  · exact ⟨g, cp, rfl, hc, hm, hb, cur, hg⟩
theorem RowE.cell {base : Nat} {w : World} {g cap : Nat} {A : List En} (h : RowE base w (.slice (some ⟨g, 0, none⟩) A.length cap) A) {i : Nat} {a : En} (hi : A[i]? = some a) (j : Nat) (hj : j < 7) (v : Value) (hv : (ee a)[j]? = some v) : w.cell? ⟨g, i * 7 + j, none⟩ = some v := by
  have := World.ownsRow.cells h (g := g) rfl (i * 7 + j) v (by rw [ees_at hi j hj]; exact hv)
  rw [Go.WideShapes.add_plain, Nat.zero_add] at this
  exact this
theorem RowE.free {base : Nat} {w : World} {g n cap : Nat} {A : List En} (h : RowE base w (.slice (some ⟨g, 0, none⟩) n cap) A) (i : Nat) : w.frozen? ⟨g, i, none⟩ = false := by
  rcases h.2 with ⟨c, _⟩ | ⟨g', cap', cur, e, h1, h2, h3⟩
  · cases c
  · simp only [Value.slice.injEq, Option.some.injEq] at e
    obtain ⟨e1, e2, e3⟩ := e
    cases e1
    simp [World.frozen?, h2]
/-- Seven cells of a world, written. -/
def put7 (w : World) (g o : Nat) (v0 v1 v2 v3 v4 v5 v6 : Value) : World :=
  ((((((w.setCell ⟨g, o, none⟩ v0).setCell ⟨g, o + 1, none⟩ v1).setCell ⟨g, o + 2, none⟩ v2).setCell ⟨g, o + 3, none⟩ v3).setCell ⟨g, o + 4, none⟩ v4).setCell ⟨g, o + 5, none⟩ v5).setCell ⟨g, o + 6, none⟩ v6
theorem heap_set {w : World} {g o t : Nat} {v : Value} {cur : Array Value} (h : w.heap[g]? = some (.cells cur t (0, 0))) : (w.setCell ⟨g, o, none⟩ v).heap[g]? = some (.cells (cur.setIfInBounds o v) t (0, 0)) := by
  simp [World.setCell, Array.getElem?_modify, h]
theorem RowE.put {base : Nat} {w : World} {g cap : Nat} {A : List En} (h : RowE base w (.slice (some ⟨g, 0, none⟩) A.length cap) A) (i : Nat) (x : En) (v0 v1 v2 v3 v4 v5 v6 : Value) (hi : i < A.length) (hx : ee x = [v0, v1, v2, v3, v4, v5, v6]) :
    RowE base (put7 w g (i * 7) v0 v1 v2 v3 v4 v5 v6) (.slice (some ⟨g, 0, none⟩) A.length cap) (A.set i x) := by
  refine ⟨by rw [ees_len], ?_⟩
  rcases h.2 with ⟨c, _⟩ | ⟨g', cap', cur, e, h1, h2, h3, h4, h5, h6⟩
  · cases c
  · simp only [Value.slice.injEq, Option.some.injEq] at e
    obtain ⟨e1, e2, e3⟩ := e
    cases e1
    subst e3
    refine .inr ⟨g, cap, _, by rw [List.length_set], h1, heap_set (heap_set (heap_set (heap_set (heap_set (heap_set (heap_set h2)))))), by rw [List.length_set]; exact h3, h4, by simpa using h5, ?_⟩
    rw [List.length_set, ← ees_set A i x v0 v1 v2 v3 v4 v5 v6 hi hx, ← h6]
    simp only [Array.toList_setIfInBounds, List.take_set, set7]
theorem Kp.put {S : Nat → Prop} {w w' : World} (h : Kp S w w') {g : Nat} (hg : S g) (o : Nat) (v0 v1 v2 v3 v4 v5 v6 : Value) : Kp S w (put7 w' g o v0 v1 v2 v3 v4 v5 v6) :=
  ((((((h.set hg _ _).set hg _ _).set hg _ _).set hg _ _).set hg _ _).set hg _ _).set hg _ _
theorem infoE : (Tryz.prog.info? 87).map (fun i => (i.zero, i.size, i.bytes)) = some (some (.agg #[.bool false, .int .i64 0, .string ⟨#[]⟩, .int .i64 0, .int .i64 0, .int .u64 0, .string ⟨#[]⟩]), 7, 72) := by kernel_rfl

/-- One more entry. -/
theorem RowE.push {base : Nat} {w : World} {mv : Value} {A : List En} (ho : RowE base w mv A) (a : En) (cs : Array Value) (hcs : cs.toList = ee a) (hn : A.length ≤ 1000000000000) (hb : base ≤ w.heap.size) :
    ∃ mv' w', (Builtin.append_ #[90, 90] 90 #[mv, .slice (some ⟨w.heap.size, 0, none⟩) 1 1]).run Tryz.prog (w.alloc (.cells cs 87)) = .ok mv' w' ∧ RowE base w' mv' (A ++ [a]) ∧ Kp (fun b => mv.ownBlock = some b) w w' := by
  obtain ⟨i, hi, hz⟩ := Option.map_eq_some_iff.1 infoE
  simp only [Prod.mk.injEq] at hz
  obtain ⟨z1, z2, z3⟩ := hz
  have bm : Below w.heap.size w (w.alloc (.cells cs 87)) := (Below.refl _ _).alloc (Nat.le_refl _) _
  have hs : (w.alloc (.cells cs 87)).heap.size = w.heap.size + 1 := World.size_alloc _ _
  have ho' := World.ownsRow.alloc ho (.cells cs 87)
  have hcell : ∀ j u, cs[j]? = some u → (w.alloc (.cells cs 87)).cell? ⟨w.heap.size, j, none⟩ = some u := by
    intro j u hu
    have h0 : (w.alloc (.cells cs 87)).heap[w.heap.size]? = some (.cells cs 87 (0, 0)) := heap_alloc_new w _
    simp only [World.cell?, h0]
    simpa using hu
  obtain ⟨v', w', hr, h1, h2, h3⟩ := run_append_own (P := Tryz.prog) (w.alloc (.cells cs 87)) base 90 90 87 i _ 7 72 Tryz.underlying90 hi z1 z2 z3 rfl (by omega) mv A.length (ees A) ho'
    ⟨w.heap.size, 0, none⟩ 1 1 cs.toList (by rw [hcs, ee_len]) (fun j u hu => by
      rw [Go.WideShapes.add_plain, Nat.zero_add]
      exact hcell j u (by simpa using hu)) (fun u hu => by
        obtain ⟨t, p, s, h, _⟩ := ee_ex a
        rw [hcs, h] at hu
        simp only [List.mem_cons, List.not_mem_nil, or_false] at hu
        rcases hu with rfl | rfl | rfl | rfl | rfl | rfl | rfl <;> rfl) (by simp only [maxLen]; omega) (by omega) (by rw [hs]; omega)
  have K : Kp (fun b => mv.ownBlock = some b) w w' := (Kp.of bm).trans ⟨h2.os, h2.tape, h2.output, h2.size, fun b hb hne => h2.block b hb (fun e => hne (by rw [← e]))⟩
  refine ⟨v', w', hr, ?_, K⟩
  have h1' := h1
  rw [hcs, ← ees_one, ← ees_app] at h1'
  simpa [RowE] using h1'
theorem RowE.push2 {base : Nat} {w : World} {mv : Value} {A : List En} (ho : RowE base w mv A) (a : En) (cs : Array Value) (hcv : cs.toList = ee a) (hn : A.length ≤ 1000000000000) (hb : base ≤ w.heap.size) :
    ∃ mv' w', (Builtin.append_ #[90, 90] 90 #[mv, .slice (some ⟨w.heap.size, 0, none⟩) 1 1]).run Tryz.prog (w.alloc (.cells cs 87)) = .ok mv' w' ∧ RowE base w' mv' (A ++ [a]) ∧ Kp (fun b => mv.ownBlock = some b) w w' ∧ (∀ g, mv'.ownBlock = some g → mv.ownBlock = some g ∨ w.heap.size ≤ g) := by
  obtain ⟨mv', w', h1, h2, h3⟩ := ho.push a cs hcv hn hb
  refine ⟨mv', w', h1, h2, h3, ?_⟩
  intro g hg
  obtain ⟨i, hi, hz⟩ := Option.map_eq_some_iff.1 infoE
  simp only [Prod.mk.injEq] at hz
  obtain ⟨z1, z2, z3⟩ := hz
  have hs : (w.alloc (.cells cs 87)).heap.size = w.heap.size + 1 := World.size_alloc _ _
  have hcell : ∀ j u, cs.toList[j]? = some u → (w.alloc (.cells cs 87)).cell? ((⟨w.heap.size, 0, none⟩ : Addr).add j) = some u := by
    intro j u hu
    rw [Go.WideShapes.add_plain, Nat.zero_add]
    have h0 : (w.alloc (.cells cs 87)).heap[w.heap.size]? = some (.cells cs 87 (0, 0)) := heap_alloc_new w _
    simp only [World.cell?, h0]
    simpa using hu
  have hone : ∀ u ∈ cs.toList, u.oneCell' = true := fun u hu => by
    obtain ⟨t, p, s, h, _⟩ := ee_ex a
    rw [hcv, h] at hu
    simp only [List.mem_cons, List.not_mem_nil, or_false] at hu
    rcases hu with rfl | rfl | rfl | rfl | rfl | rfl | rfl <;> rfl
  have ho' := World.ownsRow.alloc ho (.cells cs 87)
  rcases ho'.2 with ⟨rfl, h0⟩ | ⟨g', cap, cur, rfl, hbg, hgg, hnc, hcm, hcs, htake⟩
  · obtain ⟨v2, w2, r2, o2, _, _⟩ := run_append_own (P := Tryz.prog) (w.alloc (.cells cs 87)) w.heap.size 90 90 87 i _ 7 72 Tryz.underlying90 hi z1 z2 z3 rfl (by omega) (.slice none 0 0) 0 [] (World.ownsRow_nil _ _ _ _)
      ⟨w.heap.size, 0, none⟩ 1 1 cs.toList (by rw [hcv, ee_len]) hcell hone (by simp only [maxLen]; omega) (by omega) (by rw [hs]; omega)
    rw [h1] at r2
    obtain ⟨rfl, rfl⟩ : mv' = v2 ∧ w' = w2 := by injection r2 with a b; exact ⟨a, b⟩
    exact .inr (o2.lt g hg).1
  · by_cases hroom : A.length + 1 ≤ cap
    · have hr := run_append_room (P := Tryz.prog) (w.alloc (.cells cs 87)) 90 90 87 i Tryz.underlying90 hi g' A.length cap cur hgg ⟨w.heap.size, 0, none⟩ 1 1 cs.toList (by rw [z2]; rw [hcv, ee_len]) hcell hone hroom (by rw [z2, hcs]; rw [hcv, ee_len]; omega)
      rw [h1] at hr
      injection hr with a b
      rw [a] at hg
      exact .inl hg
    · have hr := run_append_grow (P := Tryz.prog) (w.alloc (.cells cs 87)) 90 90 87 i _ Tryz.underlying90 hi z1 ⟨g', 0, none⟩ A.length cap (ees A) (by rw [z2]; exact ees_len A) (ho'.cells (g := g') rfl) ⟨w.heap.size, 0, none⟩ 1 1 cs.toList (by rw [z2]; rw [hcv, ee_len]) hcell (by omega) (by omega) (growslice_fits (by omega) (by rw [z3]; omega))
      rw [h1] at hr
      injection hr with a b
      rw [a] at hg
      simp only [Value.ownBlock, Option.some.injEq] at hg
      right
      omega
end Re
end Go.Proofs.YtpmmbaahoegmlaaGreatDoor
