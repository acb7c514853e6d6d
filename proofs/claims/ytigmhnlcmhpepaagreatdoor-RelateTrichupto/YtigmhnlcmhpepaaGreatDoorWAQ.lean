/-
  Texts put together: ReE, ReF, NRound, FKp, FKept, FRdN.
-/
import Derived.Test.YtigmhnlcmhpepaaGreatDoorWAJ
import Derived.Deep.MidRow
import Derived.Shelf.SlSortCmp.InsertionK
import Derived.Test.YtigmhnlcmhpepaaGreatDoorWAM
import Derived.Test.YtigmhnlcmhpepaaGreatDoorWAD
import Derived.Test.YtigmhnlcmhpepaaGreatDoorWAI
import Derived.OwnWalk
import Derived.Test.YtigmhnlcmhpepaaGreatDoorWAL
import Derived.Laws.Concat
namespace Go.Proofs.YtigmhnlcmhpepaaGreatDoor
open Go Go.RowKit Go.Deep Go.Shelf

namespace Re
/-- An entry: a ticket and a value. -/
structure En where
  x : Tk
  k : Int
  n : Int
  s : ByteArray
  deriving Inhabited
def ee (e : En) : List Value := et e.x ++ [.int .i64 e.k, .int .u64 e.n, .string e.s]
def ees (E : List En) : List Value := E.flatMap ee
theorem ees_app (a b : List En) : ees (a ++ b) = ees a ++ ees b := by simp [ees]
theorem ees_one (a : En) : ees [a] = ee a := by simp [ees]
/-- Its seven cells. -/
theorem ee_ex (e : En) : ∃ t p u, ee e = [.bool t, .int .i64 p, .string u, .int .i64 e.x.i, .int .i64 e.k, .int .u64 e.n, .string e.s] ∧ er e.x.r = #[.bool t, .int .i64 p, .string u] := by
  obtain ⟨t, p, u, h⟩ := er_ex e.x.r
  exact ⟨t, p, u, by rw [ee, et, h]; rfl, h⟩
theorem ee_len (e : En) : (ee e).length = 7 := by
  obtain ⟨t, p, u, h, _⟩ := ee_ex e
  rw [h]; rfl
theorem ees_len : ∀ (E : List En), (ees E).length = E.length * 7
  | [] => rfl
  | e :: E => by rw [ees, List.flatMap_cons, List.length_append, ee_len, ← ees, ees_len E, List.length_cons]; omega
theorem ees_at : ∀ {A : List En} {i : Nat} {a : En}, A[i]? = some a → ∀ j, j < 7 → (ees A)[i * 7 + j]? = (ee a)[j]?
  | [], i, a, h, _, _ => by simp at h
  | b :: A, 0, a, h, j, hj => by
    obtain rfl : b = a := Option.some.inj h
    rw [ees, List.flatMap_cons, List.getElem?_append_left (by rw [ee_len]; omega)]
    simp
  | b :: A, i + 1, a, h, j, hj => by
    rw [ees, List.flatMap_cons, List.getElem?_append_right (by rw [ee_len]; omega), ← ees]
    rw [← ees_at (A := A) (i := i) (a := a) (by simpa using h) j hj]
    congr 1
    rw [ee_len]
    omega
/-- Seven cells of a list, written. -/
def set7 (L : List Value) (o : Nat) (v0 v1 v2 v3 v4 v5 v6 : Value) : List Value := ((((((L.set o v0).set (o + 1) v1).set (o + 2) v2).set (o + 3) v3).set (o + 4) v4).set (o + 5) v5).set (o + 6) v6
theorem set7_cons7 (a0 a1 a2 a3 a4 a5 a6 : Value) (L : List Value) (o : Nat) (v0 v1 v2 v3 v4 v5 v6 : Value) :
    set7 (a0 :: a1 :: a2 :: a3 :: a4 :: a5 :: a6 :: L) (o + 7) v0 v1 v2 v3 v4 v5 v6 = a0 :: a1 :: a2 :: a3 :: a4 :: a5 :: a6 :: set7 L o v0 v1 v2 v3 v4 v5 v6 := by
  unfold set7
  have e : ∀ c, o + 7 + c = (o + c) + 7 := fun c => by omega
  simp only [e, List.set]
theorem ees_set : ∀ (E : List En) (i : Nat) (x : En) (v0 v1 v2 v3 v4 v5 v6 : Value), i < E.length → ee x = [v0, v1, v2, v3, v4, v5, v6] → set7 (ees E) (i * 7) v0 v1 v2 v3 v4 v5 v6 = ees (E.set i x)
  | [], i, x, _, _, _, _, _, _, _, h, _ => by simp at h
  | e :: E, 0, x, v0, v1, v2, v3, v4, v5, v6, _, hx => by
    obtain ⟨t, p, u, h, _⟩ := ee_ex e
    rw [List.set_cons_zero, ees, ees, List.flatMap_cons, List.flatMap_cons, h, hx]
    simp [set7]
  | e :: E, i + 1, x, v0, v1, v2, v3, v4, v5, v6, hi, hx => by
    obtain ⟨t, p, u, h, _⟩ := ee_ex e
    rw [List.set_cons_succ, ees, ees, List.flatMap_cons, List.flatMap_cons, ← ees, ← ees, ← ees_set E i x v0 v1 v2 v3 v4 v5 v6 (by simpa using hi) hx, h]
    rw [show (i + 1) * 7 = i * 7 + 7 by omega]
    exact set7_cons7 _ _ _ _ _ _ _ _ _ _ _ _ _ _ _ _

/-- What changes is in S or new. -/
structure Kp (S : Nat → Prop) (w w' : World) : Prop where
  os : w'.os = w.os
  tape : w'.tape = w.tape
  output : w'.output = w.output
  size : w.heap.size ≤ w'.heap.size
  block : ∀ b, b < w.heap.size → ¬ S b → w'.heap[b]? = w.heap[b]?
theorem Kp.refl (S : Nat → Prop) (w : World) : Kp S w w := ⟨rfl, rfl, rfl, Nat.le_refl _, fun _ _ _ => rfl⟩
theorem Kp.of {S : Nat → Prop} {w w' : World} (h : Below w.heap.size w w') : Kp S w w' := ⟨h.os, h.tape, h.output, h.size, fun b hb _ => h.block b hb⟩
theorem Kp.trans {S : Nat → Prop} {a b c : World} (h : Kp S a b) (k : Kp S b c) : Kp S a c :=
  ⟨k.os.trans h.os, k.tape.trans h.tape, k.output.trans h.output, Nat.le_trans h.size k.size, fun i hi hs => (k.block i (Nat.lt_of_lt_of_le hi h.size) hs).trans (h.block i hi hs)⟩
theorem Kp.mono {S T : Nat → Prop} {w w' : World} (h : Kp S w w') (q : ∀ b, S b → T b) : Kp T w w' := ⟨h.os, h.tape, h.output, h.size, fun b hb ht => h.block b hb (fun s => ht (q b s))⟩
theorem Kp.set {S : Nat → Prop} {w w' : World} (h : Kp S w w') {b : Nat} (hb : S b) (o : Nat) (v : Value) : Kp S w (w'.setCell ⟨b, o, none⟩ v) :=
  ⟨h.os, h.tape, h.output, by simpa [World.setCell] using h.size, fun i hi hs => by
    rw [Below.heap_setCell _ _ _ _ (fun e => hs (by rw [e]; exact hb))]; exact h.block i hi hs⟩
theorem Kp.below {S : Nat → Prop} {w w' : World} {B : Nat} (h : Kp S w w') (hB : B ≤ w.heap.size) (hs : ∀ b, S b → B ≤ b) : Below B w w' :=
  ⟨h.os, h.tape, h.output, h.size, fun b hb => h.block b (by omega) (fun s => by have := hs b s; omega)⟩
theorem _root_.Go.Proofs.YtigmhnlcmhpepaaGreatDoor.Bx.kp {S : Nat → Prop} {w w' : World} {b t : Nat} {c : Array Value} (h : Bx w b t c) (k : Kp S w w') (hs : ¬ S b) : Bx w' b t c := by
  unfold Bx
  rw [k.block b h.lt hs]; exact h

/-- A row of entries of our own. -/
def RowE (base : Nat) (w : World) (mv : Value) (E : List En) : Prop := w.ownsRow base 68 7 mv E.length (ees E)
theorem RowE.below {base : Nat} {w w' : World} {mv : Value} {A : List En} (h : RowE base w mv A) (hb : Below w.heap.size w w') : RowE base w' mv A :=
  World.ownsRow.kept (row := none) h ⟨hb.os, hb.tape, hb.output, hb.size, fun j hj _ => hb.block j hj⟩ (by cases h : Value.ownBlock mv <;> simp)
theorem RowE.nil (base : Nat) (w : World) : RowE base w (.slice none 0 0) [] := World.ownsRow_nil _ _ _ _
theorem RowE.shape {base : Nat} {w : World} {mv : Value} {A : List En} (h : RowE base w mv A) : ∃ p cap, mv = .slice p A.length cap := by
  rcases h.2 with ⟨rfl, hn⟩ | ⟨g, cp, cur, rfl, _⟩
  · exact ⟨none, 0, by rw [hn]⟩
  · exact ⟨_, _, rfl⟩
theorem RowE.open {base : Nat} {w : World} {mv : Value} {A : List En} (h : RowE base w mv A) (h0 : A ≠ []) : ∃ g cap, mv = .slice (some ⟨g, 0, none⟩) A.length cap ∧ A.length ≤ cap ∧ cap ≤ maxLen ∧ base ≤ g ∧ ∃ cur, w.heap[g]? = some (.cells cur 68 (0, 0)) := by
  rcases h.2 with ⟨rfl, hn⟩ | ⟨g, cp, cur, rfl, hb, hg, hc, hm, _⟩
  · exact absurd (List.eq_nil_of_length_eq_zero hn) h0
  · exact ⟨g, cp, rfl, hc, hm, hb, cur, hg⟩
theorem RowE.cell {base : Nat} {w : World} {g cap : Nat} {A : List En} (h : RowE base w (.slice (some ⟨g, 0, none⟩) A.length cap) A) {i : Nat} {a : En} (hi : A[i]? = some a) (j : Nat) (hj : j < 7) (v : Value) (hv : (ee a)[j]? = some v) : w.cell? ⟨g, i * 7 + j, none⟩ = some v := by
  have := World.ownsRow.cells h (g := g) rfl (i * 7 + j) v (by rw [ees_at hi j hj]; exact hv)
  rw [Go.WideShapes.add_plain, Nat.zero_add] at this
  exact this
theorem RowE.free {base : Nat} {w : World} {g n cap : Nat} {A : List En} (h : RowE base w (.slice (some ⟨g, 0, none⟩) n cap) A) (i : Nat) : w.frozen? ⟨g, i, none⟩ = false := by
  rcases h.2 with ⟨c, _⟩ | ⟨g', cap', cur, e, h1, h2, h3⟩
  · cases c
  · simp only [Value.slice.injEq, Option.some.injEq] at e
    obtain ⟨e1, e2, e3⟩ := e
    cases e1
    simp [World.frozen?, h2]
/-- Seven cells of a world, written. -/
def put7 (w : World) (g o : Nat) (v0 v1 v2 v3 v4 v5 v6 : Value) : World :=
  ((((((w.setCell ⟨g, o, none⟩ v0).setCell ⟨g, o + 1, none⟩ v1).setCell ⟨g, o + 2, none⟩ v2).setCell ⟨g, o + 3, none⟩ v3).setCell ⟨g, o + 4, none⟩ v4).setCell ⟨g, o + 5, none⟩ v5).setCell ⟨g, o + 6, none⟩ v6
theorem heap_set {w : World} {g o t : Nat} {v : Value} {cur : Array Value} (h : w.heap[g]? = some (.cells cur t (0, 0))) : (w.setCell ⟨g, o, none⟩ v).heap[g]? = some (.cells (cur.setIfInBounds o v) t (0, 0)) := by
  simp [World.setCell, Array.getElem?_modify, h]
theorem RowE.put {base : Nat} {w : World} {g cap : Nat} {A : List En} (h : RowE base w (.slice (some ⟨g, 0, none⟩) A.length cap) A) (i : Nat) (x : En) (v0 v1 v2 v3 v4 v5 v6 : Value) (hi : i < A.length) (hx : ee x = [v0, v1, v2, v3, v4, v5, v6]) :
    RowE base (put7 w g (i * 7) v0 v1 v2 v3 v4 v5 v6) (.slice (some ⟨g, 0, none⟩) A.length cap) (A.set i x) := by
  refine ⟨by rw [ees_len], ?_⟩
  rcases h.2 with ⟨c, _⟩ | ⟨g', cap', cur, e, h1, h2, h3, h4, h5, h6⟩
  · cases c
  · simp only [Value.slice.injEq, Option.some.injEq] at e
    obtain ⟨e1, e2, e3⟩ := e
    cases e1
    subst e3
    refine .inr ⟨g, cap, _, by rw [List.length_set], h1, heap_set (heap_set (heap_set (heap_set (heap_set (heap_set (heap_set h2)))))), by rw [List.length_set]; exact h3, h4, by simpa using h5, ?_⟩
    rw [List.length_set, ← ees_set A i x v0 v1 v2 v3 v4 v5 v6 hi hx, ← h6]
    simp only [Array.toList_setIfInBounds, List.take_set, set7]
theorem Kp.put {S : Nat → Prop} {w w' : World} (h : Kp S w w') {g : Nat} (hg : S g) (o : Nat) (v0 v1 v2 v3 v4 v5 v6 : Value) : Kp S w (put7 w' g o v0 v1 v2 v3 v4 v5 v6) :=
  ((((((h.set hg _ _).set hg _ _).set hg _ _).set hg _ _).set hg _ _).set hg _ _).set hg _ _
theorem infoE : (Tryz.prog.info? 68).map (fun i => (i.zero, i.size, i.bytes)) = some (some (.agg #[.bool false, .int .i64 0, .string ⟨#[]⟩, .int .i64 0, .int .i64 0, .int .u64 0, .string ⟨#[]⟩]), 7, 72) := by kernel_rfl

/-- One more entry. -/
theorem RowE.push {base : Nat} {w : World} {mv : Value} {A : List En} (ho : RowE base w mv A) (a : En) (cs : Array Value) (hcs : cs.toList = ee a) (hn : A.length ≤ 1000000000000) (hb : base ≤ w.heap.size) :
    ∃ mv' w', (Builtin.append_ #[72, 72] 72 #[mv, .slice (some ⟨w.heap.size, 0, none⟩) 1 1]).run Tryz.prog (w.alloc (.cells cs 68)) = .ok mv' w' ∧ RowE base w' mv' (A ++ [a]) ∧ Kp (fun b => mv.ownBlock = some b) w w' := by
  obtain ⟨i, hi, hz⟩ := Option.map_eq_some_iff.1 infoE
  simp only [Prod.mk.injEq] at hz
  obtain ⟨z1, z2, z3⟩ := hz
  have bm : Below w.heap.size w (w.alloc (.cells cs 68)) := (Below.refl _ _).alloc (Nat.le_refl _) _
  have hs : (w.alloc (.cells cs 68)).heap.size = w.heap.size + 1 := World.size_alloc _ _
  have ho' := World.ownsRow.alloc ho (.cells cs 68)
  have hcell : ∀ j u, cs[j]? = some u → (w.alloc (.cells cs 68)).cell? ⟨w.heap.size, j, none⟩ = some u := by
    intro j u hu
    have h0 : (w.alloc (.cells cs 68)).heap[w.heap.size]? = some (.cells cs 68 (0, 0)) := heap_alloc_new w _
    simp only [World.cell?, h0]
    simpa using hu
  obtain ⟨v', w', hr, h1, h2, h3⟩ := run_append_own (P := Tryz.prog) (w.alloc (.cells cs 68)) base 72 72 68 i _ 7 72 Tryz.underlying72 hi z1 z2 z3 rfl (by omega) mv A.length (ees A) ho'
    ⟨w.heap.size, 0, none⟩ 1 1 cs.toList (by rw [hcs, ee_len]) (fun j u hu => by
      rw [Go.WideShapes.add_plain, Nat.zero_add]
      exact hcell j u (by simpa using hu)) (fun u hu => by
        obtain ⟨t, p, s, h, _⟩ := ee_ex a
        rw [hcs, h] at hu
        simp only [List.mem_cons, List.not_mem_nil, or_false] at hu
        rcases hu with rfl | rfl | rfl | rfl | rfl | rfl | rfl <;> rfl) (by simp only [maxLen]; omega) (by omega) (by rw [hs]; omega)
  have K : Kp (fun b => mv.ownBlock = some b) w w' := (Kp.of bm).trans ⟨h2.os, h2.tape, h2.output, h2.size, fun b hb hne => h2.block b hb (fun e => hne (by rw [← e]))⟩
  refine ⟨v', w', hr, ?_, K⟩
  have h1' := h1
  rw [hcs, ← ees_one, ← ees_app] at h1'
  simpa [RowE] using h1'
theorem RowE.push2 {base : Nat} {w : World} {mv : Value} {A : List En} (ho : RowE base w mv A) (a : En) (cs : Array Value) (hcv : cs.toList = ee a) (hn : A.length ≤ 1000000000000) (hb : base ≤ w.heap.size) :
    ∃ mv' w', (Builtin.append_ #[72, 72] 72 #[mv, .slice (some ⟨w.heap.size, 0, none⟩) 1 1]).run Tryz.prog (w.alloc (.cells cs 68)) = .ok mv' w' ∧ RowE base w' mv' (A ++ [a]) ∧ Kp (fun b => mv.ownBlock = some b) w w' ∧ (∀ g, mv'.ownBlock = some g → mv.ownBlock = some g ∨ w.heap.size ≤ g) := by
  obtain ⟨mv', w', h1, h2, h3⟩ := ho.push a cs hcv hn hb
  refine ⟨mv', w', h1, h2, h3, ?_⟩
  intro g hg
  obtain ⟨i, hi, hz⟩ := Option.map_eq_some_iff.1 infoE
  simp only [Prod.mk.injEq] at hz
  obtain ⟨z1, z2, z3⟩ := hz
  have hs : (w.alloc (.cells cs 68)).heap.size = w.heap.size + 1 := World.size_alloc _ _
  have hcell : ∀ j u, cs.toList[j]? = some u → (w.alloc (.cells cs 68)).cell? ((⟨w.heap.size, 0, none⟩ : Addr).add j) = some u := by
    intro j u hu
    rw [Go.WideShapes.add_plain, Nat.zero_add]
    have h0 : (w.alloc (.cells cs 68)).heap[w.heap.size]? = some (.cells cs 68 (0, 0)) := heap_alloc_new w _
    simp only [World.cell?, h0]
    simpa using hu
  have hone : ∀ u ∈ cs.toList, u.oneCell' = true := fun u hu => by
    obtain ⟨t, p, s, h, _⟩ := ee_ex a
    rw [hcv, h] at hu
    simp only [List.mem_cons, List.not_mem_nil, or_false] at hu
    rcases hu with rfl | rfl | rfl | rfl | rfl | rfl | rfl <;> rfl
  have ho' := World.ownsRow.alloc ho (.cells cs 68)
  rcases ho'.2 with ⟨rfl, h0⟩ | ⟨g', cap, cur, rfl, hbg, hgg, hnc, hcm, hcs, htake⟩
  · obtain ⟨v2, w2, r2, o2, _, _⟩ := run_append_own (P := Tryz.prog) (w.alloc (.cells cs 68)) w.heap.size 72 72 68 i _ 7 72 Tryz.underlying72 hi z1 z2 z3 rfl (by omega) (.slice none 0 0) 0 [] (World.ownsRow_nil _ _ _ _)
      ⟨w.heap.size, 0, none⟩ 1 1 cs.toList (by rw [hcv, ee_len]) hcell hone (by simp only [maxLen]; omega) (by omega) (by rw [hs]; omega)
    rw [h1] at r2
    obtain ⟨rfl, rfl⟩ : mv' = v2 ∧ w' = w2 := by injection r2 with a b; exact ⟨a, b⟩
    exact .inr (o2.lt g hg).1
  · by_cases hroom : A.length + 1 ≤ cap
    · have hr := run_append_room (P := Tryz.prog) (w.alloc (.cells cs 68)) 72 72 68 i Tryz.underlying72 hi g' A.length cap cur hgg ⟨w.heap.size, 0, none⟩ 1 1 cs.toList (by rw [z2]; rw [hcv, ee_len]) hcell hone hroom (by rw [z2, hcs]; rw [hcv, ee_len]; omega)
      rw [h1] at hr
      injection hr with a b
      rw [a] at hg
      exact .inl hg
    · have hr := run_append_grow (P := Tryz.prog) (w.alloc (.cells cs 68)) 72 72 68 i _ Tryz.underlying72 hi z1 ⟨g', 0, none⟩ A.length cap (ees A) (by rw [z2]; exact ees_len A) (ho'.cells (g := g') rfl) ⟨w.heap.size, 0, none⟩ 1 1 cs.toList (by rw [z2]; rw [hcv, ee_len]) hcell (by omega) (by omega) (growslice_fits (by omega) (by rw [z3]; omega))
      rw [h1] at hr
      injection hr with a b
      rw [a] at hg
      simp only [Value.ownBlock, Option.some.injEq] at hg
      right
      omega
end Re
end Go.Proofs.YtigmhnlcmhpepaaGreatDoor

namespace Go.Proofs.YtigmhnlcmhpepaaGreatDoor
open Go Go.RowKit Go.Deep Go.Shelf

set_option maxRecDepth 100000 in
set_option maxHeartbeats 1000000 in
theorem ahead_any (a b : Re.En) (w : World) :
    Calls Tryz.prog 27 #[.agg (Re.ee a).toArray, .agg (Re.ee b).toArray] w fun e w' => e = .returned (.bool (decide (Re.ct a.x b.x < 0))) ∧ Below w.heap.size w w' := by
  have AG := hid (fun W => against_any a.x b.x W)
  obtain ⟨t, p, u, ea, ra⟩ := Re.ee_ex a
  obtain ⟨t', p', u', eb, rb⟩ := Re.ee_ex b
  have ta : Re.et a.x = [.bool t, .int .i64 p, .string u, .int .i64 a.x.i] := by rw [Re.et, ra]; rfl
  have tb : Re.et b.x = [.bool t', .int .i64 p', .string u', .int .i64 b.x.i] := by rw [Re.et, rb]; rfl
  rw [ta, tb] at AG
  rw [ea, eb]
  have c3 := Re.ct_b a.x b.x
  generalize Re.ct a.x b.x = C at *
  generalize a.x.i = i at *
  generalize b.x.i = j at *
  have B1 := hid (below_on (alloc_b w (.cells #[.bool t, .int .i64 p, .string u, .int .i64 i, .int .i64 a.k, .int .u64 a.n, .string a.s] 68)) (alloc_b _ (.cells #[.bool t', .int .i64 p', .string u', .int .i64 j, .int .i64 b.k, .int .u64 b.n, .string b.s] 68)))
  clear ea eb ra rb ta tb
  go_enter Tryz.func27, Tryz.ntmps27
  go_wp2_with fail
  refine (AG.out _).mono ?_
  rintro e w1 ⟨rfl, os, rfl⟩
  have F : Hid (Below w.heap.size w (Go.Sort.grow ((w.alloc (.cells #[.bool t, .int .i64 p, .string u, .int .i64 i, .int .i64 a.k, .int .u64 a.n, .string a.s] 68)).alloc (.cells #[.bool t', .int .i64 p', .string u', .int .i64 j, .int .i64 b.k, .int .u64 b.n, .string b.s] 68)) os)) := below_on B1.out (by
    refine ⟨rfl, rfl, rfl, by simp [Go.Sort.grow], fun k hk => ?_⟩
    simp only [Go.Sort.grow]
    rw [Array.getElem?_append_left hk])
  clear AG B1
  rcases c3 with rfl | rfl | rfl
  all_goals
    go_wp2_with fail
    go_ret
    exact ⟨rfl, F.out⟩

namespace Re
/-- Two places change about. -/
def sw (E : List En) (i j : Nat) : List En := (E.set i (E.getD j default)).set j (E.getD i default)
end Re

/-- A place of a row, read and written, as the walk asks it. -/
theorem Re.RowE.there {base : Nat} {w : World} {g cap : Nat} {A : List Re.En} (h : Re.RowE base w (.slice (some ⟨g, 0, none⟩) A.length cap) A) {o : Nat} (ho : o < A.length) : w.there g (o * 7) 7 := fun c hc => by
  obtain ⟨z, hz⟩ : ∃ z, A[o]? = some z := ⟨_, List.getElem?_eq_getElem ho⟩
  have hv : (Re.ee z)[c]? = some ((Re.ee z)[c]'(by rw [Re.ee_len]; exact hc)) := List.getElem?_eq_getElem _
  exact ⟨by rw [h.cell hz c hc _ hv]; rfl, h.free _⟩
theorem Re.RowE.range {base : Nat} {w : World} {g cap : Nat} {A : List Re.En} (h : Re.RowE base w (.slice (some ⟨g, 0, none⟩) A.length cap) A) {i : Nat} {a : Re.En} (hi : A[i]? = some a) : w.rangeAt g (i * 7) (Re.ee a) := fun j v hv => by
  have hj : j < 7 := by rw [← Re.ee_len a]; exact (List.getElem?_eq_some_iff.1 hv).1
  exact h.cell hi j hj v hv
theorem Re.RowE.load {base : Nat} {w : World} {g cap : Nat} {A : List Re.En} (h : Re.RowE base w (.slice (some ⟨g, 0, none⟩) A.length cap) A) {i : Nat} {a : Re.En} (hi : A[i]? = some a) : Sem.run Tryz.prog (loadCellsFrom ⟨g, i * 7, none⟩ 0 7 #[]) w = .ok (Re.ee a).toArray w :=
  run_loadCellsFrom_list Tryz.prog _ _ _ 7 (Re.ee_len a) (fun j v hv => by
    have hj : j < 7 := by rw [← Re.ee_len a]; exact (List.getElem?_eq_some_iff.1 hv).1
    rw [Go.WideShapes.add_plain]; exact h.cell hi j hj v hv)
theorem Re.ee_one (a : Re.En) : ∀ v ∈ Re.ee a, v.oneCell' = true := fun v hv => by
  obtain ⟨t, p, u, h, _⟩ := Re.ee_ex a
  rw [h] at hv
  simp only [List.mem_cons, List.not_mem_nil, or_false] at hv
  rcases hv with rfl | rfl | rfl | rfl | rfl | rfl | rfl <;> rfl
theorem Re.stores {w : World} {g o : Nat} (a : Re.En) (h : w.there g o 7) : Sem.run Tryz.prog (storeCells ⟨g, o, none⟩ (Re.ee a) 0) w = .ok () (w.setCells g o (Re.ee a)) := by
  have := run_storeCells_cells (P := Tryz.prog) g o (Re.ee a) 0 w (fun j hj => by rw [Nat.add_zero]; exact (h j (by rw [← Re.ee_len a]; exact hj)).1) (fun j hj => by rw [Nat.add_zero]; exact (h j (by rw [← Re.ee_len a]; exact hj)).2) (Re.ee_one a)
  simpa using this
theorem Re.there_set {w : World} {g o o' : Nat} {vs : List Value} (h : w.there g o 7) : (w.setCells g o' vs).there g o 7 := fun c hc => ⟨World.isSome_setCells g _ _ _ _ (h c hc).1, by rw [World.frozen?_setCells]; exact (h c hc).2⟩
theorem Re.RowE.setc {base : Nat} {w : World} {g cap : Nat} {A : List Re.En} (h : Re.RowE base w (.slice (some ⟨g, 0, none⟩) A.length cap) A) (i : Nat) (x : Re.En) (hi : i < A.length) : Re.RowE base (w.setCells g (i * 7) (Re.ee x)) (.slice (some ⟨g, 0, none⟩) A.length cap) (A.set i x) := by
  obtain ⟨t, p, u, e, _⟩ := Re.ee_ex x
  rw [e]
  exact h.put i x _ _ _ _ _ _ _ hi e
theorem Re.Kp.setc {S : Nat → Prop} {w w' : World} (h : Re.Kp S w w') {g : Nat} (hg : S g) (o : Nat) (x : Re.En) : Re.Kp S w (w'.setCells g o (Re.ee x)) := by
  obtain ⟨t, p, u, e, _⟩ := Re.ee_ex x
  rw [e]
  exact h.put (g := g) hg o _ _ _ _ _ _ _
end Go.Proofs.YtigmhnlcmhpepaaGreatDoor

namespace Go.Proofs.YtigmhnlcmhpepaaGreatDoor
open Go.RowKit Go.Deep

/-- The rounded row. -/
def Rounded (xs ds : List Int) (k : Nat) (more c : Bool) : Prop :=
  Digs ds ∧ ds.length = k ∧ ∃ u, UpIs (xs.take k) (xs.drop k) more u ∧ dv ds + (if c then 10 ^ k else 0) = dv (xs.take k) + (if u then 1 else 0)

def RoundTold (s : ByteArray) (xs : List Int) (keep : Int) (more : Bool) (e : Ending) : Prop :=
  ((xs.length : Int) ≤ keep → e = .returned (.tuple #[.string s, .bool false, .int .i64 0])) ∧
  (keep < (xs.length : Int) → ∃ s' ds c, e = .returned (.tuple #[.string s', .bool c, .int .i64 0]) ∧ Str s' ds ∧ Rounded xs ds keep.toNat more c)



theorem bytes_own {s : ByteArray} {xs : List Int} (hs : Str s xs) (w : World) (cap : Nat) : OwnF (w.drew.alloc (.cells (bytesRow s cap) 5 ((bytesRow s cap).size, (bytesRow s cap).size + 1))) w.heap.size (xs ++ List.replicate (cap - xs.length) 0) := by
  have e : bytesRow s cap = ((xs ++ List.replicate (cap - xs.length) 0).map (Value.int .u8)).toArray := by
    unfold bytesRow
    rw [hs.size]
    apply Array.toList_inj.1
    rw [← hs]
    simp
  refine ⟨(bytesRow s cap).size, (bytesRow s cap).size + 1, ?_, ?_⟩
  · show (w.heap.push _)[w.heap.size]? = _
    rw [Array.getElem?_push, if_pos rfl, ← e]
  · rw [e]
    simp

set_option maxRecDepth 100000 in
set_option maxHeartbeats 4000000 in
theorem round_any (s : ByteArray) (xs : List Int) (keep : Int) (more : Bool) (w : World) (hs : Str s xs) (h0 : xs ≠ []) (hd : Digs xs) (hl : xs.length ≤ 140737488351232) (hk : 0 ≤ keep) (hk1 : keep ≤ 9223372036854775807) :
    Calls Tryz.prog 214 #[.string s, .int .i64 keep, .bool more] w fun e w' => RoundTold s xs keep more e ∧ Below w.heap.size w w' := by
  obtain ⟨n, HN⟩ : ∃ n, Hid (xs.length = n) := ⟨_, rfl⟩
  have hsz : s.size = n := by rw [hs.size, HN.out]
  have e1 : s.toList ≠ [] := fun c => h0 ((str_nil hs).1 c)
  have e2 : (s.toList == []) = false := by rw [beq_eq_false_iff_ne]; exact e1
  have e3 : s.toList.isEmpty = false := by rw [List.isEmpty_eq_false_iff]; exact e1
  have WR : Hid (Calls Tryz.prog 226 #[.string s, .int .u64 10] w fun e w' => e = .returned (.int .i64 (-1)) ∧ w' = w) := by
    refine (wrong_any s xs xs.length 10 w hs rfl (by omega)).mono ?_
    rintro e w' ⟨⟨r, rfl, k⟩, rfl⟩
    cases k with
    | none _ => exact ⟨rfl, rfl⟩
    | here t h1 h2 h3 =>
      exfalso
      have := digs_at hd t h1
      rw [wv_dig this] at h3
      omega
  by_cases hge : (n : Int) ≤ keep
  · have CL := hid (clone_any s w (by rw [hsz]; have := HN.out; omega))
    have F : Hid (RoundTold s xs keep more (.returned (.tuple #[.string s, .bool false, .int .i64 0]))) := ⟨fun _ => rfl, fun c => by have := HN.out; omega⟩
    clear hs h0 hd hl
    go_enter Tryz.func214, Tryz.ntmps214
    go_wp2_with fail
    refine WR.out.mono ?_
    rintro e w' ⟨rfl, rfl⟩
    go_wp2_with fail
    refine CL.out.mono ?_
    rintro e w1 ⟨rfl, d1⟩
    have D1 := hid d1
    clear d1
    go_wp2_with fail
    go_ret3
    exact ⟨F.out, D1.out⟩
  · have hlt : keep < (n : Int) := by omega
    obtain ⟨k, HK⟩ : ∃ k, Hid (keep.toNat = k) := ⟨_, rfl⟩
    have hkk : keep = (k : Int) := by have := HK.out; omega
    have hkn : k < n := by omega
    have ST := hs.extract 0 k
    rw [List.drop_zero, Nat.sub_zero] at ST
    have SD := hs.extract k n
    rw [List.take_of_length_le (by have := HN.out; simp; omega)] at SD
    have hz1 : (s.extract 0 k).size = k := by rw [ST.size]; have := HN.out; simp; omega
    have CV := run_bytes_of_string (P := Tryz.prog) w 9 172 5 (s.extract 0 k) Tryz.underlying9 Tryz.underlying172 Tryz.underlying5
    rw [hz1] at CV
    obtain ⟨cap, hcap⟩ : ∃ cap, grownCap w k 0 5 = cap := ⟨_, rfl⟩
    rw [hcap] at CV
    have OF := bytes_own ST w cap
    have BW : Below w.heap.size w (w.drew.alloc (.cells (bytesRow (s.extract 0 k) cap) 5 ((bytesRow (s.extract 0 k) cap).size, (bytesRow (s.extract 0 k) cap).size + 1))) := (below_drewN (Below.refl _ _) 1).alloc (Nat.le_refl _) _
    obtain ⟨w1, hw1⟩ : ∃ w1, w.drew.alloc (.cells (bytesRow (s.extract 0 k) cap) 5 ((bytesRow (s.extract 0 k) cap).size, (bytesRow (s.extract 0 k) cap).size + 1)) = w1 := ⟨_, rfl⟩
    rw [hw1] at CV OF BW
    obtain ⟨es, hes⟩ : ∃ es, xs.take k ++ List.replicate (cap - (xs.take k).length) 0 = es := ⟨_, rfl⟩
    rw [hes] at OF
    have htk : (xs.take k).length = k := by have := HN.out; simp; omega
    have est : es.take k = xs.take k := by rw [← hes, List.take_append_of_le_length (by omega), List.take_of_length_le (by omega)]
    have esl : k ≤ es.length := by rw [← hes]; simp; have := HN.out; omega
    have dk : Digs (es.take k) := by rw [est]; exact fun d h => hd d (List.mem_of_mem_take h)
    have UP := hid (upward_any w.heap.size k cap es (xs.drop k) (s.extract k n) more w1 OF esl (by have := HN.out; omega) SD (fun c => by have := congrArg List.length c; have := HN.out; simp at *; omega) (by simp; omega) (fun d h => hd d (List.mem_of_mem_drop h)) dk)
    rw [est] at UP
    have EST := hid est
    have ESL := hid esl
    have HOF := hid OF
    have D1 := hid BW
    have DK := hid dk
    have FIN : Hid (∀ (W : World) (fs : List Int) (c u : Bool), OwnF W w.heap.size fs → k ≤ fs.length → UpIs (xs.take k) (xs.drop k) more u → Digs (fs.take k) → dv (fs.take k) + (if c then 10 ^ k else 0) = dv (xs.take k) + (if u then 1 else 0) →
        (convert 172 9 (.slice (some ⟨w.heap.size, 0, none⟩) k cap)).run Tryz.prog W = .ok (.string (strOfNums (fs.take k))) W ∧ RoundTold s xs keep more (.returned (.tuple #[.string (strOfNums (fs.take k)), .bool c, .int .i64 0]))) := by
      intro W fs c u o hl h1 h2 h3
      have hlen : (fs.take k).length = k := by simp; omega
      refine ⟨run_convert_bytes_arg (P := Tryz.prog) W 172 5 Tryz.underlying172 Tryz.underlying5 w.heap.size 0 k cap (fs.take k) hlen (fun i hi => ?_) 9 Tryz.underlying9, fun c => by have := HN.out; omega, fun _ => ⟨_, fs.take k, c, rfl, Str.of_nums (fun x hx => by have := h2 x hx; omega), ?_⟩⟩
      · rw [Nat.zero_add, o.cell i (by omega)]
        simp [List.getD, hi]
      · rw [HK.out]
        exact ⟨h2, hlen, u, h1, h3⟩
    have hkni : (k : Int) < (n : Int) := by omega
    have hnb : (n : Int) ≤ 140737488351232 := by have := HN.out; omega
    subst hkk
    clear hs h0 hd hl hlt hge ST SD OF BW hes est esl htk dk hw1 hcap hk1 hk
    go_enter Tryz.func214, Tryz.ntmps214
    go_wp2_with fail
    refine WR.out.mono ?_
    rintro e w' ⟨rfl, rfl⟩
    go_wp2_with fail
    refine UP.out.mono ?_
    rintro e w2 ⟨⟨u, rfl, hu⟩, d2⟩
    have O2 := hid (HOF.out.below d2 HOF.out.lt)
    have D2 := hid (chain D1.out d2 (Nat.le_refl _))
    have HU := hid hu
    clear hu d2 UP
    cases u with
    | false =>
      obtain ⟨cv, rt⟩ := FIN.out w2 es false false O2.out ESL.out HU.out DK.out (by rw [EST.out]; simp)
      have RT := hid rt
      clear rt FIN
      go_wp2_with fail
      go_ret3
      exact ⟨RT.out, D2.out⟩
    | true =>
      have RA := hid (raise_any w'.heap.size k cap es w2 O2.out ESL.out (by omega) DK.out)
      have HG : Hid (w'.heap.size ≤ w2.heap.size) := D2.out.size
      go_wp2_with fail
      refine RA.out.mono ?_
      rintro e w3 ⟨c, fs, rfl, o3, l3, r3, n3⟩
      have D3 : Hid (Below w'.heap.size w' w3) := D2.out.trans (n3.below (Nat.le_refl _) HG.out)
      rw [EST.out] at r3
      have hx : (es.take k).length = (xs.take k).length := by rw [EST.out]
      have hl1 : (xs.take k).length = k := by rw [← hx]; have := ESL.out; simp; omega
      obtain ⟨cv, rt⟩ := FIN.out w3 fs c true o3 (by have := ESL.out; omega) HU.out r3.1 (by have := r3.2.2; rw [hl1] at this; simpa using this)
      have RT := hid rt
      clear rt FIN o3 l3 r3 n3 RA hx hl1
      go_wp2_with fail
      go_ret3
      exact ⟨RT.out, D3.out⟩
end Go.Proofs.YtigmhnlcmhpepaaGreatDoor

namespace Go.Proofs.YtigmhnlcmhpepaaGreatDoor
open Go.RowKit Go.Deep
namespace Fx

/-- Whether the digits behind the first k take them up. -/
def up (xs : List Int) (k : Nat) : Bool := decide (10 ^ (xs.length - k) < 2 * dv (xs.drop k) ∨ (2 * dv (xs.drop k) = 10 ^ (xs.length - k) ∧ dv (xs.take k) % 2 = 1))
/-- The number of the first k digits, rounded. -/
def rn (xs : List Int) (k : Nat) : Int := dv (xs.take k) + if up xs k = true then 1 else 0
/-- .. and its digits. -/
def rd (xs : List Int) (k : Nat) : List Int := tx (if rn xs k = 10 ^ k then k + 1 else k) (rn xs k)
/-- The first c digits of a row, rounded, or filled up with zeros. -/
def kp (xs : List Int) (c : Int) : List Int := if c < 0 then [] else if (xs.length : Int) ≤ c then xs ++ List.replicate (c.toNat - xs.length) 48 else rd xs c.toNat

theorem up_is {xs : List Int} {k : Nat} {u : Bool} (h : UpIs (xs.take k) (xs.drop k) false u) : u = up xs k := by
  obtain ⟨h1, h2⟩ := h
  rw [List.length_drop] at h1 h2
  unfold up
  cases u with
  | true =>
    obtain ⟨a, b⟩ := h1 rfl
    symm
    rw [decide_eq_true_iff]
    rcases (show 2 * dv (xs.drop k) = 10 ^ (xs.length - k) ∨ 10 ^ (xs.length - k) < 2 * dv (xs.drop k) by omega) with c | c
    · right
      rcases b c with e | e
      · cases e
      · exact ⟨c, e⟩
    · exact .inl c
  | false =>
    obtain ⟨a, b⟩ := h2 rfl
    symm
    rw [decide_eq_false_iff_not]
    rintro (c | ⟨c, e⟩)
    · omega
    · have := (b c).2
      omega

theorem rn_bd {xs : List Int} (hd : Digs xs) {k : Nat} (hk : k ≤ xs.length) : 0 ≤ rn xs k ∧ rn xs k ≤ 10 ^ k := by
  have b := dv_bd (ds := xs.take k) (fun d h => hd d (List.mem_of_mem_take h))
  rw [List.length_take, Nat.min_eq_left hk] at b
  unfold rn
  split <;> omega

theorem rd_len (xs : List Int) (k : Nat) : (rd xs k).length = if rn xs k = 10 ^ k then k + 1 else k := tx_len _ _
theorem rd_digs (xs : List Int) (k : Nat) : Digs (rd xs k) := tx_digs _ _
theorem rd_dv {xs : List Int} (hd : Digs xs) {k : Nat} (hk : k ≤ xs.length) : dv (rd xs k) = rn xs k := by
  have b := rn_bd hd hk
  apply tx_dv b.1
  split
  · rw [Int.pow_succ]; have := p_pos k; omega
  · omega
theorem rd_of {xs ds : List Int} {k : Nat} (h : Digs ds) (hv : dv ds = rn xs k) (hl : ds.length = if rn xs k = 10 ^ k then k + 1 else k) : ds = rd xs k := by
  have := eq_tx h
  rw [hv, hl] at this
  exact this

theorem rd_round {xs ds : List Int} {k : Nat} {c : Bool} (hx : Digs xs) (hk : k ≤ xs.length) (h : Rounded xs ds k false c) : (if c = true then 49 :: ds else ds) = rd xs k := by
  obtain ⟨h1, h2, u, h3, h4⟩ := h
  have e := up_is h3
  subst e
  have v : dv ds + (if c = true then 10 ^ k else 0) = rn xs k := h4
  have b := dv_bd h1
  have hb := rn_bd hx hk
  rw [h2] at b
  cases c with
  | true =>
    rw [if_pos rfl] at v ⊢
    refine rd_of (fun d hd => ?_) ?_ ?_
    · rcases List.mem_cons.1 hd with rfl | hd
      · omega
      · exact h1 d hd
    · rw [dv_cons, h2]; omega
    · rw [if_pos (by omega), List.length_cons, h2]
  | false =>
    rw [if_neg Bool.false_ne_true] at v ⊢
    exact rd_of h1 (by omega) (by rw [if_neg (by omega), h2])

theorem kp_neg {xs : List Int} {c : Int} (h : c < 0) : kp xs c = [] := by rw [kp, if_pos h]
theorem kp_full {xs : List Int} {c : Nat} (h : xs.length ≤ c) : kp xs (c : Int) = xs ++ List.replicate (c - xs.length) 48 := by rw [kp, if_neg (by omega), if_pos (by omega), Int.toNat_natCast]
theorem kp_cut {xs : List Int} {c : Nat} (h : c < xs.length) : kp xs (c : Int) = rd xs c := by rw [kp, if_neg (by omega), if_neg (by omega), Int.toNat_natCast]
end Fx
end Go.Proofs.YtigmhnlcmhpepaaGreatDoor

namespace Go.Proofs.YtigmhnlcmhpepaaGreatDoor
open Go Go.RowKit Go.Deep

theorem Str.app {a b : ByteArray} {xs ys : List Int} (h : Str a xs) (k : Str b ys) : Str (a ++ b) (xs ++ ys) := by
  unfold Str at *
  rw [← h, ← k, ← List.map_append]
  simp

theorem str_one : Str ⟨#[49]⟩ [49] := rfl

set_option maxRecDepth 100000 in
set_option maxHeartbeats 2000000 in
theorem kept_any (s : ByteArray) (xs : List Int) (c : Int) (w : World) (hs : Str s xs) (hd : Digs xs) (h0 : xs ≠ []) (hl : xs.length ≤ 3000) (hc : c ≤ 10000) :
    Calls Tryz.prog 199 #[.string s, .int .i64 c] w fun e w' => ∃ s', e = .returned (.string s') ∧ Str s' (Fx.kp xs c) ∧ Below w.heap.size w w' := by
  by_cases hn : c < 0
  · have F : Hid (Str ⟨#[]⟩ (Fx.kp xs c)) := by rw [Fx.kp_neg hn]; rfl
    clear hs hd h0 hl
    go_enter Tryz.func199, Tryz.ntmps199
    go_wp2_with fail
    go_ret
    exact ⟨_, rfl, F.out, Below.refl _ _⟩
  · obtain ⟨k, rfl⟩ := Int.eq_ofNat_of_zero_le (show 0 ≤ c by omega)
    have R := hid (round_any s xs k false w hs h0 hd (by omega) (by omega) (by omega))
    by_cases hg : xs.length ≤ k
    · obtain ⟨z, hz⟩ : ∃ z : Nat, (k : Int) - (s.size : Int) = (z : Int) := ⟨k - s.size, by rw [hs.size]; omega⟩
      have RE := hid (fun wx : World => frepeat_any z wx (by omega))
      have szb : (s.size : Int) ≤ 3000 := by rw [hs.size]; omega
      have kb : (k : Int) ≤ 10000 := hc
      have F : Hid (∀ b : ByteArray, Str b (List.replicate z 48) → Str (s ++ b) (Fx.kp xs k)) := by
        intro b hb
        rw [Fx.kp_full hg, show k - xs.length = z by have := hs.size; omega]
        exact hs.app hb
      have RT : Hid (∀ e, RoundTold s xs k false e → e = .returned (.tuple #[.string s, .bool false, .int .i64 0])) := fun e h => h.1 (by omega)
      clear hs hd h0 hl hg hn hc
      go_enter Tryz.func199, Tryz.ntmps199
      go_wp2_with fail
      refine R.out.mono ?_
      rintro e w1 ⟨h, B1⟩
      obtain rfl := RT.out e h
      have HB := hid B1
      clear h B1 RT R
      go_wp2_with fail
      refine (RE.out _).mono ?_
      rintro e w2 ⟨b, rfl, hb, B2⟩
      have K := hid (And.intro (F.out b hb) (HB.out.trans (B2.mono HB.out.size)))
      have szc : (b.size : Int) ≤ 10000 := by rw [hb.size, List.length_replicate]; omega
      clear hb B2 RE F HB
      go_wp2_with fail
      go_ret
      exact ⟨_, rfl, K.out.1, K.out.2⟩
    · have hk : k < xs.length := by omega
      have RE := hid (fun wx : World => frepeat_any 0 wx (by omega))
      have kb : (k : Int) ≤ 10000 := hc
      have RT : Hid (∀ e, RoundTold s xs k false e → ∃ s' c, e = .returned (.tuple #[.string s', .bool c, .int .i64 0]) ∧ s'.size = k ∧ Hid (∀ b, Str b [] → if c = true then Str (⟨#[49]⟩ ++ (s' ++ b)) (Fx.kp xs k) else Str (s' ++ b) (Fx.kp xs k))) := by
        intro e h
        obtain ⟨s', ds, c, rfl, h1, h2⟩ := h.2 (by omega)
        rw [Int.toNat_natCast] at h2
        refine ⟨s', c, rfl, by rw [h1.size, h2.2.1], fun b hb => ?_⟩
        have q := Fx.rd_round hd (by omega) h2
        rw [Fx.kp_cut hk, ← q]
        have a := h1.app hb
        rw [List.append_nil] at a
        cases c
        · exact a
        · exact str_one.app a
      clear hs hd h0 hl hg hn hc hk
      go_enter Tryz.func199, Tryz.ntmps199
      go_wp2_with fail
      refine R.out.mono ?_
      rintro e w1 ⟨h, B1⟩
      obtain ⟨s', c, rfl, hz, F⟩ := RT.out e h
      have HB := hid B1
      clear h B1 RT R
      go_wp2_with fail
      refine (RE.out _).mono ?_
      rintro e w2 ⟨b, rfl, hb, B2⟩
      have K := hid (F.out b hb)
      have HB2 := hid (HB.out.trans (B2.mono HB.out.size))
      have szc : b.size = 0 := by rw [hb.size]; rfl
      clear hb B2 RE F HB
      cases c
      · go_wp2_with fail
        go_ret
        exact ⟨_, rfl, K.out, HB2.out⟩
      · go_wp2_with fail
        go_ret
        exact ⟨_, rfl, K.out, HB2.out⟩
end Go.Proofs.YtigmhnlcmhpepaaGreatDoor

namespace Go.Proofs.YtigmhnlcmhpepaaGreatDoor
open Go Go.RowKit Go.Deep
namespace Fx

end Fx

end Go.Proofs.YtigmhnlcmhpepaaGreatDoor
