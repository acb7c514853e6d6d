/-
  Texts put together: ReLs, ReLg, ReLv.
-/
import Derived.Test.YtigmhnlcmhpepaaGreatDoorGM
import Derived.Test.YtigmhnlcmhpepaaGreatDoorGJ
namespace Go.Proofs.YtigmhnlcmhpepaaGreatDoor
open Go Go.RowKit Go.Deep Go.Shelf

namespace Re
/-- The entry of the value that came as number k. -/
def ent (V : List Vl) (k : Nat) : En := ⟨⟨rt (V.getD k zv).k (V.getD k zv).n (V.getD k zv).s, (k : Int)⟩, (V.getD k zv).k, (V.getD k zv).n, (V.getD k zv).s⟩
/-- The entries that are in. -/
def ents (V : List Vl) (B : List Bool) : List En := ((List.range V.length).filter fun k => B.getD k false).map (ent V)
theorem ents_nil : ents [] [] = [] := rfl
theorem ents_mem {V : List Vl} {B : List Bool} {x : En} (h : x ∈ ents V B) : ∃ k, k < V.length ∧ B.getD k false = true ∧ x = ent V k := by
  obtain ⟨k, hk, rfl⟩ := List.mem_map.1 h
  rw [List.mem_filter, List.mem_range] at hk
  exact ⟨k, hk.1, hk.2, rfl⟩
theorem ents_in {V : List Vl} {B : List Bool} {k : Nat} (h : k < V.length) (hb : B.getD k false = true) : ent V k ∈ ents V B :=
  List.mem_map.2 ⟨k, List.mem_filter.2 ⟨List.mem_range.2 h, hb⟩, rfl⟩
theorem getD_app {α : Type} {A : List α} {d a : α} {k : Nat} (h : k < A.length) : (A ++ [a]).getD k d = A.getD k d := by
  rw [List.getD_eq_getElem?_getD, List.getElem?_append_left h, ← List.getD_eq_getElem?_getD]
theorem ents_push {V : List Vl} {B : List Bool} (hB : B.length = V.length) (v : Vl) : ents (V ++ [v]) (B ++ [true]) = ents V B ++ [⟨⟨rt v.k v.n v.s, (V.length : Int)⟩, v.k, v.n, v.s⟩] := by
  have e1 : (V ++ [v]).getD V.length zv = v := by rw [List.getD_eq_getElem?_getD, List.getElem?_append_right (Nat.le_refl _), Nat.sub_self]; rfl
  have e2 : (B ++ [true]).getD V.length false = true := by rw [← hB, List.getD_eq_getElem?_getD, List.getElem?_append_right (Nat.le_refl _), Nat.sub_self]; rfl
  unfold ents
  rw [List.length_append, List.length_singleton, List.range_succ, List.filter_append, List.map_append]
  congr 1
  · have f : (List.range V.length).filter (fun k => (B ++ [true]).getD k false) = (List.range V.length).filter (fun k => B.getD k false) := List.filter_congr (fun k hk => by rw [getD_app (by rw [hB]; exact List.mem_range.1 hk)])
    rw [f]
    refine List.map_congr_left (fun k hk => ?_)
    have kl := List.mem_range.1 (List.mem_filter.1 hk).1
    unfold ent
    rw [getD_app kl]
  · rw [List.filter_cons_of_pos (by rw [e2]), List.filter_nil, List.map_cons, List.map_nil]
    unfold ent
    rw [e1]
theorem filt_perm (p q : Nat → Bool) (k : Nat) (hp : p k = true) (hq : q k = false) (ho : ∀ j, j ≠ k → q j = p j) : ∀ L : List Nat, L.Nodup → k ∈ L → (L.filter p).Perm (k :: L.filter q) := by
  intro L
  induction L with
  | nil => intro _ h; cases h
  | cons a L ih =>
    intro hn hm
    rw [List.nodup_cons] at hn
    by_cases e : a = k
    · subst e
      rw [List.filter_cons_of_pos hp, List.filter_cons_of_neg (by rw [hq]; simp)]
      refine List.Perm.cons a ?_
      rw [List.filter_congr (fun j hj => (ho j (fun z => hn.1 (by rw [← z]; exact hj))).symm)]
    · have hm' : k ∈ L := by
        rcases List.mem_cons.1 hm with z | z
        · exact absurd z.symm e
        · exact z
      have r := ih hn.2 hm'
      by_cases c : p a = true
      · rw [List.filter_cons_of_pos c, List.filter_cons_of_pos (by rw [ho a e]; exact c)]
        exact (r.cons a).trans (List.Perm.swap k a _)
      · rw [List.filter_cons_of_neg c, List.filter_cons_of_neg (by rw [ho a e]; exact c)]
        exact r
theorem ents_pop {V : List Vl} {B : List Bool} {k : Nat} (hk : k < V.length) (hb : B.getD k false = true) (hl : B.length = V.length) : (ents V B).Perm (ent V k :: ents V (B.set k false)) := by
  unfold ents
  have g : ∀ j, (B.set k false).getD j false = if j = k then false else B.getD j false := fun j => by
    rw [List.getD_eq_getElem?_getD, List.getElem?_set]
    by_cases e : k = j
    · subst e
      rw [if_pos rfl, if_pos rfl, if_pos (by omega)]
      rfl
    · rw [if_neg e, if_neg (fun z => e z.symm), ← List.getD_eq_getElem?_getD]
  have r := filt_perm (fun j => B.getD j false) (fun j => (B.set k false).getD j false) k hb (by show (B.set k false).getD k false = false; rw [g, if_pos rfl]) (fun j hj => by show (B.set k false).getD j false = B.getD j false; rw [g, if_neg hj]) (List.range V.length) List.nodup_range (List.mem_range.2 hk)
  exact r.map (ent V)
/-- Where the law's outer loop stands. -/
structure LS (base : Nat) (w : World) (V : List Vl) (B : List Bool) (E : List En) (ga ca gi ci : Nat) (W : World) : Prop where
  qs : ∃ mv, QS base (base + 1) base mv E (V.length : Int) W
  hp : Hp E
  pe : E.Perm (ents V B)
  va : GR ev 3 24 base W ga ca V
  ib : GR eb 1 4 base W gi ci B
  lb : B.length = V.length
  vw : ∀ v ∈ V, 0 ≤ v.n ∧ v.n < 18446744073709551616
  bl : Below w.heap.size w W
  lw : w.heap.size ≤ base
  bw : base ≤ W.heap.size
theorem LS.on {base : Nat} {w : World} {V : List Vl} {B : List Bool} {E : List En} {ga ca gi ci : Nat} {W W' : World} (h : LS base w V B E ga ca gi ci W) (b : Below W.heap.size W W') : LS base w V B E ga ca gi ci W' := by
  obtain ⟨mv, qs⟩ := h.qs
  exact ⟨⟨mv, qs.on b⟩, h.hp, h.pe, h.va.on b, h.ib.on b, h.lb, h.vw, below_on h.bl b, h.lw, Nat.le_trans h.bw b.size⟩
/-- The least of the heap, by number. -/
theorem LS.top {base : Nat} {w : World} {V : List Vl} {B : List Bool} {E : List En} {ga ca gi ci : Nat} {W : World} (h : LS base w V B E ga ca gi ci W) (hE : 0 < E.length) : ∃ k, k < V.length ∧ B.getD k false = true ∧ gt E 0 = ent V k ∧
    (∀ E', (gt E 0 :: E').Perm E → E'.Perm (ents V (B.set k false)) ∧ ∀ j, j < V.length → (B.set k false).getD j false = true → cm (rt (V.getD k zv).k (V.getD k zv).n (V.getD k zv).s) (rt (V.getD j zv).k (V.getD j zv).n (V.getD j zv).s) < 0 ∨ (cm (rt (V.getD k zv).k (V.getD k zv).n (V.getD k zv).s) (rt (V.getD j zv).k (V.getD j zv).n (V.getD j zv).s) = 0 ∧ (k : Int) ≤ (j : Int))) := by
  have gm : gt E 0 ∈ E := by
    unfold gt
    rw [List.getD_eq_getElem?_getD, List.getElem?_eq_getElem hE]
    exact List.getElem_mem hE
  obtain ⟨k, hk, hb, e⟩ := ents_mem (h.pe.mem_iff.1 gm)
  refine ⟨k, hk, hb, e, fun E' hE' => ?_⟩
  have p1 : E'.Perm (ents V (B.set k false)) := by
    have := (hE'.trans h.pe).trans (ents_pop hk hb h.lb)
    rw [e] at this
    exact (List.perm_cons _).1 this
  refine ⟨p1, fun j hj hjb => ?_⟩
  have m1 : ent V j ∈ E := hE'.mem_iff.1 (List.mem_cons_of_mem _ (p1.mem_iff.2 (ents_in hj hjb)))
  obtain ⟨i, hi, ei⟩ := List.getElem_of_mem m1
  have l := h.hp.least i hi
  have ge : gt E i = ent V j := by
    unfold gt
    rw [List.getD_eq_getElem?_getD, List.getElem?_eq_getElem hi, ei]
    rfl
  rw [ge, e] at l
  unfold le at l
  rw [ct_le] at l
  exact l
end Re
end Go.Proofs.YtigmhnlcmhpepaaGreatDoor

namespace Go.Proofs.YtigmhnlcmhpepaaGreatDoor
open Go Go.RowKit Go.Deep Go.Shelf

namespace Re
theorem bx_ne {W : World} {b b' t t' : Nat} {c c' : Array Value} (h : Bx W b t c) (k : Bx W b' t' c') (ht : t ≠ t') : b ≠ b' := fun e => by
  subst e
  unfold Bx at h k
  rw [h] at k
  simp at k
  exact ht k.2
/-- A queue, with a row of values and one of bools beside it. -/
structure LG (base : Nat) (w : World) (c : Int) (T E : List En) (V : List Vl) (B : List Bool) (ga ca gi ci : Nat) (W : World) : Prop where
  qs : ∃ mv, QS base (base + 1) base mv E c W
  hp : Hp E
  pe : E.Perm T
  va : GR ev 3 24 base W ga ca V
  ib : GR eb 1 4 base W gi ci B
  bl : Below w.heap.size w W
  lw : w.heap.size ≤ base
  bw : base ≤ W.heap.size
section
variable {base : Nat} {w : World} {c : Int} {T E : List En} {V : List Vl} {B : List Bool} {ga ca gi ci : Nat} {W : World}
theorem LG.on {W' : World} (h : LG base w c T E V B ga ca gi ci W) (b : Below W.heap.size W W') : LG base w c T E V B ga ca gi ci W' := by
  obtain ⟨mv, qs⟩ := h.qs
  exact ⟨⟨mv, qs.on b⟩, h.hp, h.pe, h.va.on b, h.ib.on b, below_on h.bl b, h.lw, Nat.le_trans h.bw b.size⟩
theorem QS.kp1 {q h : Nat} {mv : Value} {W' : World} (s : QS base q h mv E c W) {g t : Nat} {cur : Array Value} (x : Bx W g t cur) (k : Kp (fun b => b = g) W W') (t1 : t ≠ 76) (t2 : t ≠ 74) (t3 : t ≠ 68) : QS base q h mv E c W' := by
  refine ⟨s.qb.kp k (fun e => bx_ne x s.qb t1 e.symm), s.hb.kp k (fun e => bx_ne x s.hb t2 e.symm), ?_, s.bq, s.bh⟩
  refine ⟨s.row.1, ?_⟩
  rcases s.row.2 with z | ⟨g', cap, cur', e, h1, h2, h3⟩
  · exact .inl z
  · refine .inr ⟨g', cap, cur', e, h1, ?_, h3⟩
    have hl : g' < W.heap.size := (Array.getElem?_eq_some_iff.1 h2).1
    rw [k.block g' hl (fun z => s.row.apart x t3 (by rw [e, ← z]; rfl))]
    exact h2
/-- The value is written down. -/
theorem LG.wrote (h : LG base w c T E V B ga ca gi ci W) (v : Vl) (hl : V.length < 1000000000) :
    ∃ g' c' W', (Builtin.append_ #[38, 38] 38 #[.slice (some ⟨ga, 0, none⟩) V.length ca, .slice (some ⟨W.heap.size, 0, none⟩) 1 1]).run Tryz.prog (W.alloc (.cells #[.int .i64 v.k, .int .u64 v.n, .string v.s] 24)) = .ok (.slice (some ⟨g', 0, none⟩) (V.length + 1) c') W' ∧ LG base w c T E (V ++ [v]) B g' c' gi ci W' := by
  obtain ⟨I, hI, hz⟩ := Option.map_eq_some_iff.1 infoV
  simp only [Prod.mk.injEq] at hz
  obtain ⟨z1, z2, z3⟩ := hz
  obtain ⟨g', c', W', r, gr, k, _⟩ := GR.push ev_len (P := Tryz.prog) (T := 38) h.va v I _ Tryz.underlying38 hI z1 z2 rfl (by omega) (by rw [z3]; omega) (by omega) (fun u hu => by
    simp only [ev, List.mem_cons, List.not_mem_nil, or_false] at hu
    rcases hu with rfl | rfl | rfl <;> rfl) h.bw
  obtain ⟨mv, qs⟩ := h.qs
  obtain ⟨cur, x, _⟩ := h.va.bx
  obtain ⟨cur2, x2, _⟩ := h.ib.bx
  have bb := k.below h.bw (fun b e => by rw [e]; exact h.va.bb)
  exact ⟨g', c', W', r, ⟨⟨mv, qs.kp1 x k (by decide) (by decide) (by decide)⟩, h.hp, h.pe, gr, h.ib.kp k (fun e => bx_ne x x2 (by decide) e.symm), h.bl.trans (bb.mono h.lw), h.lw, Nat.le_trans h.bw bb.size⟩⟩
/-- The mark is written down. -/
theorem LG.marked (h : LG base w c T E V B ga ca gi ci W) (hl : B.length < 1000000000) :
    ∃ g' c' W', (Builtin.append_ #[39, 39] 39 #[.slice (some ⟨gi, 0, none⟩) B.length ci, .slice (some ⟨W.heap.size, 0, none⟩) 1 1]).run Tryz.prog (W.alloc (.cells #[.bool true] 4)) = .ok (.slice (some ⟨g', 0, none⟩) (B.length + 1) c') W' ∧ LG base w c T E V (B ++ [true]) ga ca g' c' W' := by
  obtain ⟨I, hI, hz⟩ := Option.map_eq_some_iff.1 infoB
  simp only [Prod.mk.injEq] at hz
  obtain ⟨z1, z2, z3⟩ := hz
  obtain ⟨g', c', W', r, gr, k, _⟩ := GR.push eb_len (P := Tryz.prog) (T := 39) h.ib true I _ Tryz.underlying39 hI z1 z2 rfl (by omega) (by rw [z3]; omega) (by omega) (fun u hu => by
    simp only [eb, List.mem_cons, List.not_mem_nil, or_false] at hu
    rw [hu]; rfl) h.bw
  obtain ⟨mv, qs⟩ := h.qs
  obtain ⟨cur, x, _⟩ := h.va.bx
  obtain ⟨cur2, x2, _⟩ := h.ib.bx
  have bb := k.below h.bw (fun b e => by rw [e]; exact h.ib.bb)
  exact ⟨g', c', W', r, ⟨⟨mv, qs.kp1 x2 k (by decide) (by decide) (by decide)⟩, h.hp, h.pe, h.va.kp k (fun e => bx_ne x x2 (by decide) e), gr, h.bl.trans (bb.mono h.lw), h.lw, Nat.le_trans h.bw bb.size⟩⟩
/-- A mark is struck out. -/
theorem LG.struck (h : LG base w c T E V B ga ca gi ci W) {k : Nat} (hk : k < B.length) : LG base w c T E V (B.set k false) ga ca gi ci (W.setCell ⟨gi, k, none⟩ (.bool false)) := by
  obtain ⟨mv, qs⟩ := h.qs
  obtain ⟨cur, x, _⟩ := h.va.bx
  obtain ⟨cur2, x2, _⟩ := h.ib.bx
  have gr := GR.put eb_len h.ib hk false
  rw [Nat.mul_one] at gr
  have kk : Kp (fun b => b = gi) W (W.setCell ⟨gi, k, none⟩ (.bool false)) := (Kp.refl (fun b => b = gi) W).set rfl k _
  have bb := kk.below h.bw (fun b e => by rw [e]; exact h.ib.bb)
  exact ⟨⟨mv, qs.kp1 x2 kk (by decide) (by decide) (by decide)⟩, h.hp, h.pe, h.va.kp kk (fun e => bx_ne x x2 (by decide) e), gr, h.bl.trans (bb.mono h.lw), h.lw, Nat.le_trans h.bw bb.size⟩
end
end Re

/-- Push, in the law's state. -/
theorem lpush_any (base : Nat) (w : World) (c : Int) (T E : List Re.En) (V : List Re.Vl) (B : List Bool) (ga ca gi ci : Nat) (W : World) (h : Re.LG base w c T E V B ga ca gi ci W) (k n : Int) (s : ByteArray) (hE : E.length < 1000000000000) (c0 : 0 ≤ c) (c1 : c < 1000000000000000) (hn : 0 ≤ n ∧ n < 18446744073709551616) (hs : s.size ≤ 281474976710656) :
    Calls Tryz.prog 12 #[.pointer (some ⟨base + 1, 0, none⟩), .agg #[.int .i64 k, .int .u64 n, .string s]] W fun e W' => e = .returned (.int .i64 c) ∧ ∃ E', E'.length = E.length + 1 ∧ Re.LG base w (c + 1) (T ++ [⟨⟨Re.rt (Re.pk k) (Re.pn k n) (Re.ps k s), c⟩, Re.pk k, Re.pn k n, Re.ps k s⟩]) E' V B ga ca gi ci W' ∧ (∀ g t (cur : Array Value), Bx W g t cur → t ≠ 76 → t ≠ 74 → t ≠ 68 → Bx W' g t cur) := by
  obtain ⟨mv, qs⟩ := h.qs
  refine (qpush_gen base (base + 1) base mv E c k n s W qs hE h.hp c0 c1 hn hs h.bw).mono ?_
  rintro e W' ⟨rfl, ⟨mv', E', q', hp', pm⟩, bb, kp⟩
  obtain ⟨cur, x, _⟩ := h.va.bx
  obtain ⟨cur2, x2, _⟩ := h.ib.bx
  have n1 : ¬ (ga = base + 1 ∨ ga = base ∨ mv.ownBlock = some ga) := by
    rintro (z | z | z)
    · exact Re.bx_ne x qs.qb (by decide) z
    · exact Re.bx_ne x qs.hb (by decide) z
    · exact qs.row.apart x (by decide) z
  have n2 : ¬ (gi = base + 1 ∨ gi = base ∨ mv.ownBlock = some gi) := by
    rintro (z | z | z)
    · exact Re.bx_ne x2 qs.qb (by decide) z
    · exact Re.bx_ne x2 qs.hb (by decide) z
    · exact qs.row.apart x2 (by decide) z
  have kb : ∀ g t (cur : Array Value), Bx W g t cur → t ≠ 76 → t ≠ 74 → t ≠ 68 → Bx W' g t cur := fun g t cur x t1 t2 t3 => x.kp kp (by
    rintro (z | z | z)
    · exact Re.bx_ne x qs.qb t1 z
    · exact Re.bx_ne x qs.hb t2 z
    · exact qs.row.apart x t3 z)
  exact ⟨rfl, E', by rw [pm.length_eq, List.length_append]; rfl, ⟨⟨mv', q'⟩, hp', pm.trans (h.pe.append_right _), h.va.kp kp n1, h.ib.kp kp n2, h.bl.trans (bb.mono h.lw), h.lw, Nat.le_trans h.bw bb.size⟩, kb⟩

/-- Pop, in the law's state. -/
theorem lpop_any (base : Nat) (w : World) (c : Int) (T E : List Re.En) (V : List Re.Vl) (B : List Bool) (ga ca gi ci : Nat) (W : World) (h : Re.LG base w c T E V B ga ca gi ci W) (hne : 0 < E.length) (hE : E.length ≤ 1000000000000) :
    Calls Tryz.prog 14 #[.pointer (some ⟨base + 1, 0, none⟩)] W fun e W' => e = .returned (.tuple #[.agg #[.int .i64 (Re.gt E 0).k, .int .u64 (Re.gt E 0).n, .string (Re.gt E 0).s], .int .i64 (Re.gt E 0).x.i, .bool true]) ∧ ∃ E', (Re.gt E 0 :: E').Perm E ∧ Re.LG base w c E' E' V B ga ca gi ci W' ∧ (∀ g t (cur : Array Value), Bx W g t cur → t ≠ 76 → t ≠ 74 → t ≠ 68 → Bx W' g t cur) := by
  obtain ⟨mv, qs⟩ := h.qs
  refine (qpop_gen base (base + 1) base mv E c W qs hne hE h.hp h.bw).mono ?_
  rintro e W' ⟨rfl, ⟨mv', E', q', hp', pm⟩, bb, kp⟩
  obtain ⟨cur, x, _⟩ := h.va.bx
  obtain ⟨cur2, x2, _⟩ := h.ib.bx
  have n1 : ¬ (ga = base + 1 ∨ ga = base ∨ mv.ownBlock = some ga) := by
    rintro (z | z | z)
    · exact Re.bx_ne x qs.qb (by decide) z
    · exact Re.bx_ne x qs.hb (by decide) z
    · exact qs.row.apart x (by decide) z
  have n2 : ¬ (gi = base + 1 ∨ gi = base ∨ mv.ownBlock = some gi) := by
    rintro (z | z | z)
    · exact Re.bx_ne x2 qs.qb (by decide) z
    · exact Re.bx_ne x2 qs.hb (by decide) z
    · exact qs.row.apart x2 (by decide) z
  have kb : ∀ g t (cur : Array Value), Bx W g t cur → t ≠ 76 → t ≠ 74 → t ≠ 68 → Bx W' g t cur := fun g t cur x t1 t2 t3 => x.kp kp (by
    rintro (z | z | z)
    · exact Re.bx_ne x qs.qb t1 z
    · exact Re.bx_ne x qs.hb t2 z
    · exact qs.row.apart x t3 z)
  exact ⟨rfl, E', pm, ⟨⟨mv', q'⟩, hp', List.Perm.refl _, h.va.kp kp n1, h.ib.kp kp n2, h.bl.trans (bb.mono h.lw), h.lw, Nat.le_trans h.bw bb.size⟩, kb⟩
end Go.Proofs.YtigmhnlcmhpepaaGreatDoor

namespace Go.Proofs.YtigmhnlcmhpepaaGreatDoor
open Go Go.RowKit Go.Deep Go.Shelf

set_option maxRecDepth 100000 in
set_option maxHeartbeats 1000000 in
theorem qpop_void (q : Option Addr) (w : World) (LE : ∀ W, Below w.heap.size w W → Calls Tryz.prog 16 #[.pointer q] W fun e w' => e = .returned (.int .i64 0) ∧ w' = W) :
    Calls Tryz.prog 14 #[.pointer q] w fun e w' => e = .returned (.tuple #[.agg #[.int .i64 0, .int .u64 0, .string ⟨#[]⟩], .int .i64 0, .bool false]) ∧ Below w.heap.size w w' := by
  have b0 := hid (alloc_b w (.cells #[.int .i64 0, .int .u64 0, .string ⟨#[]⟩] 24))
  have r0 := hid (Bx.new w 24 #[.int .i64 0, .int .u64 0, .string ⟨#[]⟩])
  have LE := hid LE
  go_enter Tryz.func14, Tryz.ntmps14
  go_wp2_with fail
  generalize w.alloc (.cells #[.int .i64 0, .int .u64 0, .string ⟨#[]⟩] 24) = wa at *
  refine (LE.out _ b0.out).mono ?_
  rintro e w1 ⟨rfl, rfl⟩
  clear LE
  have c0 := r0.out.cell 0 _ rfl
  have c1 := r0.out.cell 1 _ rfl
  have c2 := r0.out.cell 2 _ rfl
  have f0 := r0.out.free 0
  have f1 := r0.out.free 1
  have f2 := r0.out.free 2
  go_wp2_with fail
  (try simp only [Exit.inBlock, Exit.then])
  refine bodyPost_ret (results_c3 rfl _ _ w.heap.size 24 _ (0, 0) _ rfl (r0.out.put3 _ _ _) Tryz.underlying24 rfl (by kernel_rfl)) rfl ?_
  exact ⟨rfl, bset3_below b0.out (Nat.le_refl _)⟩

/-- Pop of an empty queue, in the law's state. -/
theorem lpop_void (base : Nat) (w : World) (c : Int) (T : List Re.En) (V : List Re.Vl) (B : List Bool) (ga ca gi ci : Nat) (W : World) (h : Re.LG base w c T [] V B ga ca gi ci W) :
    Calls Tryz.prog 14 #[.pointer (some ⟨base + 1, 0, none⟩)] W fun e W' => e = .returned (.tuple #[.agg #[.int .i64 0, .int .u64 0, .string ⟨#[]⟩], .int .i64 0, .bool false]) ∧ Re.LG base w c T [] V B ga ca gi ci W' := by
  obtain ⟨mv, qs⟩ := h.qs
  refine (qpop_void (some ⟨base + 1, 0, none⟩) W (fun W' b => qlen_any base (base + 1) base mv [] c W' (qs.on b))).mono ?_
  rintro e W' ⟨rfl, b⟩
  exact ⟨rfl, h.on b⟩
end Go.Proofs.YtigmhnlcmhpepaaGreatDoor
