/-
  DirectiveChain: two lists of pieces one behind the other; an append to one's own list.
-/
import Derived.Test.YtdfnpoojbnoeeaaDoorDFaultL
namespace Go.Proofs.YtdfnpoojbnoeeaaDoor
open Go Go.RowKit Go.Deep Go.Shelf

namespace Dr
theorem mrg_cases : ∀ (L M : List Pc), mrg L M = if 0 < L.length ∧ 0 < M.length ∧ (L.getD (L.length - 1) Pc.no).v = 0 ∧ (M.getD 0 Pc.no).v = 0 then L.take (L.length - 1) ++ (⟨(L.getD (L.length - 1) Pc.no).t ++ (M.getD 0 Pc.no).t, 0, 0, 0, 0, 0, 0⟩ :: M.tail) else L ++ M
  | [], M => by simp [mrg]
  | [p], [] => by simp [mrg]
  | [p], q :: m => by
    rw [mrg]
    by_cases h : p.v = 0 ∧ q.v = 0
    · rw [if_pos h, if_pos (by simpa using h)]; simp
    · rw [if_neg h, if_neg (by simpa using h)]; simp
  | p :: p' :: l, M => by
    have ih := mrg_cases (p' :: l) M
    rw [mrg, ih]
    have e : (p :: p' :: l).getD ((p :: p' :: l).length - 1) Pc.no = (p' :: l).getD ((p' :: l).length - 1) Pc.no := by simp
    have t : (p :: p' :: l).take ((p :: p' :: l).length - 1) = p :: (p' :: l).take ((p' :: l).length - 1) := by simp
    rw [e, t]
    by_cases h : 0 < (p' :: l).length ∧ 0 < M.length ∧ ((p' :: l).getD ((p' :: l).length - 1) Pc.no).v = 0 ∧ (M.getD 0 Pc.no).v = 0
    · rw [if_pos h, if_pos ⟨by simp, h.2⟩]; rfl
    · rw [if_neg h, if_neg (fun q => h ⟨by simp, q.2⟩)]; rfl
theorem prs_mem : ∀ (n : Nat) (l : List Int), l.length ≤ n → ∀ p ∈ (prs l).1, (p.v = 0 → p = ⟨p.t, 0, 0, 0, 0, 0, 0⟩) ∧ (∀ x ∈ p.t, x ∈ l) ∧ p.t.length ≤ l.length := by
  intro n
  induction n with
  | zero =>
    intro l hl p hp
    have : l = [] := List.eq_nil_of_length_eq_zero (by omega)
    subst this
    rw [prs_nil] at hp; simp at hp
  | succ n ih =>
    intro l hl p hp
    by_cases h0 : l = []
    · subst h0; rw [prs_nil] at hp; simp at hp
    · by_cases he : qe l = 0
      · rw [prs_cons h0 he] at hp
        split at hp
        · rcases List.mem_cons.1 hp with rfl | hp
          · refine ⟨fun hv => ?_, fun x hx => ?_, ?_⟩
            · rw [qp, if_pos ((qp_v he).1 hv)]
            · rw [qp] at hx
              split at hx
              · exact List.mem_of_mem_take hx
              · split at hx
                · simp at hx
                · rw [dp] at hx
                  split at hx <;> simp [Pc.no] at hx
            · rw [qp]
              split
              · simp only [List.length_take]; omega
              · split
                · simp
                · rw [dp]; split <;> simp [Pc.no]
          · have := qu_pos h0
            obtain ⟨a, b, c⟩ := ih (l.drop (qu l)) (by rw [List.length_drop]; omega) p hp
            rw [List.length_drop] at c
            exact ⟨a, fun x hx => List.mem_of_mem_drop (b x hx), by omega⟩
        · simp at hp
      · rw [prs_err h0 he] at hp; simp at hp
theorem prs_len : ∀ (n : Nat) (l : List Int), l.length ≤ n → (prs l).1.length ≤ l.length := by
  intro n
  induction n with
  | zero =>
    intro l hl
    have : l = [] := List.eq_nil_of_length_eq_zero (by omega)
    subst this
    rw [prs_nil]; simp
  | succ n ih =>
    intro l hl
    by_cases h0 : l = []
    · subst h0; rw [prs_nil]; simp
    · by_cases he : qe l = 0
      · rw [prs_cons h0 he]
        split
        · have := qu_pos h0
          have := qu_le h0
          have := ih (l.drop (qu l)) (by rw [List.length_drop]; omega)
          rw [List.length_drop] at this
          rw [List.length_cons]
          omega
        · simp
      · rw [prs_err h0 he]; simp
end Dr

/-- An append, and where the list lies then. -/
theorem RowP.push2 {base : Nat} {w : World} {mv : Value} {ps : List Dr.Pc} (ho : RowP base w mv ps) (p : Dr.Pc) (hn : ps.length ≤ 2000000000000) (hb : base ≤ w.heap.size) :
    ∃ mv' w', (Builtin.append_ #[26, 26] 26 #[mv, .slice (some ⟨w.heap.size, 0, none⟩) 1 1]).run Tryd.prog (w.alloc (.cells (pcv p) 25)) = .ok mv' w' ∧ RowP base w' mv' (ps ++ [p]) ∧ w.heap.size ≤ w'.heap.size ∧
      Below base w w' ∧ (∀ j, j < w.heap.size → some j ≠ mv.ownBlock → w'.heap[j]? = w.heap[j]?) ∧ (∀ g, mv'.ownBlock = some g → mv.ownBlock = some g ∨ w.heap.size ≤ g) := by
  obtain ⟨mv', w', h1, h2, h3, h4, h5⟩ := ho.push p hn hb
  refine ⟨mv', w', h1, h2, h3, h4, h5, ?_⟩
  intro g hg
  obtain ⟨i, hi, hz⟩ := Option.map_eq_some_iff.1 infoP
  simp only [Prod.mk.injEq] at hz
  obtain ⟨z1, z2, z3⟩ := hz
  have hs : (w.alloc (.cells (pcv p) 25)).heap.size = w.heap.size + 1 := World.size_alloc _ _
  have hcell : ∀ j u, (pcv p).toList[j]? = some u → (w.alloc (.cells (pcv p) 25)).cell? ((⟨w.heap.size, 0, none⟩ : Addr).add j) = some u := by
    intro j u hu
    rw [Go.WideShapes.add_plain, Nat.zero_add]
    have h0 : (w.alloc (.cells (pcv p) 25)).heap[w.heap.size]? = some (.cells (pcv p) 25 (0, 0)) := heap_alloc_new w _
    simp only [World.cell?, h0]
    simpa using hu
  have hone : ∀ u ∈ (pcv p).toList, u.oneCell' = true := fun u hu => by
    simp only [pcv, List.mem_cons, List.not_mem_nil, or_false] at hu
    rcases hu with rfl | rfl | rfl | rfl | rfl | rfl | rfl <;> rfl
  have ho' := World.ownsRow.alloc ho (.cells (pcv p) 25)
  rcases ho'.2 with ⟨rfl, h0⟩ | ⟨g', cap, cur, rfl, hbg, hgg, hnc, hcm, hcs, htake⟩
  · obtain ⟨v2, w2, r2, o2, _, _⟩ := run_append_own (P := Tryd.prog) (w.alloc (.cells (pcv p) 25)) w.heap.size 26 26 25 i _ 7 64 Tryd.underlying26 hi z1 z2 z3 rfl (by omega) (.slice none 0 0) 0 [] (World.ownsRow_nil _ _ _ _)
      ⟨w.heap.size, 0, none⟩ 1 1 (pcv p).toList (by simp [pcv]) hcell hone (by simp only [maxLen]; omega) (by omega) (by rw [hs]; omega)
    rw [h1] at r2
    obtain ⟨rfl, rfl⟩ : mv' = v2 ∧ w' = w2 := by injection r2 with a b; exact ⟨a, b⟩
    exact .inr (o2.lt g hg).1
  · by_cases hroom : ps.length + 1 ≤ cap
    · have hr := run_append_room (P := Tryd.prog) (w.alloc (.cells (pcv p) 25)) 26 26 25 i Tryd.underlying26 hi g' ps.length cap cur hgg ⟨w.heap.size, 0, none⟩ 1 1 (pcv p).toList (by rw [z2]; simp [pcv]) hcell hone hroom (by rw [z2, hcs]; simp [pcv]; omega)
      rw [h1] at hr
      injection hr with a b
      rw [a] at hg
      exact .inl hg
    · have hr := run_append_grow (P := Tryd.prog) (w.alloc (.cells (pcv p) 25)) 26 26 25 i _ Tryd.underlying26 hi z1 ⟨g', 0, none⟩ ps.length cap (pcs ps) (by rw [z2]; exact pcs_len ps) (ho'.cells (g := g') rfl) ⟨w.heap.size, 0, none⟩ 1 1 (pcv p).toList (by rw [z2]; simp [pcv]) hcell (by omega) (by omega) (growslice_fits (by omega) (by rw [z3]; omega))
      rw [h1] at hr
      injection hr with a b
      rw [a] at hg
      simp only [Value.ownBlock, Option.some.injEq] at hg
      right
      omega
/-- The list without its last pieces. -/
theorem RowP.take {base : Nat} {w : World} {g cap : Nat} {ps : List Dr.Pc} (h : RowP base w (.slice (some ⟨g, 0, none⟩) ps.length cap) ps) (k : Nat) (hk : k ≤ ps.length) : RowP base w (.slice (some ⟨g, 0, none⟩) k cap) (ps.take k) := by
  obtain ⟨h1, h2⟩ := h
  have lk : (ps.take k).length = k := by rw [List.length_take]; omega
  refine ⟨pcs_len _, ?_⟩
  rcases h2 with ⟨e, _⟩ | ⟨g', cap', cur, e1, e2, e3, e4, e5, e6, e7⟩
  · simp at e
  · simp only [Value.slice.injEq, Option.some.injEq, Addr.mk.injEq] at e1
    obtain ⟨⟨rfl, _⟩, _, rfl⟩ := e1
    refine .inr ⟨g, cap, cur, by rw [lk], e2, e3, by omega, e5, e6, ?_⟩
    rw [lk]
    have : pcs (ps.take k) = (pcs ps).take (k * 7) := by
      have a : pcs ps = pcs (ps.take k) ++ pcs (ps.drop k) := by rw [← pcs_app, List.take_append_drop]
      rw [a, List.take_append_of_le_length (by rw [pcs_len, lk]; omega)]
      exact (List.take_of_length_le (by rw [pcs_len, lk]; omega)).symm
    rw [this, ← e7, List.take_take]
    congr 1
    omega
theorem RowP.text0 {base : Nat} {w : World} {g cap : Nat} {q : Dr.Pc} {M : List Dr.Pc} (h : RowP base w (.slice (some ⟨g, 0, none⟩) (q :: M).length cap) (q :: M)) (T : List Int) : RowP base (w.setCell ⟨g, 0, none⟩ (.string (strOfNums T))) (.slice (some ⟨g, 0, none⟩) (q :: M).length cap) ({ q with t := T } :: M) := by
  obtain ⟨h1, h2⟩ := h
  refine ⟨pcs_len _, ?_⟩
  rcases h2 with ⟨e, _⟩ | ⟨g', cap', cur, e1, e2, e3, e4, e5, e6, e7⟩
  · simp at e
  · simp only [Value.slice.injEq, Option.some.injEq, Addr.mk.injEq] at e1
    obtain ⟨⟨rfl, _⟩, _, rfl⟩ := e1
    refine .inr ⟨g, cap, cur.setIfInBounds 0 (.string (strOfNums T)), rfl, e2, by simp [World.setCell, Array.getElem?_modify, e3], e4, e5, by simpa using e6, ?_⟩
    rw [Array.toList_setIfInBounds, List.take_set]
    rw [show ({ q with t := T } :: M).length = (q :: M).length from rfl, e7]
    simp [pcs, pcv]

/-- The three lists, each in its place. -/
structure CS (w0 : World) (B1 B3 : Nat) (lv mv bv : Value) (ls ms bs : List Dr.Pc) (wk : World) : Prop where
  bel : Below w0.heap.size w0 wk
  lr : RowP w0.heap.size wk lv ls
  mr : RowP B1 wk mv ms
  br : RowP B1 wk bv bs
  lo : ∀ g, lv.ownBlock = some g → g < B1 ∨ B3 ≤ g
  hm : ∀ g, mv.ownBlock = some g → g < B3
  hb : ∀ g, bv.ownBlock = some g → g < B3
  ne : mv.ownBlock = none ∨ mv.ownBlock ≠ bv.ownBlock
  sz : B3 ≤ wk.heap.size
  b1 : w0.heap.size ≤ B1
theorem CS.push {w0 wk : World} {B1 B3 : Nat} {lv mv bv : Value} {ls ms bs : List Dr.Pc} (h : CS w0 B1 B3 lv mv bv ls ms bs wk) (p : Dr.Pc) (hn : ls.length ≤ 2000000000000) :
    ∃ lv' w', (Builtin.append_ #[26, 26] 26 #[lv, .slice (some ⟨wk.heap.size, 0, none⟩) 1 1]).run Tryd.prog (wk.alloc (.cells (pcv p) 25)) = .ok lv' w' ∧ CS w0 B1 B3 lv' mv bv (ls ++ [p]) ms bs w' := by
  obtain ⟨lv', w', h1, h2, h3, h4, h5, h6⟩ := h.lr.push2 p hn (by have := h.bel.size; omega)
  refine ⟨lv', w', h1, h.bel.trans h4, h2, ?_, ?_, ?_, h.hm, h.hb, h.ne, by have := h.sz; omega, h.b1⟩
  · refine World.ownsRow.kept (row := lv.ownBlock) h.mr ⟨h4.os, h4.tape, h4.output, h4.size, fun j hj q => h5 j hj q⟩ ?_
    cases e : Value.ownBlock mv with
    | none => exact .inl rfl
    | some g =>
      right
      intro z
      have := h.lo g z.symm
      have := h.hm g e
      have := (World.ownsRow.lt h.mr g e).1
      omega
  · refine World.ownsRow.kept (row := lv.ownBlock) h.br ⟨h4.os, h4.tape, h4.output, h4.size, fun j hj q => h5 j hj q⟩ ?_
    cases e : Value.ownBlock bv with
    | none => exact .inl rfl
    | some g =>
      right
      intro z
      have := h.lo g z.symm
      have := h.hb g e
      have := (World.ownsRow.lt h.br g e).1
      omega
  · intro g hg
    rcases h6 g hg with q | q
    · exact h.lo g q
    · right; have := h.sz; omega
theorem CS.on {w0 wk w' : World} {B1 B3 : Nat} {lv mv bv : Value} {ls ms bs : List Dr.Pc} (h : CS w0 B1 B3 lv mv bv ls ms bs wk) (k : Below wk.heap.size wk w') : CS w0 B1 B3 lv mv bv ls ms bs w' :=
  ⟨below_on h.bel k, h.lr.below k, h.mr.below k, h.br.below k, h.lo, h.hm, h.hb, h.ne, by have := h.sz; have := k.size; omega, h.b1⟩
theorem row_far {base g : Nat} {w : World} {mv v : Value} {ps : List Dr.Pc} {o : Nat} (h : RowP base w mv ps) (hne : mv.ownBlock ≠ some g) : RowP base (w.setCell ⟨g, o, none⟩ v) mv ps := by
  obtain ⟨h1, h2⟩ := h
  refine ⟨h1, ?_⟩
  rcases h2 with h2 | ⟨g', cap', cur, e1, e2, e3, e4⟩
  · exact .inl h2
  · refine .inr ⟨g', cap', cur, e1, e2, ?_, e4⟩
    subst e1
    have : g' ≠ g := fun q => hne (by simp [Value.ownBlock, q])
    simp only [World.setCell, Array.getElem?_modify]
    rw [if_neg (by omega)]
    exact e3
theorem CS.text {w0 wk : World} {B1 B3 g cap : Nat} {lv bv : Value} {ls M bs : List Dr.Pc} {q : Dr.Pc} (h : CS w0 B1 B3 lv (.slice (some ⟨g, 0, none⟩) (q :: M).length cap) bv ls (q :: M) bs wk) (T : List Int) :
    CS w0 B1 B3 lv (.slice (some ⟨g, 0, none⟩) (q :: M).length cap) bv ls ({ q with t := T } :: M) bs (wk.setCell ⟨g, 0, none⟩ (.string (strOfNums T))) := by
  have gb := (World.ownsRow.lt h.mr g rfl).1
  have gh := h.hm g rfl
  refine ⟨h.bel.setCell (p := ⟨g, 0, none⟩) (by have := h.b1; show _ ≤ g; omega) _, row_far h.lr (fun z => by have := h.lo g z; omega), h.mr.text0 T, row_far h.br (fun z => ?_), h.lo, h.hm, h.hb, h.ne, by have := h.sz; simpa [World.setCell] using this, h.b1⟩
  rcases h.ne with n | n
  · simp [Value.ownBlock] at n
  · exact n (by rw [z]; rfl)
theorem CS.cut {w0 wk : World} {B1 B3 g cap : Nat} {mv bv : Value} {ls ms bs : List Dr.Pc} (h : CS w0 B1 B3 (.slice (some ⟨g, 0, none⟩) ls.length cap) mv bv ls ms bs wk) (k : Nat) (hk : k ≤ ls.length) : CS w0 B1 B3 (.slice (some ⟨g, 0, none⟩) k cap) mv bv (ls.take k) ms bs wk :=
  ⟨h.bel, h.lr.take k hk, h.mr, h.br, h.lo, h.hm, h.hb, h.ne, h.sz, h.b1⟩
end Go.Proofs.YtdfnpoojbnoeeaaDoor
