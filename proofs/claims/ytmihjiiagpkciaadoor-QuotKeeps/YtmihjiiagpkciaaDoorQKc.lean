/-
  QuotKeeps: apart.
-/
import Derived.Test.YtmihjiiagpkciaaDoorQKb
import Derived.Test.YtmihjiiagpkciaaDoorNKpN
import Derived.Deep.RegionWith
namespace Go.Proofs.YtmihjiiagpkciaaDoor
open Go Go.RowKit Go.Deep

namespace Qk
theorem wpList_append_q {ty tx : TypeId} {ops : Array Oper} {rest : List Oper} {o : Oper} {a : Act} {Q : Exit → Act → World → Prop} (hgd : o.guard = none) (s x : Operand)
    (ho : o.op = .call { callee := .builtin .append, args := #[s, x], argTypes := #[ty, tx] }) {v y v' : Value} {w w' : World} (hr : (Builtin.append_ #[ty, tx] o.type #[v, y]).run Tryd.prog w = .ok v' w') (hs : a.eval s = v) (hx : a.eval x = y)
    (h : wpList Tryd.prog ops Q rest (a.put o.dst v') w') : wpList Tryd.prog ops Q (o :: rest) a w := by
  refine wpList_plain hgd fun K hK => ?_
  unfold Oper.wp execOp
  simp only [ho, resolve, invoke, builtin, Sem.run_bind, Sem.run_pure, Result.andThen_ok, List.map_toArray, List.map_cons, List.map_nil, hs, hx, hr]
  exact hK _ _ h
theorem row_cellQ {B n c : Nat} {w : World} {q : Option Addr} {D : List Sl} (h : Re.Ow v1 24 1 B w (.slice q n c) D) {i : Nat} {x : Sl} (hx : D[i]? = some x) : ∃ g, q = some ⟨g, 0, none⟩ ∧ w.cell? ⟨g, i, none⟩ = some (.slice x.p x.n x.c) := by
  have il := (List.getElem?_eq_some_iff.1 hx).1
  rcases h.shape with ⟨c, e, hD⟩ | ⟨g, c', e, _⟩
  · rw [hD] at il; simp at il
  · simp only [Value.slice.injEq] at e
    obtain ⟨rfl, -, -⟩ := e
    have := Re.Ow.cell v1_len h hx 0 (by omega) _ rfl
    rw [Nat.mul_one, Nat.add_zero] at this
    exact ⟨g, rfl, this⟩
theorem ow_lowQ {B B' : Nat} {w : World} {mv : Value} {D : List Int} (h : Re.Ow u1 26 1 B w mv D) (hb : B' ≤ B) : Re.Ow u1 26 1 B' w mv D := by
  refine ⟨h.1, ?_⟩
  rcases h.2 with q | ⟨g, c, cur, e1, e2, e3⟩
  · exact .inl q
  · exact .inr ⟨g, c, cur, e1, Nat.le_trans hb e2, e3⟩
theorem ow_u1Q {B : Nat} {w : World} {mv : Value} {D : List Int} (h : Re.Ow u1 26 1 B w mv D) (h0 : 0 < D.length) : ∃ g cap, mv = .slice (some ⟨g, 0, none⟩) D.length cap ∧ B ≤ g ∧ Lies w (some ⟨g, 0, none⟩) D := by
  rcases h.shape with ⟨c, rfl, hD⟩ | ⟨g, cap, hmv, hb, hs, hc, hm⟩
  · rw [hD] at h0; simp at h0
  · refine ⟨g, cap, hmv, hb, .inr ⟨g, 0, rfl, fun i hi => ?_⟩⟩
    obtain ⟨a, ha⟩ : ∃ a, D[i]? = some a := ⟨_, List.getElem?_eq_getElem hi⟩
    rw [hmv] at h
    have := h.cell u1_len ha 0 (by omega) (.int .u64 a) rfl
    rw [Nat.mul_one, Nat.add_zero] at this
    rw [Nat.zero_add, this, List.getD, ha]
    rfl
theorem app_lQ {H n t : Nat} {p : Option Addr} {x : Int} {lv : Value} {wx : World} {zs ys : List Int} (hz : zs.length = n) (hy : ys.length = t) (hn : n ≤ 1048000) (ht : t < 16) (hL : Lies wx p zs) (hB : H ≤ wx.heap.size) (h : (t = 0 ∧ lv = .slice p n n) ∨ (0 < t ∧ Re.Ow u1 26 1 H wx lv (zs ++ ys))) :
    ∃ lv' w', (Builtin.append_ #[24, 24] 24 #[lv, .slice (some ⟨wx.heap.size, 0, none⟩) 1 1]).run Tryd.prog (wx.alloc (.cells #[.int .u64 x] 26)) = .ok lv' w' ∧ Re.Ow u1 26 1 H w' lv' (zs ++ (ys ++ [x])) ∧ Below H wx w' := by
  rcases h with ⟨rfl, rfl⟩ | ⟨t0, ho⟩
  · obtain rfl : ys = [] := List.eq_nil_of_length_eq_zero hy
    obtain ⟨cap, w', e1, e2, e3⟩ := first_app p n zs x wx hz (by omega) hL
    exact ⟨_, w', e1, ow_lowQ e2 hB, e3.mono hB⟩
  · have l : (zs ++ ys).length ≤ 4000000000000 := by simp; omega
    obtain ⟨mv', w', e1, e2, e3, e4, _⟩ := ho.push u1_len u1_one (by omega) (P := Tryd.prog) 24 Tryd.underlying24 info_u64 (by omega) rfl x l hB
    refine ⟨mv', w', e1, ?_, e4⟩
    rw [← List.append_assoc]
    exact e2
/-- The marks of list i, n of them from place a on. -/
def mq (i a n : Nat) : List Int := (List.range n).map (fun j => mk i (a + j))
theorem mq_len (i a n : Nat) : (mq i a n).length = n := by simp [mq]
theorem mq_succ (i a n : Nat) : mq i a (n + 1) = mq i a n ++ [mk i (a + n)] := by simp [mq, List.range_succ]
theorem mq_at {i a n k : Nat} (h : k < n) : (mq i a n)[k]? = some (mk i (a + k)) := by simp [mq, h]
def CQ (i k : Nat) : Nat → List Int → Prop := fun j zs => (j < i → zs = mq j 0 zs.length) ∧ (j = i → zs.take k = mq i 0 k)
theorem cq_zero (j : Nat) (zs : List Int) : CQ 0 0 j zs := ⟨fun h => absurd h (by omega), fun _ => by simp [mq]⟩
theorem cq_other {i k t : Nat} {zs : List Int} (h : t ≠ i) (c : CQ i k t zs) : CQ i (k + 1) t zs := ⟨c.1, fun e => absurd e h⟩
theorem cq_put {i k : Nat} {zs : List Int} (h : k < zs.length) (c : CQ i k i zs) : CQ i (k + 1) i (zs.set k (mk i k)) :=
  ⟨fun e => absurd e (by omega), fun _ => by
    rw [List.take_add_one, List.take_set, List.set_eq_of_length_le (by rw [List.length_take]; omega), c.2 rfl, List.getElem?_set_self h, mq_succ, Nat.zero_add]
    rfl⟩
theorem cq_next {i j n : Nat} {zs : List Int} (hn : j = i → zs.length = n) (c : CQ i n j zs) : CQ (i + 1) 0 j zs :=
  ⟨fun h => by
    rcases Nat.lt_or_ge j i with q | q
    · exact c.1 q
    · have e : j = i := by omega
      have := c.2 e
      rw [List.take_of_length_le (by rw [hn e]; exact Nat.le_refl _)] at this
      rw [hn e, e]
      exact this, fun _ => by simp [mq]⟩
theorem KI.put {C C' : Nat → List Int → Prop} {B : Nat} {w : World} {mv : Value} {L : List Ke} (h : KI C B w mv L L.length) {j k : Nat} {e : Ke} (hj : L[j]? = some e) (hk : k < e.n) (x : Int)
    (hC : ∀ t zs, t ≠ j → C t zs → C' t zs) (hC2 : ∀ zs, zs.length = e.n → C j zs → C' j (zs.set k x)) :
    ∃ b off y, e.p = some ⟨b, off, none⟩ ∧ w.cell? ⟨b, off + k, none⟩ = some (.int .u64 y) ∧ w.frozen? ⟨b, off + k, none⟩ = false ∧ B ≤ b ∧ KI C' B (w.setCell ⟨b, off + k, none⟩ (.int .u64 x)) mv L L.length := by
  obtain ⟨b, off, y, h1, h2, h3, h4, h5⟩ := Kp.Each.put h.each h.apart hj hk x C' hC hC2
  have m := List.mem_of_getElem? hj
  exact ⟨b, off, y, h1, h2, h3, (h.blk m h4).1, ⟨h.row.keep (Keep.set w b (off + k) _) (fun g hg q => h.away e m b h4 (by rw [hg, q])), h5, h.small, h.apart, h.away⟩⟩
theorem KI.like {C : Nat → List Int → Prop} {B : Nat} {w w' : World} {mv : Value} {L : List Ke} {k : Nat} (h : KI C B w mv L k) (e : w'.heap = w.heap) (e1 : w'.os = w.os) (e2 : w'.tape = w.tape) (e3 : w'.output = w.output) : KI C B w' mv L k := h.on ⟨e1, e2, e3, by rw [e]; exact Nat.le_refl _, fun b _ => by rw [e]⟩
theorem bel_like {B : Nat} {a w w' : World} (h : Below B a w) (e : w'.heap = w.heap) (e1 : w'.os = w.os) (e2 : w'.tape = w.tape) (e3 : w'.output = w.output) : Below B a w' := h.trans ⟨e1, e2, e3, by rw [e]; exact Nat.le_refl _, fun b _ => by rw [e]⟩
/-- The lists that are grown. -/
structure Gr (B : Nat) (w : World) (gv : Value) (L : List Ke) (vs : List Sl) (i : Nat) : Prop where
  row : Re.Ow v1 24 1 B w gv vs
  len : vs.length = i
  new : ∀ j e, j < i → L[j]? = some e → ∃ (g cap : Nat) (zs : List Int), vs[j]? = some ⟨some ⟨g, 0, none⟩, e.n + 16, cap⟩ ∧ zs.length = e.n + 16 ∧ Lies w (some ⟨g, 0, none⟩) zs ∧ gv.ownBlock ≠ some g ∧ ∀ k, k < e.n + 16 → zs.getD k 0 = mk j k
theorem Gr.on {B : Nat} {w w' : World} {gv : Value} {L : List Ke} {vs : List Sl} {i : Nat} (h : Gr B w gv L vs i) (hB : Below w.heap.size w w') : Gr B w' gv L vs i :=
  ⟨h.row.below hB, h.len, fun j e hj he => by
    obtain ⟨g, cap, zs, a, b, c, d, f⟩ := h.new j e hj he
    exact ⟨g, cap, zs, a, b, c.below hB (Nat.le_refl _), d, f⟩⟩
theorem Gr.push {B : Nat} {w : World} {gv : Value} {L : List Ke} {vs : List Sl} {i : Nat} (h : Gr B w gv L vs i) {e : Ke} (he : L[i]? = some e) {g cap : Nat} {zs : List Int} (hz : zs.length = e.n + 16) (hl : Lies w (some ⟨g, 0, none⟩) zs) (hg : gv.ownBlock ≠ some g) (hm : ∀ k, k < e.n + 16 → zs.getD k 0 = Qk.mk i k) (hL : L.length ≤ 1000000) (hB : B ≤ w.heap.size) :
    ∃ gv' w', (Builtin.append_ #[27, 27] 27 #[gv, .slice (some ⟨w.heap.size, 0, none⟩) 1 1]).run Tryd.prog (w.alloc (.cells #[.slice (some ⟨g, 0, none⟩) (e.n + 16) cap] 24)) = .ok gv' w' ∧ Gr B w' gv' L (vs ++ [⟨some ⟨g, 0, none⟩, e.n + 16, cap⟩]) (i + 1) ∧ Below B w w' := by
  have il := (List.getElem?_eq_some_iff.1 he).1
  have hln := h.len
  obtain ⟨gv', w', e1, e2, e3, e4, e5, e6⟩ := h.row.push2 v1_len v1_one (by omega) (P := Tryd.prog) 27 Tryd.underlying27 info_u64s (by omega) rfl ⟨some ⟨g, 0, none⟩, e.n + 16, cap⟩ (by omega) hB
  have K : Keep (fun b => gv.ownBlock = some b) w w' := ⟨e4.os, e4.tape, e4.output, e4.size, fun j hj hs => e5 j hj (fun q => hs q.symm)⟩
  have far : ∀ (g' : Nat) (zs' : List Int), 0 < zs'.length → Lies w (some ⟨g', 0, none⟩) zs' → gv.ownBlock ≠ some g' → gv'.ownBlock ≠ some g' := fun g' zs' h0 hl' hg' q => by
    rcases e6 g' q with r | r
    · exact hg' r
    · have := hl'.lt h0 _ rfl
      simp only at this
      omega
  refine ⟨gv', w', e1, ⟨e2, by rw [List.length_append, hln]; rfl, fun j f hj hf => ?_⟩, e4⟩
  by_cases q : j = i
  · subst q
    rw [he] at hf
    cases hf
    exact ⟨g, cap, zs, by rw [List.getElem?_append_right (by omega), hln, Nat.sub_self]; rfl, hz, hl.keep K (fun a ha r => by cases ha; exact hg r), far g zs (by omega) hl hg, hm⟩
  · obtain ⟨g', cap', zs', a, b, c, d, f'⟩ := h.new j f (by omega) hf
    exact ⟨g', cap', zs', by rw [List.getElem?_append_left (by omega)]; exact a, b, c.keep K (fun a ha r => by cases ha; exact d r), far g' zs' (by omega) c d, f'⟩
end Qk
end Go.Proofs.YtmihjiiagpkciaaDoor
