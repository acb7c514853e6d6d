/-
  Texts put together: DMmA, DMmB, DMmD.
-/
import Derived.Test.YtaadooippelcfaaDoorGA
import Derived.Test.YtaadooippelcfaaDoorDExC
namespace Go.Proofs.YtaadooippelcfaaDoor
open Go Go.RowKit Go.Deep Go.Shelf

namespace Dm
def pe (p : Dr.Pc) : List Value := (pcv p).toList
theorem pe_len (p : Dr.Pc) : (pe p).length = 7 := rfl
theorem pe_one (p : Dr.Pc) : ∀ v ∈ pe p, v.oneCell' = true := fun v hv => by
  simp only [pe, pcv, List.mem_cons, List.not_mem_nil, or_false] at hv
  rcases hv with rfl | rfl | rfl | rfl | rfl | rfl | rfl <;> rfl
abbrev PO (B : Nat) (w : World) (mv : Value) (ps : List Dr.Pc) : Prop := Re.Ow pe 25 7 B w mv ps
theorem po_of {B : Nat} {w : World} {mv : Value} {ps : List Dr.Pc} (h : RowP B w mv ps) : PO B w mv ps := h
theorem of_po {B : Nat} {w : World} {mv : Value} {ps : List Dr.Pc} (h : PO B w mv ps) : RowP B w mv ps := h
structure Sk where
  p : Option Addr
  n : Nat
  c : Nat
def Sk.v (x : Sk) : Value := .slice x.p x.n x.c
def vk (x : Sk) : List Value := [x.v]
theorem vk_len (x : Sk) : (vk x).length = 1 := rfl
theorem vk_one (x : Sk) : ∀ v ∈ vk x, v.oneCell' = true := fun v hv => by
  simp only [vk, List.mem_singleton] at hv
  subst hv
  rfl
def ik (x : Int) : List Value := [.int .i64 x]
theorem ik_len (x : Int) : (ik x).length = 1 := rfl
theorem ik_one (x : Int) : ∀ v ∈ ik x, v.oneCell' = true := fun v hv => by
  simp only [ik, List.mem_singleton] at hv
  subst hv
  rfl
theorem infoK : (Tryd.prog.info? 26).map (fun i => (i.zero, i.size, i.bytes)) = some (some (.slice none 0 0), 1, 24) := by kernel_rfl
theorem infoI : (Tryd.prog.info? 3).map (fun i => (i.zero, i.size, i.bytes)) = some (some (.int .i64 0), 1, 8) := by kernel_rfl
section
variable {α : Type} {enc : α → List Value} {t k base : Nat}
theorem ow_kp {S : Nat → Prop} {w w' : World} {mv : Value} {D : List α} (h : Re.Ow enc t k base w mv D) (hb : Re.Kp S w w') (hs : ∀ g, mv.ownBlock = some g → ¬ S g) : Re.Ow enc t k base w' mv D := by
  obtain ⟨h1, h2⟩ := h
  refine ⟨h1, ?_⟩
  rcases h2 with h2 | ⟨g, cap, cur, e1, e2, e3, e4⟩
  · exact .inl h2
  · refine .inr ⟨g, cap, cur, e1, e2, ?_, e4⟩
    have hg : g < w.heap.size := by
      rcases Nat.lt_or_ge g w.heap.size with hl | hl
      · exact hl
      · simp [Array.getElem?_eq_none hl] at e3
    rw [hb.block g hg (hs g (by rw [e1]; rfl))]
    exact e3
theorem ow_lt {w : World} {mv : Value} {D : List α} (h : Re.Ow enc t k base w mv D) {g : Nat} (hg : mv.ownBlock = some g) : base ≤ g ∧ g < w.heap.size := by
  rcases h.shape with ⟨c, rfl, _⟩ | ⟨g', c, rfl, h1, h2, _⟩
  · cases hg
  · simp only [Value.ownBlock, Option.some.injEq] at hg
    subst hg
    exact ⟨h1, h2⟩
theorem ow_low {B : Nat} {w : World} {mv : Value} {D : List α} (h : Re.Ow enc t k base w mv D) (hb : B ≤ base) : Re.Ow enc t k B w mv D := by
  refine ⟨h.1, ?_⟩
  rcases h.2 with q | ⟨g, c, cur, e1, e2, e3⟩
  · exact .inl q
  · exact .inr ⟨g, c, cur, e1, Nat.le_trans hb e2, e3⟩
theorem ow_len {w : World} {mv : Value} {D : List α} (h : Re.Ow enc t k base w mv D) : ∃ p c, mv = .slice p D.length c := by
  rcases h.2 with ⟨rfl, h0⟩ | ⟨g, c, cur, rfl, _⟩
  · exact ⟨none, 0, by rw [h0]⟩
  · exact ⟨_, c, rfl⟩
theorem ow_put (hk : ∀ x, (enc x).length = k) {w : World} {g n cap : Nat} {D : List α} (h : Re.Ow enc t k base w (.slice (some ⟨g, 0, none⟩) n cap) D) {i : Nat} (hi : i < D.length) (x : α) : Re.Ow enc t k base (w.setCells g (i * k) (enc x)) (.slice (some ⟨g, 0, none⟩) n cap) (D.set i x) := by
  have ls := Re.fl_len hk (D.set i x)
  have l0 := Re.fl_len hk D
  rw [List.length_set] at ls
  have m : i * k + k ≤ D.length * k := by
    have := Nat.mul_le_mul_right k (show i + 1 ≤ D.length from hi)
    rwa [Nat.add_mul, Nat.one_mul] at this
  obtain ⟨h1, h2⟩ := h
  refine ⟨by rw [List.length_set]; exact ls, ?_⟩
  rcases h2 with ⟨e, _⟩ | ⟨g', cap', cur, e1, e2, e3, e4, e5, e6, e7⟩
  · simp at e
  · simp only [Value.slice.injEq, Option.some.injEq, Addr.mk.injEq] at e1
    obtain ⟨⟨rfl, _⟩, en, rfl⟩ := e1
    have b := Re.bx_setc (g := g) (t := t) (enc x) (i * k) w cur.toList (by exact e3) (by
      have : cur.toList.length = cap * k := by simp [e6]
      rw [this, hk]
      have := Nat.mul_le_mul_right k e4
      omega)
    have ll : cur.toList.length = cap * k := by simp [e6]
    have lk := Nat.mul_le_mul_right k e4
    have hx := hk x
    have fs := Re.fl_set hk D i x hi
    have lm : (D.set i x).length * k = D.length * k := by rw [List.length_set]
    rw [hx] at b
    generalize cur.toList = l at *
    generalize i * k = o at *
    generalize D.length * k = m0 at *
    generalize Re.fl enc D = F at *
    generalize Re.fl enc (D.set i x) = G at *
    refine .inr ⟨g, cap, _, by rw [List.length_set, en], e2, b, by rw [List.length_set]; exact e4, e5, ?_, ?_⟩
    · simp only [List.size_toArray, List.length_append, List.length_take, List.length_drop, hx, ll]
      omega
    · have cut : l = F ++ l.drop m0 := by rw [← e7, List.take_append_drop]
      have t1 : l.take o = F.take o := by rw [cut, List.take_append_of_le_length (by omega)]
      have t2 : l.drop (o + k) = F.drop (o + k) ++ l.drop m0 := by
        conv => lhs; rw [cut]
        rw [List.drop_append_of_le_length (by omega)]
      rw [t1, t2, ← List.append_assoc, fs, lm]
      simp only
      rw [List.take_append_of_le_length (by omega), List.take_of_length_le (by omega)]
theorem ow_free {w : World} {g n cap : Nat} {D : List α} (h : Re.Ow enc t k base w (.slice (some ⟨g, 0, none⟩) n cap) D) (o : Nat) : w.frozen? ⟨g, o, none⟩ = false := by
  rcases h.2 with ⟨e, _⟩ | ⟨g', cap', cur, e1, e2, e3, _⟩
  · simp at e
  · simp only [Value.slice.injEq, Option.some.injEq, Addr.mk.injEq] at e1
    obtain ⟨⟨rfl, _⟩, _⟩ := e1
    simp [World.frozen?, e3]
end
theorem kp_set (w : World) (g o : Nat) (v : Value) : Re.Kp (fun b => b = g) w (w.setCell ⟨g, o, none⟩ v) := Re.Kp.set (S := fun b => b = g) (Re.Kp.refl _ _) rfl _ _
/-- The lists that are kept. -/
structure KS (C : Nat → List Dr.Pc → Prop) (B : Nat) (w : World) (kv : Value) (L : List Sk) : Prop where
  row : Re.Ow vk 26 1 B w kv L
  each : ∀ i x, L[i]? = some x → ∃ ps, ps.length = x.n ∧ C i ps ∧ PO B w x.v ps
  apart : ∀ (i j : Nat) (x y : Sk), i ≠ j → L[i]? = some x → L[j]? = some y → ∀ b, x.v.ownBlock = some b → y.v.ownBlock ≠ some b
  away : ∀ x ∈ L, ∀ b, x.v.ownBlock = some b → kv.ownBlock ≠ some b
section
variable {C C' : Nat → List Dr.Pc → Prop} {B : Nat} {w w' : World} {kv : Value} {L : List Sk}
theorem KS.blk (h : KS C B w kv L) {x : Sk} (hx : x ∈ L) {b : Nat} (hb : x.v.ownBlock = some b) : B ≤ b ∧ b < w.heap.size := by
  obtain ⟨i, hi⟩ := List.getElem?_of_mem hx
  obtain ⟨ps, _, _, z⟩ := h.each i x hi
  exact ow_lt z hb
theorem KS.kp {S : Nat → Prop} (h : KS C B w kv L) (q : Re.Kp S w w') (h1 : ∀ g, kv.ownBlock = some g → ¬ S g) (h2 : ∀ x ∈ L, ∀ b, x.v.ownBlock = some b → ¬ S b) : KS C B w' kv L :=
  ⟨ow_kp h.row q h1, fun i x hi => by
    obtain ⟨ps, z1, z2, z3⟩ := h.each i x hi
    exact ⟨ps, z1, z2, ow_kp z3 q (fun g hg => h2 x (List.mem_of_getElem? hi) g hg)⟩, h.apart, h.away⟩
theorem KS.on (h : KS C B w kv L) (hB : Below w.heap.size w w') : KS C B w' kv L := h.kp (S := fun _ => False) (Re.Kp.of hB) (fun _ _ h => h) (fun _ _ _ _ h => h)
theorem KS.mono (h : KS C B w kv L) (q : ∀ i x, L[i]? = some x → ∀ ps, ps.length = x.n → C i ps → C' i ps) : KS C' B w kv L :=
  ⟨h.row, fun i x hi => by
    obtain ⟨ps, z1, z2, z3⟩ := h.each i x hi
    exact ⟨ps, z1, q i x hi ps z1 z2, z3⟩, h.apart, h.away⟩
/-- One more list is kept: it lies in new memory. -/
theorem KS.push {w0 : World} (h : KS C B w0 kv L) (hB : Below w0.heap.size w0 w) (x : Sk) {ps : List Dr.Pc} (hx : PO w0.heap.size w x.v ps) (hn : ps.length = x.n) (hc : C L.length ps) (hL : L.length ≤ 1000000000) (hb : B ≤ w0.heap.size) :
    ∃ kv' w', (Builtin.append_ #[34, 34] 34 #[kv, .slice (some ⟨w.heap.size, 0, none⟩) 1 1]).run Tryd.prog (w.alloc (.cells #[.slice x.p x.n x.c] 26)) = .ok kv' w' ∧ KS C B w' kv' (L ++ [x]) ∧ Below B w w' ∧ Re.Kp (fun b => kv.ownBlock = some b) w w' ∧ (∀ g, kv'.ownBlock = some g → kv.ownBlock = some g ∨ w.heap.size ≤ g) := by
  have h' := h.on hB
  have sz := hB.size
  obtain ⟨kv', w', e1, e2, e3, e4, e5, e6⟩ := h'.row.push2 vk_len vk_one (by omega) (P := Tryd.prog) 34 Tryd.underlying34 infoK (by omega) rfl x (by omega) (by omega)
  have K : Re.Kp (fun b => kv.ownBlock = some b) w w' := ⟨e4.os, e4.tape, e4.output, e4.size, fun j hj hs => e5 j hj (fun q => hs q.symm)⟩
  have ok : ∀ b, kv.ownBlock = some b → b < w0.heap.size := fun b hb => (ow_lt h.row hb).2
  have xb : ∀ b, x.v.ownBlock = some b → w0.heap.size ≤ b ∧ b < w.heap.size := fun b hb => ow_lt hx hb
  have idx : ∀ i y, (L ++ [x])[i]? = some y → (i < L.length ∧ L[i]? = some y) ∨ (i = L.length ∧ y = x) := fun i y hi => by
    rcases Nat.lt_or_ge i L.length with q | q
    · rw [List.getElem?_append_left q] at hi
      exact .inl ⟨q, hi⟩
    · rw [List.getElem?_append_right q] at hi
      have : i - L.length = 0 := by
        have := (List.getElem?_eq_some_iff.1 hi).1
        simp at this
        omega
      rw [this] at hi
      simp at hi
      exact .inr ⟨by omega, hi.symm⟩
  refine ⟨kv', w', e1, ⟨e2, fun i y hi => ?_, fun i j y z hij hi hj b hb => ?_, fun y hy b hb hk => ?_⟩, e4, K, e6⟩
  · rcases idx i y hi with ⟨_, q⟩ | ⟨rfl, rfl⟩
    · obtain ⟨qs, z1, z2, z3⟩ := h'.each i y q
      exact ⟨qs, z1, z2, ow_kp z3 K (fun g hg => h'.away y (List.mem_of_getElem? q) g hg)⟩
    · exact ⟨ps, hn, hc, ow_low (ow_kp hx K (fun g hg q => by have := xb g hg; have := ok g q; omega)) hb⟩
  · rcases idx i y hi with ⟨_, q⟩ | ⟨rfl, rfl⟩ <;> rcases idx j z hj with ⟨_, r⟩ | ⟨rfl, rfl⟩
    · exact h.apart i j y z hij q r b hb
    · intro hz
      have := (h.blk (List.mem_of_getElem? q) hb).2
      have := (xb b hz).1
      omega
    · intro hz
      have := (h.blk (List.mem_of_getElem? r) hz).2
      have := (xb b hb).1
      omega
    · exact absurd rfl hij
  · have bw : b < w.heap.size := by
      rcases List.mem_append.1 hy with q | q
      · have := (h.blk q hb).2; omega
      · obtain rfl : y = x := by simpa using q
        exact (xb b hb).2
    rcases e6 b hk with r | r
    · rcases List.mem_append.1 hy with q | q
      · exact h.away y q b hb r
      · obtain rfl : y = x := by simpa using q
        have := (xb b hb).1
        have := ok b r
        omega
    · omega
/-- The cell of a kept list. -/
theorem KS.cell (h : KS C B w kv L) {i : Nat} {x : Sk} (hi : L[i]? = some x) : ∃ g c, kv = .slice (some ⟨g, 0, none⟩) L.length c ∧ w.cell? ⟨g, i, none⟩ = some (.slice x.p x.n x.c) := by
  have il := (List.getElem?_eq_some_iff.1 hi).1
  rcases h.row.shape with ⟨c, _, hD⟩ | ⟨g, c', rfl, _⟩
  · rw [hD] at il; simp at il
  · have := Re.Ow.cell vk_len h.row hi 0 (by omega) _ rfl
    rw [Nat.mul_one, Nat.add_zero] at this
    exact ⟨g, c', rfl, this⟩
/-- A piece of a kept list is written over. -/
theorem KS.mark (h : KS C B w kv L) {j k : Nat} {x : Sk} (hj : L[j]? = some x) (hk : k < x.n) (q : Dr.Pc)
    (hC : ∀ t ps, t ≠ j → C t ps → C' t ps) (hC2 : ∀ ps, ps.length = x.n → C j ps → C' j (ps.set k q)) :
    ∃ g, x.p = some ⟨g, 0, none⟩ ∧ (∀ i, i < 7 → ∃ v, w.cell? ⟨g, k * 7 + i, none⟩ = some v) ∧ (∀ o, w.frozen? ⟨g, o, none⟩ = false) ∧ B ≤ g ∧ KS C' B (w.setCells g (k * 7) (pe q)) kv L ∧ Re.Kp (fun b => b = g) w (w.setCells g (k * 7) (pe q)) := by
  obtain ⟨ps, z1, z2, z3⟩ := h.each j x hj
  obtain ⟨xp, xn, xc⟩ := x
  simp only at z1 hk
  rcases z3.shape with ⟨c, _, hD⟩ | ⟨g, c', e, hb, _⟩
  · rw [hD] at z1; simp at z1; omega
  · simp only [Sk.v, Value.slice.injEq] at e
    obtain ⟨rfl, _, rfl⟩ := e
    have K : ∀ (vs : List Value) (o : Nat) (w0 : World), Re.Kp (fun b => b = g) w0 (w0.setCells g o vs) := fun vs => by
      induction vs with
      | nil => intro o w0; exact Re.Kp.refl _ _
      | cons v r ih => intro o w0; exact (kp_set w0 g o v).trans (ih _ _)
    refine ⟨g, rfl, fun i hi => ?_, fun o => ow_free z3 o, hb, ⟨ow_kp h.row (K _ _ _) (fun b hb' e => h.away _ (List.mem_of_getElem? hj) g rfl (by rw [hb', e])), fun i y hi => ?_, h.apart, h.away⟩, K _ _ _⟩
    · obtain ⟨p, hp⟩ : ∃ p, ps[k]? = some p := ⟨_, List.getElem?_eq_getElem (by omega)⟩
      obtain ⟨v, hv⟩ : ∃ v, (pe p)[i]? = some v := ⟨_, List.getElem?_eq_getElem (by rw [pe_len]; exact hi)⟩
      exact ⟨v, Re.Ow.cell pe_len z3 hp i hi v hv⟩
    · by_cases e : i = j
      · subst e
        rw [hj] at hi
        cases hi
        exact ⟨ps.set k q, by rw [List.length_set]; exact z1, hC2 ps z1 z2, ow_put pe_len z3 (by omega) q⟩
      · obtain ⟨qs, y1, y2, y3⟩ := h.each i y hi
        refine ⟨qs, y1, hC i qs e y2, ow_kp y3 (K _ _ _) (fun b hb' e' => ?_)⟩
        subst e'
        exact h.apart i j y _ e hi hj b hb' rfl
/-- A kept list has become another one, in its own block or in a new one. -/
theorem KS.repl {w0 : World} (h : KS C B w0 kv L) {j : Nat} {x y : Sk} (hj : L[j]? = some x) (K : Re.Kp (fun b => x.v.ownBlock = some b) w0 w) {ps : List Dr.Pc} (hy : PO B w y.v ps) (hn : ps.length = y.n) (hyb : ∀ b, y.v.ownBlock = some b → x.v.ownBlock = some b ∨ w0.heap.size ≤ b)
    (hC : ∀ t qs, t ≠ j → C t qs → C' t qs) (hC2 : C' j ps) :
    ∃ g c, kv = .slice (some ⟨g, 0, none⟩) L.length c ∧ (∃ v, w.cell? ⟨g, j, none⟩ = some v) ∧ w.frozen? ⟨g, j, none⟩ = false ∧ B ≤ g ∧ KS C' B (w.setCell ⟨g, j, none⟩ (.slice y.p y.n y.c)) kv (L.set j y) := by
  have mj := List.mem_of_getElem? hj
  have jl := (List.getElem?_eq_some_iff.1 hj).1
  obtain ⟨g, c, rfl, cl⟩ := h.cell hj
  have row : Re.Ow vk 26 1 B w (.slice (some ⟨g, 0, none⟩) L.length c) L := ow_kp h.row K (fun b hb q => h.away x mj b q hb)
  have gb := ow_lt h.row (g := g) rfl
  have cl2 := Re.Ow.cell vk_len row hj 0 (by omega) _ rfl
  rw [Nat.mul_one, Nat.add_zero] at cl2
  have row2 := ow_put vk_len row jl y
  rw [Nat.mul_one] at row2
  have K2 := kp_set w g j (.slice y.p y.n y.c)
  have yg : y.v.ownBlock ≠ some g := fun q => by
    rcases hyb g q with r | r
    · exact h.away x mj g r rfl
    · omega
  refine ⟨g, c, rfl, ⟨_, cl2⟩, ow_free row _, gb.1, row2, fun i z hi => ?_, fun i i' z z' hii hi hi' b hb hb' => ?_, fun z hz b hb hk => ?_⟩
  · by_cases e : i = j
    · subst e
      rw [List.getElem?_set_self jl] at hi
      cases hi
      exact ⟨ps, hn, hC2, ow_kp hy K2 (fun b hb q => yg (by rw [hb, q]))⟩
    · rw [List.getElem?_set_ne (fun q => e q.symm)] at hi
      obtain ⟨qs, y1, y2, y3⟩ := h.each i z hi
      have mz := List.mem_of_getElem? hi
      exact ⟨qs, y1, hC i qs e y2, ow_kp (ow_kp y3 K (fun b hb q => h.apart i j z x e hi hj b hb q)) K2 (fun b hb q => h.away z mz b hb (by rw [q]; rfl))⟩
  · by_cases e : i = j
    · subst e
      rw [List.getElem?_set_self jl] at hi
      cases hi
      rw [List.getElem?_set_ne hii] at hi'
      rcases hyb b hb with r | r
      · exact h.apart i i' x z' hii hj hi' b r hb'
      · have := (h.blk (List.mem_of_getElem? hi') hb').2
        omega
    · rw [List.getElem?_set_ne (fun q => e q.symm)] at hi
      by_cases e' : i' = j
      · subst e'
        rw [List.getElem?_set_self jl] at hi'
        cases hi'
        rcases hyb b hb' with r | r
        · exact h.apart i i' z x e hi hj b hb r
        · have := (h.blk (List.mem_of_getElem? hi) hb).2
          omega
      · rw [List.getElem?_set_ne (fun q => e' q.symm)] at hi'
        exact h.apart i i' z z' hii hi hi' b hb hb'
  · rcases List.mem_or_eq_of_mem_set hz with q | rfl
    · exact h.away z q b hb hk
    · simp only [Value.ownBlock, Option.some.injEq] at hk
      subst hk
      exact yg hb
end
/-- A mark. -/
def mkp (i : Int) : Dr.Pc := ⟨[37], 122, -7, 0, i, 0, 0⟩
theorem mk37 : strOfNums [37] = ⟨#[37]⟩ := by rfl
theorem mkp_v (i : Int) : pcv (mkp i) = #[.string ⟨#[37]⟩, .int .u8 122, .int .i64 (-7), .int .i64 0, .int .i64 i, .int .i64 0, .int .i64 0] := by
  rw [pcv, mkp, mk37]
theorem marked_any (i : Int) (w : World) : Calls Tryd.prog 12 #[.int .i64 i] w fun e w' => e = .returned (.agg #[.string ⟨#[37]⟩, .int .u8 122, .int .i64 (-7), .int .i64 0, .int .i64 i, .int .i64 0, .int .i64 0]) ∧ Below w.heap.size w w' := by
  go_enter Tryd.func12, Tryd.ntmps12
  go_wp2_with fail
  refine bodyPost_ret (results_cell_row rfl _ _ w.heap.size 25 _ (0, 0) _ rfl (heap_alloc_new _ _) Tryd.underlying25 rfl (by kernel_rfl)) rfl ?_
  exact ⟨rfl, alloc_b _ _⟩
end Dm
end Go.Proofs.YtaadooippelcfaaDoor

namespace Go.Proofs.YtaadooippelcfaaDoor
open Go Go.RowKit Go.Deep Go.Shelf

namespace Dr
theorem prs_le : ∀ (n : Nat) (l : List Int), l.length ≤ n → (prs l).1.length ≤ l.length := by
  intro n
  induction n with
  | zero =>
    intro l hl
    have : l = [] := List.eq_nil_of_length_eq_zero (by omega)
    subst this
    rw [prs_nil]; simp
  | succ n ih =>
    intro l hl
    by_cases h0 : l = []
    · subst h0; rw [prs_nil]; simp
    · by_cases he : qe l = 0
      · rw [prs_cons h0 he]
        split
        · have := qu_pos h0
          have := qu_le h0
          have := ih (l.drop (qu l)) (by rw [List.length_drop]; omega)
          rw [List.length_drop] at this
          rw [List.length_cons]
          omega
        · simp
      · rw [prs_err h0 he]; simp
end Dr
namespace Dm
section
variable {α : Type} {enc : α → List Value} {t k base : Nat}
/-- One cell of an element is written. -/
theorem ow_put1 (hk : ∀ x, (enc x).length = k) {w : World} {g n cap : Nat} {D : List α} (h : Re.Ow enc t k base w (.slice (some ⟨g, 0, none⟩) n cap) D) {i j : Nat} {y x : α} {v : Value} (hi : D[i]? = some y) (hj : j < k) (hx : enc x = (enc y).take j ++ [v] ++ (enc y).drop (j + 1)) : Re.Ow enc t k base (w.setCell ⟨g, i * k + j, none⟩ v) (.slice (some ⟨g, 0, none⟩) n cap) (D.set i x) := by
  have il := (List.getElem?_eq_some_iff.1 hi).1
  have ls := Re.fl_len hk (D.set i x)
  have l0 := Re.fl_len hk D
  have m : i * k + k ≤ D.length * k := by
    have := Nat.mul_le_mul_right k (show i + 1 ≤ D.length from il)
    rwa [Nat.add_mul, Nat.one_mul] at this
  have e1 := Re.fl_set hk D i y il
  have ey : D.set i y = D := by
    obtain ⟨_, e⟩ := List.getElem?_eq_some_iff.1 hi
    rw [← e]; exact List.set_getElem_self il
  have e2 := Re.fl_set hk D i x il
  rw [ey] at e1
  have al : ((Re.fl enc D).take (i * k)).length = i * k := by rw [List.length_take, l0]; omega
  have yl := hk y
  have F : Re.fl enc (D.set i x) = (Re.fl enc D).take (i * k + j) ++ [v] ++ (Re.fl enc D).drop (i * k + j + 1) := by
    rw [← e2, hx]
    generalize (Re.fl enc D).take (i * k) = A at *
    generalize (Re.fl enc D).drop (i * k + k) = Z at *
    rw [← e1, ← al]
    rw [List.append_assoc A (enc y) Z, List.take_length_add_append, Nat.add_assoc A.length j 1, List.drop_length_add_append, List.take_append_of_le_length (by omega), List.drop_append_of_le_length (by omega)]
    simp only [List.append_assoc]
  clear e1 e2 ey al hx
  rw [List.length_set] at ls
  obtain ⟨h1, h2⟩ := h
  refine ⟨by rw [List.length_set]; exact ls, ?_⟩
  rcases h2 with ⟨e, _⟩ | ⟨g', cap', cur, e1, e2, e3, e4, e5, e6, e7⟩
  · simp at e
  · simp only [Value.slice.injEq, Option.some.injEq, Addr.mk.injEq] at e1
    obtain ⟨⟨rfl, _⟩, en, rfl⟩ := e1
    have ll : cur.toList.length = cap * k := by simp [e6]
    have lk := Nat.mul_le_mul_right k e4
    have b := Re.bx_setc (g := g) (t := t) [v] (i * k + j) w cur.toList (by exact e3) (by simp only [List.length_singleton]; omega)
    have lm : (D.set i x).length * k = D.length * k := by rw [List.length_set]
    simp only [List.length_singleton] at b
    generalize cur.toList = l at *
    generalize i * k + j = o at *
    generalize Re.fl enc (D.set i x) = G at *
    refine .inr ⟨g, cap, _, by rw [List.length_set, en], e2, b, by rw [List.length_set]; exact e4, e5, ?_, ?_⟩
    · simp only [List.size_toArray, List.length_append, List.length_take, List.length_drop, List.length_singleton, ll]
      have : o < D.length * k := by
        rcases Nat.lt_or_ge o (D.length * k) with q | q
        · exact q
        · rw [F, List.length_append, List.length_append, List.length_take, List.length_drop, List.length_singleton, l0] at ls
          omega
      omega
    · rw [lm]
      have ol : o < D.length * k := by
        rcases Nat.lt_or_ge o (D.length * k) with q | q
        · exact q
        · rw [F, List.length_append, List.length_append, List.length_take, List.length_drop, List.length_singleton, l0] at ls
          omega
      generalize D.length * k = m0 at *
      generalize Re.fl enc D = F0 at *
      have cut : l = F0 ++ l.drop m0 := by rw [← e7, List.take_append_drop]
      have t1 : l.take o = F0.take o := by rw [cut, List.take_append_of_le_length (by omega)]
      have t2 : l.drop (o + 1) = F0.drop (o + 1) ++ l.drop m0 := by
        conv => lhs; rw [cut]
        rw [List.drop_append_of_le_length (by omega)]
      rw [t1, t2, ← List.append_assoc, ← F]
      simp only
      rw [List.take_append_of_le_length (by omega), List.take_of_length_le (by omega)]
end
/-- A list of texts as it comes in. -/
def TL (w : World) (a : Option Addr) (fs : List ByteArray) : Prop := ∀ i s, fs[i]? = some s → ∃ b off, a = some ⟨b, off, none⟩ ∧ w.cell? ⟨b, off + i, none⟩ = some (.string s)
theorem TL.on {w w' : World} {a : Option Addr} {fs : List ByteArray} (h : TL w a fs) (k : Below w.heap.size w w') : TL w' a fs := fun i s hi => by
  obtain ⟨b, off, e, c⟩ := h i s hi
  exact ⟨b, off, e, cell_below c k (cell_lt c)⟩
end Dm

set_option maxRecDepth 100000 in
set_option maxHeartbeats 4000000 in
theorem many_any (a : Option Addr) (len cap : Nat) (fs : List ByteArray) (q : Option Addr) (n c2 : Nat) (w : World) (hl : fs.length = len) (hf : Dm.TL w a fs) (hs : ∀ s ∈ fs, s.size ≤ 1048576) (hn : n ≤ 1048576) (hm : len ≤ 1048576) :
    Calls Tryd.prog 8 #[.slice a len cap, .slice q n c2] w fun e w' => (e = .returned (.bool false) ∨ e = .returned (.bool true)) ∧ Below w.heap.size w w' := by
  have HL := hid hl
  have HF := hid (fun W (hB : Below w.heap.size w W) => hf.on hB)
  have HS := hid hs
  have nb : (n : Int) ≤ 1048576 := by omega
  have lb : (len : Int) ≤ 1048576 := by omega
  clear hl hf hs hn hm
  go_enter Tryd.func8, Tryd.ntmps8
  go_wp2_with fail
  go_loopg [5, 6] len (fun m nv iv wr => ∃ (i x : Nat), i + m = len ∧ nv = .int .i64 (x : Int) ∧ (x : Int) ≤ 2097153 ∧ iv = .int .i64 (i : Int) ∧ Hid (Below w.heap.size w wr))
  case atStart => exact ⟨0, n, by omega, rfl, by omega, rfl, Below.refl _ _⟩
  case round =>
    obtain ⟨i, x, hi, rfl, hx, rfl, I⟩ := hrel
    by_cases il : i < len
    · have ili : (i : Int) < (len : Int) := by omega
      by_cases xl : (x : Int) ≤ 1048576
      · obtain ⟨s, hsi⟩ : ∃ s, fs[i]? = some s := ⟨_, List.getElem?_eq_getElem (by have := HL.out; omega)⟩
        have sl := HS.out s (List.mem_of_getElem? hsi)
        have sli : (s.size : Int) ≤ 1048576 := by omega
        obtain ⟨b, off, rfl, c⟩ := HF.out wr I.out i s hsi
        clear hsi
        go_wp2_with fail
        go_roundg (len - (i + 1))
        case measure => omega
        case rel => exact ⟨i + 1, x + (s.size + 1), by omega, by go_num, by omega, by go_num, I⟩
      · go_wp2_with fail
        go_ret
        exact ⟨.inr rfl, I.out⟩
    · have ili : ¬ (i : Int) < (len : Int) := by omega
      by_cases q1 : (1048576 : Int) < (x : Int)
      · go_wp2_with fail
        go_ret
        exact ⟨.inr rfl, I.out⟩
      · go_wp2_with fail
        go_ret
        exact ⟨.inl rfl, I.out⟩
end Go.Proofs.YtaadooippelcfaaDoor

namespace Go.Proofs.YtaadooippelcfaaDoor
open Go Go.RowKit Go.Deep Go.Shelf

namespace Dm
def nk (n : Nat) : List Value := [.int .i64 (n : Int)]
theorem nk_len (x : Nat) : (nk x).length = 1 := rfl
theorem nk_one (x : Nat) : ∀ v ∈ nk x, v.oneCell' = true := fun v hv => by
  simp only [nk, List.mem_singleton] at hv
  subst hv
  rfl
theorem kp_lo {B : Nat} {w w' : World} (h : Below B w w') : Re.Kp (fun b => B ≤ b) w w' := ⟨h.os, h.tape, h.output, h.size, fun j _ hs => h.block j (by omega)⟩
theorem ow_on {α : Type} {enc : α → List Value} {t k base : Nat} {w w' : World} {mv : Value} {D : List α} (h : Re.Ow enc t k base w mv D) (hB : Below w.heap.size w w') : Re.Ow enc t k base w' mv D := ow_kp (S := fun _ => False) h (Re.Kp.of hB) (fun _ _ h => h)
/-- How far the marking has come. -/
def CQ (i k : Nat) (t : Nat) (ps : List Dr.Pc) : Prop := ps.length ≤ 1048576 ∧ ∀ j, (t < i ∨ (t = i ∧ j < k)) → j < ps.length → ps[j]? = some (mkp t)
structure P4 (w w5 wx : World) (kv : Value) (L : List Sk) (sv : Value) (Z : List Nat) (i k : Nat) : Prop where
  bel : Below w.heap.size w wx
  ks : KS (CQ i k) w.heap.size wx kv L
  sz : Re.Ow nk 3 1 w5.heap.size wx sv Z
  lo : w.heap.size ≤ w5.heap.size
  up : w5.heap.size ≤ wx.heap.size
  ko : ∀ b, kv.ownBlock = some b → b < w5.heap.size
  xo : ∀ x ∈ L, ∀ b, x.v.ownBlock = some b → b < w5.heap.size
section
variable {w w5 wx wy : World} {kv sv : Value} {L : List Sk} {Z : List Nat} {i k : Nat}
theorem P4.on (h : P4 w w5 wx kv L sv Z i k) (b : Below wx.heap.size wx wy) : P4 w w5 wy kv L sv Z i k :=
  ⟨below_on h.bel b, h.ks.on b, ow_on h.sz b, h.lo, Nat.le_trans h.up b.size, h.ko, h.xo⟩
theorem P4.mark (h : P4 w w5 wx kv L sv Z i k) {x : Sk} (hj : L[i]? = some x) (hk : k < x.n) : ∃ g, x.p = some ⟨g, 0, none⟩ ∧ (∀ i, i < 7 → ∃ v, wx.cell? ⟨g, k * 7 + i, none⟩ = some v) ∧ (∀ o, wx.frozen? ⟨g, o, none⟩ = false) ∧ P4 w w5 (wx.setCells g (k * 7) (pe (mkp i))) kv L sv Z i (k + 1) := by
  obtain ⟨g, e, c, f, b, ks, kp⟩ := h.ks.mark (C' := CQ i (k + 1)) hj hk (mkp i)
    (fun t ps ne q => ⟨q.1, fun j hj hl => q.2 j (by omega) hl⟩)
    (fun ps hl q => ⟨by rw [List.length_set]; exact q.1, fun j hj' hl' => by
      rw [List.length_set] at hl'
      by_cases e : j = k
      · subst e; rw [List.getElem?_set_self hl']
      · rw [List.getElem?_set_ne (fun q => e q.symm)]
        exact q.2 j (by omega) hl'⟩)
  have gx : x.v.ownBlock = some g := by simp [Sk.v, e, Value.ownBlock]
  have gl := h.xo x (List.mem_of_getElem? hj) g gx
  refine ⟨g, e, c, f, ⟨h.bel.trans ⟨kp.os, kp.tape, kp.output, kp.size, fun j hj => kp.block j (Nat.lt_of_lt_of_le hj h.bel.size) (by omega)⟩, ks, ow_kp h.sz kp (fun b hb q => by have := (ow_lt h.sz hb).1; omega), h.lo, Nat.le_trans h.up kp.size, h.ko, h.xo⟩⟩
theorem P4.next (h : P4 w w5 wx kv L sv Z i k) {x : Sk} (hj : L[i]? = some x) (hk : k = x.n) : P4 w w5 wx kv L sv Z (i + 1) 0 :=
  ⟨h.bel, h.ks.mono (fun t y hy ps hl q => ⟨q.1, fun j hj' hl' => by
    rcases Nat.lt_or_ge t i with r | r
    · exact q.2 j (.inl r) hl'
    · have : t = i := by omega
      subst this
      rw [hj] at hy
      cases hy
      exact q.2 j (.inr ⟨rfl, by omega⟩) hl'⟩), h.sz, h.lo, h.up, h.ko, h.xo⟩
theorem P4.push (h : P4 w w5 wx kv L sv Z i k) (n : Nat) (hZ : Z.length ≤ 4000000) : ∃ sv' w', (Builtin.append_ #[35, 35] 35 #[sv, .slice (some ⟨wx.heap.size, 0, none⟩) 1 1]).run Tryd.prog (wx.alloc (.cells #[.int .i64 (n : Int)] 3)) = .ok sv' w' ∧ P4 w w5 w' kv L sv' (Z ++ [n]) i k := by
  obtain ⟨sv', w', e1, e2, e3, e4, e5, e6⟩ := h.sz.push2 nk_len nk_one (by omega) (P := Tryd.prog) 35 Tryd.underlying35 infoI (by omega) rfl n (by omega) h.up
  have K := kp_lo e4
  exact ⟨sv', w', e1, ⟨h.bel.trans (e4.mono h.lo), h.ks.kp K (fun g hg q => by have := h.ko g hg; omega) (fun x hx b hb q => by have := h.xo x hx b hb; omega), e2, h.lo, Nat.le_trans h.up e3, h.ko, h.xo⟩⟩
/-- What a list is while the lists are grown, one after another. -/
def CG (Z : List Nat) (i : Nat) (t : Nat) (ps : List Dr.Pc) : Prop := ∃ n, Z[t]? = some n ∧ n ≤ 1048576 ∧ ps = List.replicate (if t < i then n + 20 else n) (mkp t)
structure P5 (w wx : World) (kv : Value) (L : List Sk) (sv : Value) (Z : List Nat) (i : Nat) : Prop where
  bel : Below w.heap.size w wx
  ks : KS (CG Z i) w.heap.size wx kv L
  sz : Re.Ow nk 3 1 w.heap.size wx sv Z
  ko : ∀ b, kv.ownBlock = some b → sv.ownBlock ≠ some b
  xo : ∀ x ∈ L, ∀ b, x.v.ownBlock = some b → sv.ownBlock ≠ some b
theorem P4.to5 (h : P4 w w5 wx kv L sv Z i k) (hi : i = L.length) (hZ : Z = L.map (·.n)) : P5 w wx kv L sv Z 0 :=
  ⟨h.bel, h.ks.mono (fun t y hy ps hl q => by
    have tl := (List.getElem?_eq_some_iff.1 hy).1
    refine ⟨y.n, by rw [hZ, List.getElem?_map, hy]; rfl, by have := q.1; omega, ?_⟩
    rw [if_neg (by omega)]
    apply List.ext_getElem?
    intro j
    rcases Nat.lt_or_ge j ps.length with r | r
    · rw [q.2 j (.inl (by omega)) r, List.getElem?_replicate, if_pos (by omega)]
    · rw [List.getElem?_eq_none r, List.getElem?_replicate, if_neg (by omega)]), ow_low h.sz h.lo,
    fun b hb q => by have := h.ko b hb; have := (ow_lt h.sz q).1; omega, fun x hx b hb q => by have := h.xo x hx b hb; have := (ow_lt h.sz q).1; omega⟩
theorem P5.on (h : P5 w wx kv L sv Z i) (b : Below wx.heap.size wx wy) : P5 w wy kv L sv Z i :=
  ⟨below_on h.bel b, h.ks.on b, ow_on h.sz b, h.ko, h.xo⟩
/-- A kept list, as it is grown. -/
structure GL (w wz wx : World) (x : Sk) (lv : Value) (ps : List Dr.Pc) : Prop where
  bel : Below w.heap.size w wx
  kp : Re.Kp (fun b => x.v.ownBlock = some b) wz wx
  po : PO w.heap.size wx lv ps
  ow : ∀ b, lv.ownBlock = some b → x.v.ownBlock = some b ∨ wz.heap.size ≤ b
theorem GL.on {wz : World} {x : Sk} {lv : Value} {ps : List Dr.Pc} (h : GL w wz wx x lv ps) (b : Below wx.heap.size wx wy) : GL w wz wy x lv ps :=
  ⟨below_on h.bel b, h.kp.trans (Re.Kp.of b), RowP.below h.po b, h.ow⟩
theorem GL.push {wz : World} {x : Sk} {lv : Value} {ps : List Dr.Pc} (h : GL w wz wx x lv ps) (p : Dr.Pc) (hn : ps.length ≤ 4000000) : ∃ lv' w', (Builtin.append_ #[26, 26] 26 #[lv, .slice (some ⟨wx.heap.size, 0, none⟩) 1 1]).run Tryd.prog (wx.alloc (.cells (pcv p) 25)) = .ok lv' w' ∧ GL w wz w' x lv' (ps ++ [p]) := by
  obtain ⟨lv', w', e1, e2, e3, e4, e5, e6⟩ := Re.Ow.push2 pe_len pe_one (by omega) (P := Tryd.prog) 26 Tryd.underlying26 infoP (by omega) rfl h.po p (by omega) h.bel.size
  refine ⟨lv', w', e1, ⟨h.bel.trans e4, ⟨e4.os.trans h.kp.os, e4.tape.trans h.kp.tape, e4.output.trans h.kp.output, Nat.le_trans h.kp.size e3, fun j hj hs => ?_⟩, e2, fun b hb => ?_⟩⟩
  · rw [e5 j (Nat.lt_of_lt_of_le hj h.kp.size) (fun q => ?_)]
    · exact h.kp.block j hj hs
    · rcases h.ow j q.symm with r | r
      · exact hs r
      · omega
  · rcases e6 b hb with q | q
    · exact h.ow b q
    · exact .inr (Nat.le_trans h.kp.size q)
theorem P5.start (h : P5 w wx kv L sv Z i) {x : Sk} (hj : L[i]? = some x) : ∃ n, Z[i]? = some n ∧ n ≤ 1048576 ∧ x.n = n ∧ GL w wx wx x x.v (List.replicate n (mkp i)) := by
  obtain ⟨ps, z1, ⟨n, z2, z3, rfl⟩, z4⟩ := h.ks.each i x hj
  rw [if_neg (by omega)] at z1 z4
  rw [List.length_replicate] at z1
  exact ⟨n, z2, z3, z1.symm, ⟨h.bel, Re.Kp.refl _ _, z4, fun b hb => .inl hb⟩⟩
/-- The grown list is kept. -/
theorem P5.put {wz : World} (h : P5 w wz kv L sv Z i) {x : Sk} (hj : L[i]? = some x) {n : Nat} (hz : Z[i]? = some n) (hn : n ≤ 1048576) {y : Sk} (hy : y.n = n + 20) (q : GL w wz wx x y.v (List.replicate (n + 20) (mkp i))) :
    ∃ g c, kv = .slice (some ⟨g, 0, none⟩) L.length c ∧ (∃ v, wx.cell? ⟨g, i, none⟩ = some v) ∧ wx.frozen? ⟨g, i, none⟩ = false ∧ P5 w (wx.setCell ⟨g, i, none⟩ (.slice y.p y.n y.c)) kv (L.set i y) sv Z (i + 1) := by
  obtain ⟨g, c, e, cl, fz, hb, ks⟩ := h.ks.repl (C' := CG Z (i + 1)) hj q.kp q.po (by rw [List.length_replicate, hy]) q.ow
    (fun t qs ne ⟨m, a, b, c⟩ => ⟨m, a, b, by
      rw [c]
      by_cases r : t < i
      · rw [if_pos r, if_pos (by omega)]
      · rw [if_neg r, if_neg (by omega)]⟩)
    ⟨n, hz, hn, by rw [if_pos (by omega)]⟩
  have gk : kv.ownBlock = some g := by rw [e]; rfl
  have mj := List.mem_of_getElem? hj
  refine ⟨g, c, e, cl, fz, ⟨sb_below q.bel hb, ks, ow_kp (ow_kp h.sz q.kp (fun b hb r => h.xo x mj b r hb)) (kp_set _ g _ _) (fun b hb r => h.ko b (by rw [gk, r]) hb), h.ko, fun z hzm b hb r => ?_⟩⟩
  rcases List.mem_or_eq_of_mem_set hzm with m | rfl
  · exact h.xo z m b hb r
  · rcases q.ow b hb with s | s
    · exact h.xo x mj b s r
    · have := (ow_lt h.sz r).2
      omega
theorem P5.size {sp : Option Addr} {M sc t n : Nat} (h : P5 w wx kv L (.slice sp M sc) Z i) (hz : Z[t]? = some n) : ∃ sg, sp = some ⟨sg, 0, none⟩ ∧ wx.cell? ⟨sg, t, none⟩ = some (.int .i64 (n : Int)) := by
  have tl := (List.getElem?_eq_some_iff.1 hz).1
  have sz := h.sz
  rcases sz.shape with ⟨c, e, hD⟩ | ⟨g, c, e, _, _, _⟩
  · rw [hD] at tl; simp at tl
  · rw [e] at sz
    have c0 := Re.Ow.cell nk_len sz hz 0 (by omega) _ rfl
    rw [Nat.mul_one, Nat.add_zero] at c0
    simp only [Value.slice.injEq] at e
    exact ⟨g, e.1, c0⟩
theorem P5.look {kg M kc t k xn xc : Nat} {xp : Option Addr} (h : P5 w wx (.slice (some ⟨kg, 0, none⟩) M kc) L sv Z i) (hx : L[t]? = some ⟨xp, xn, xc⟩) (ht : t < i) (hk : k < xn) : wx.cell? ⟨kg, t, none⟩ = some (.slice xp xn xc) ∧ ∃ g, xp = some ⟨g, 0, none⟩ ∧ (wx.cell? ⟨g, k * 7, none⟩ = some (.string ⟨#[37]⟩) ∧ wx.cell? ⟨g, k * 7 + 1, none⟩ = some (.int .u8 122) ∧ wx.cell? ⟨g, k * 7 + 2, none⟩ = some (.int .i64 (-7)) ∧ wx.cell? ⟨g, k * 7 + 3, none⟩ = some (.int .i64 0) ∧ wx.cell? ⟨g, k * 7 + 4, none⟩ = some (.int .i64 (t : Int)) ∧ wx.cell? ⟨g, k * 7 + 5, none⟩ = some (.int .i64 0) ∧ wx.cell? ⟨g, k * 7 + 6, none⟩ = some (.int .i64 0)) := by
  constructor
  · obtain ⟨g', c', e', ck⟩ := h.ks.cell hx
    simp only [Value.slice.injEq, Option.some.injEq, Addr.mk.injEq] at e'
    rw [e'.1.1]
    exact ck
  · obtain ⟨ps, z1, ⟨n, z2, z3, z4⟩, z5⟩ := h.ks.each t _ hx
    rw [if_pos ht] at z4
    simp only at z1
    have pk : ps[k]? = some (mkp t) := by
      rw [z4, List.getElem?_replicate, if_pos (by rw [z4, List.length_replicate] at z1; omega)]
    rcases z5.shape with ⟨c, e, hD⟩ | ⟨g, c, e, _, _, _⟩
    · rw [hD] at pk; simp at pk
    · rw [e] at z5
      simp only [Sk.v, Value.slice.injEq] at e
      refine ⟨g, e.1, ?_, ?_, ?_, ?_, ?_, ?_, ?_⟩
      · exact Re.Ow.cell pe_len z5 pk 0 (by omega) _ rfl
      · exact Re.Ow.cell pe_len z5 pk 1 (by omega) _ rfl
      · exact Re.Ow.cell pe_len z5 pk 2 (by omega) _ rfl
      · exact Re.Ow.cell pe_len z5 pk 3 (by omega) _ rfl
      · exact Re.Ow.cell pe_len z5 pk 4 (by omega) _ rfl
      · exact Re.Ow.cell pe_len z5 pk 5 (by omega) _ rfl
      · exact Re.Ow.cell pe_len z5 pk 6 (by omega) _ rfl
end
end Dm
end Go.Proofs.YtaadooippelcfaaDoor
