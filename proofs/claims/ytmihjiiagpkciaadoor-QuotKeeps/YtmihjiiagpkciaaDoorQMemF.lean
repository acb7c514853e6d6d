/-
  NatMemory: the lists that are kept; turned, once more.
-/
import Derived.Test.YtmihjiiagpkciaaDoorOwI
import Derived.Test.YtmihjiiagpkciaaDoorIBx
namespace Go.Proofs.YtmihjiiagpkciaaDoor
open Go Go.RowKit Go.Deep

theorem Keep.set (w : World) (g o : Nat) (v : Value) : Keep (fun b => b = g) w (w.setCell ⟨g, o, none⟩ v) :=
  ⟨rfl, rfl, rfl, by simp [World.setCell], fun _ _ hb => Below.heap_setCell _ _ _ _ (fun e => hb e)⟩
theorem Keep.on {S : Nat → Prop} {w w' : World} (h : Below w.heap.size w w') : Keep S w w' := Keep.of_below h (Nat.le_refl _)

/-- A list with these limbs, that may be written. -/
def Ls (H : Nat) (w : World) (p : Option Addr) (zs : List Int) : Prop := Lies w p zs ∧ ∀ a, p = some a → 0 < zs.length → H ≤ a.block ∧ ∀ o, w.frozen? ⟨a.block, o, none⟩ = false
theorem Lies.keep0 {S : Nat → Prop} {w w' : World} {p : Option Addr} {zs : List Int} (h : Lies w p zs) (k : Keep S w w') (hp : ∀ a, p = some a → 0 < zs.length → ¬ S a.block) : Lies w' p zs := by
  rcases h with rfl | ⟨b, off, rfl, h⟩
  · exact .inl rfl
  · rcases Nat.eq_zero_or_pos zs.length with z | z
    · exact .inl (List.eq_nil_of_length_eq_zero z)
    · exact .inr ⟨b, off, rfl, fun i hi => k.cell (h i hi) (hp ⟨b, off, none⟩ rfl z)⟩
theorem Ls.keep {S : Nat → Prop} {H : Nat} {w w' : World} {p : Option Addr} {zs : List Int} (h : Ls H w p zs) (k : Keep S w w') (hp : ∀ a, p = some a → 0 < zs.length → ¬ S a.block) : Ls H w' p zs :=
  ⟨h.1.keep0 k hp, fun a ha h0 => ⟨(h.2 a ha h0).1, fun o => by
    have lt := h.1.lt h0 a ha
    have e := k.block a.block lt (hp a ha h0)
    have f := (h.2 a ha h0).2 o
    simp only [World.frozen?] at f ⊢
    rw [e]
    exact f⟩⟩
theorem Ls.on {H : Nat} {w w' : World} {p : Option Addr} {zs : List Int} (h : Ls H w p zs) (hB : Below w.heap.size w w') : Ls H w' p zs := h.keep (S := fun _ => False) (Keep.on hB) (fun _ _ _ h => h)
theorem Ls.low {H H' : Nat} {w : World} {p : Option Addr} {zs : List Int} (h : Ls H w p zs) (hh : H' ≤ H) : Ls H' w p zs := ⟨h.1, fun a ha h0 => ⟨Nat.le_trans hh (h.2 a ha h0).1, (h.2 a ha h0).2⟩⟩
theorem Own.ls {H : Nat} {w : World} {g : Nat} {zs : List Int} (h : Own w g zs) (hh : H ≤ g) : Ls H w (some ⟨g, 0, none⟩) zs := ⟨h.lies, fun a ha _ => by cases ha; exact ⟨hh, fun o => h.free o⟩⟩

structure Ke where
  p : Option Addr
  n : Nat
def Ke.blk (e : Ke) : Option Nat := if e.n = 0 then none else e.p.map (·.block)
theorem Ke.blk_of {e : Ke} {a : Addr} (h : e.p = some a) (h0 : 0 < e.n) : e.blk = some a.block := by
  unfold Ke.blk
  rw [if_neg (by omega), h]
  rfl
theorem Ke.of_blk {e : Ke} {b : Nat} (h : e.blk = some b) : 0 < e.n ∧ ∃ a, e.p = some a ∧ a.block = b := by
  unfold Ke.blk at h
  split at h
  · cases h
  · exact ⟨by omega, Option.map_eq_some_iff.1 h⟩
structure Sl where
  p : Option Addr
  n : Nat
  c : Nat
def v1 (x : Sl) : List Value := [.slice x.p x.n x.c]
theorem v1_len (x : Sl) : (v1 x).length = 1 := rfl
theorem v1_one (x : Sl) : ∀ v ∈ v1 x, v.oneCell' = true := fun v hv => by
  simp only [v1, List.mem_singleton] at hv
  subst hv
  rfl
def i1 (x : Int) : List Value := [.int .i64 x]
theorem i1_len (x : Int) : (i1 x).length = 1 := rfl
theorem i1_one (x : Int) : ∀ v ∈ i1 x, v.oneCell' = true := fun v hv => by
  simp only [i1, List.mem_singleton] at hv
  subst hv
  rfl
def u1 (x : Int) : List Value := [.int .u64 x]
theorem u1_len (x : Int) : (u1 x).length = 1 := rfl
theorem u1_one (x : Int) : ∀ v ∈ u1 x, v.oneCell' = true := fun v hv => by
  simp only [u1, List.mem_singleton] at hv
  subst hv
  rfl
def Ke.v (e : Ke) : Sl := ⟨e.p, e.n, e.n⟩
def Apart (L : List Ke) : Prop := L.Pairwise (fun e f => ∀ b, e.blk = some b → f.blk ≠ some b)
theorem Apart.ne {L : List Ke} (h : Apart L) {i j : Nat} {e f : Ke} (hi : L[i]? = some e) (hj : L[j]? = some f) (hn : i ≠ j) {b : Nat} (he : e.blk = some b) : f.blk ≠ some b := by
  obtain ⟨a1, a2⟩ := List.getElem?_eq_some_iff.1 hi
  obtain ⟨b1, b2⟩ := List.getElem?_eq_some_iff.1 hj
  have hp := List.pairwise_iff_getElem.1 h
  rcases Nat.lt_or_gt_of_ne hn with q | q
  · have := hp i j a1 b1 q
    rw [a2, b2] at this
    exact this b he
  · intro hf
    have := hp j i b1 a1 q
    rw [a2, b2] at this
    exact this b hf he

/-- What the law keeps: the lists of L, of which the first k are in the list of lists. -/
structure KI (C : Nat → List Int → Prop) (B : Nat) (w : World) (mv : Value) (L : List Ke) (k : Nat) : Prop where
  row : Re.Ow v1 24 1 B w mv ((L.take k).map Ke.v)
  each : ∀ i e, L[i]? = some e → ∃ zs, zs.length = e.n ∧ C i zs ∧ Ls B w e.p zs
  small : ∀ e ∈ L, e.n ≤ 17592186044000
  apart : Apart L
  away : ∀ e ∈ L, ∀ b, e.blk = some b → mv.ownBlock ≠ some b
def T0 : Nat → List Int → Prop := fun _ _ => True
theorem ow_lt {α : Type} {enc : α → List Value} {t k B : Nat} {w : World} {mv : Value} {D : List α} (h : Re.Ow enc t k B w mv D) {g : Nat} (hg : mv.ownBlock = some g) : B ≤ g ∧ g < w.heap.size := by
  rcases h.shape with ⟨c, rfl, _⟩ | ⟨g', c, rfl, h1, h2, _⟩
  · cases hg
  · simp only [Value.ownBlock, Option.some.injEq] at hg
    subst hg
    exact ⟨h1, h2⟩
theorem KI.blk {C : Nat → List Int → Prop} {B : Nat} {w : World} {mv : Value} {L : List Ke} {k : Nat} (h : KI C B w mv L k) {e : Ke} (he : e ∈ L) {b : Nat} (hb : e.blk = some b) : B ≤ b ∧ b < w.heap.size := by
  obtain ⟨i, hi⟩ := List.getElem?_of_mem he
  obtain ⟨zs, z1, _, z3⟩ := h.each i e hi
  obtain ⟨n0, a, ha, rfl⟩ := Ke.of_blk hb
  exact ⟨(z3.2 a ha (by omega)).1, z3.1.lt (by omega) a ha⟩
theorem KI.keep {C : Nat → List Int → Prop} {B : Nat} {w w' : World} {mv : Value} {L : List Ke} {k : Nat} {S : Nat → Prop} (h : KI C B w mv L k) (q : Keep S w w') (h1 : ∀ g, mv.ownBlock = some g → ¬ S g) (h2 : ∀ e ∈ L, ∀ b, e.blk = some b → ¬ S b) : KI C B w' mv L k :=
  ⟨h.row.keep q h1, fun i e hi => by
    obtain ⟨zs, z1, z2, z3⟩ := h.each i e hi
    exact ⟨zs, z1, z2, z3.keep q (fun a ha h0 => h2 e (List.mem_of_getElem? hi) _ (Ke.blk_of ha (by omega)))⟩, h.small, h.apart, h.away⟩
theorem KI.on {C : Nat → List Int → Prop} {B : Nat} {w w' : World} {mv : Value} {L : List Ke} {k : Nat} (h : KI C B w mv L k) (hB : Below w.heap.size w w') : KI C B w' mv L k :=
  h.keep (S := fun _ => False) (Keep.on hB) (fun _ _ h => h) (fun _ _ _ _ h => h)
theorem KI.mono {C C' : Nat → List Int → Prop} {B : Nat} {w : World} {mv : Value} {L : List Ke} {k : Nat} (h : KI C B w mv L k) (q : ∀ i e, L[i]? = some e → ∀ zs, zs.length = e.n → C i zs → C' i zs) : KI C' B w mv L k :=
  ⟨h.row, fun i e hi => by
    obtain ⟨zs, z1, z2, z3⟩ := h.each i e hi
    exact ⟨zs, z1, q i e hi zs z1 z2, z3⟩, h.small, h.apart, h.away⟩
theorem KI.ext {B : Nat} {w0 w : World} {mv : Value} {L : List Ke} (h : KI T0 B w0 mv L L.length) (hB : Below w0.heap.size w0 w) (hb : B ≤ w0.heap.size) (N : List Ke) (hN : ∀ e ∈ N, (∃ zs, zs.length = e.n ∧ Ls w0.heap.size w e.p zs) ∧ e.n ≤ 17592186044000) (ap : Apart N) :
    KI T0 B w mv (L ++ N) L.length := by
  have h' := h.on hB
  have nb : ∀ e ∈ N, ∀ b, e.blk = some b → w0.heap.size ≤ b := fun e he b eb => by
    obtain ⟨⟨zs, z1, z2⟩, _⟩ := hN e he
    obtain ⟨n0, a, ha, rfl⟩ := Ke.of_blk eb
    exact (z2.2 a ha (by omega)).1
  refine ⟨by rw [List.take_left]; have := h'.row; rwa [List.take_length] at this, fun i e hi => ?_, fun e he => ?_, ?_, fun e he b eb => ?_⟩
  · rcases Nat.lt_or_ge i L.length with il | il
    · rw [List.getElem?_append_left il] at hi
      exact h'.each i e hi
    · rw [List.getElem?_append_right il] at hi
      obtain ⟨⟨zs, z1, z2⟩, _⟩ := hN e (List.mem_of_getElem? hi)
      exact ⟨zs, z1, trivial, z2.low hb⟩
  · rcases List.mem_append.1 he with q | q
    · exact h.small e q
    · exact (hN e q).2
  · refine List.pairwise_append.2 ⟨h.apart, ap, fun e he f hf b eb fb => ?_⟩
    have := (h.blk he eb).2
    have := nb f hf b fb
    omega
  · rcases List.mem_append.1 he with q | q
    · exact h.away e q b eb
    · intro hg
      have := (ow_lt h.row hg).2
      have := nb e q b eb
      omega

theorem info_u64s : (Tryd.prog.info? 24).map (fun i => (i.zero, i.size, i.bytes)) = some (some (.slice none 0 0), 1, 24) := by kernel_rfl
theorem info_u64 : (Tryd.prog.info? 26).map (fun i => (i.zero, i.size, i.bytes)) = some (some (.int .u64 0), 1, 8) := by kernel_rfl

/-- One more list is put behind. -/
theorem KI.push {C : Nat → List Int → Prop} {B : Nat} {w : World} {mv : Value} {L : List Ke} {k : Nat} (h : KI C B w mv L k) {e : Ke} (he : L[k]? = some e) (hL : L.length ≤ 4000000000000) (hB : B ≤ w.heap.size) :
    ∃ mv' w', (Builtin.append_ #[27, 27] 27 #[mv, .slice (some ⟨w.heap.size, 0, none⟩) 1 1]).run Tryd.prog (w.alloc (.cells #[.slice e.p e.n e.n] 24)) = .ok mv' w' ∧ KI C B w' mv' L (k + 1) ∧ Below B w w' ∧ Keep (fun b => mv.ownBlock = some b) w w' ∧ (∀ b, mv'.ownBlock = some b → mv.ownBlock = some b ∨ w.heap.size ≤ b) := by
  have hk := (List.getElem?_eq_some_iff.1 he).1
  have hl : ((L.take k).map Ke.v).length ≤ 4000000000000 := by simp; omega
  obtain ⟨mv', w', e1, e2, e3, e4, e5, e6⟩ := h.row.push2 v1_len v1_one (by omega) (P := Tryd.prog) 27 Tryd.underlying27 info_u64s (by omega) rfl e.v hl hB
  have K : Keep (fun b => mv.ownBlock = some b) w w' := ⟨e4.os, e4.tape, e4.output, e4.size, fun j hj hs => e5 j hj (fun q => hs q.symm)⟩
  refine ⟨mv', w', e1, ⟨?_, fun i f hi => ?_, h.small, h.apart, fun f hf b fb => ?_⟩, e4, K, e6⟩
  · rw [List.take_add_one, he, List.map_append]
    exact e2
  · obtain ⟨zs, z1, z2, z3⟩ := h.each i f hi
    exact ⟨zs, z1, z2, z3.keep K (fun a ha h0 => h.away f (List.mem_of_getElem? hi) _ (Ke.blk_of ha (by omega)))⟩
  · intro hg
    rcases e6 b hg with q | q
    · exact h.away f hf b fb q
    · have := (h.blk hf fb).2
      omega

end Go.Proofs.YtmihjiiagpkciaaDoor
