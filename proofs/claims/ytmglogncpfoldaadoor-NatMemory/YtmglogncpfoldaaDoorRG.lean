/-
  Texts put together: NMemF, NMemG, NAlike, NMemH, NMemK.
-/
import Derived.Test.YtmglogncpfoldaaDoorRF
import Derived.Test.YtmglogncpfoldaaDoorRC
import Derived.Test.YtmglogncpfoldaaDoorRE
import Derived.Test.YtmglogncpfoldaaDoorAwake
namespace Go.Proofs.YtmglogncpfoldaaDoor
open Go Go.RowKit Go.Deep

theorem Keep.set (w : World) (g o : Nat) (v : Value) : Keep (fun b => b = g) w (w.setCell ⟨g, o, none⟩ v) :=
  ⟨rfl, rfl, rfl, by simp [World.setCell], fun _ _ hb => Below.heap_setCell _ _ _ _ (fun e => hb e)⟩
theorem Keep.on {S : Nat → Prop} {w w' : World} (h : Below w.heap.size w w') : Keep S w w' := Keep.of_below h (Nat.le_refl _)

/-- A list with these limbs, that may be written. -/
def Ls (H : Nat) (w : World) (p : Option Addr) (zs : List Int) : Prop := Lies w p zs ∧ ∀ a, p = some a → 0 < zs.length → H ≤ a.block ∧ ∀ o, w.frozen? ⟨a.block, o, none⟩ = false
theorem Lies.keep0 {S : Nat → Prop} {w w' : World} {p : Option Addr} {zs : List Int} (h : Lies w p zs) (k : Keep S w w') (hp : ∀ a, p = some a → 0 < zs.length → ¬ S a.block) : Lies w' p zs := by
  rcases h with rfl | ⟨b, off, rfl, h⟩
  · exact .inl rfl
  · rcases Nat.eq_zero_or_pos zs.length with z | z
    · exact .inl (List.eq_nil_of_length_eq_zero z)
    · exact .inr ⟨b, off, rfl, fun i hi => k.cell (h i hi) (hp ⟨b, off, none⟩ rfl z)⟩
theorem Ls.keep {S : Nat → Prop} {H : Nat} {w w' : World} {p : Option Addr} {zs : List Int} (h : Ls H w p zs) (k : Keep S w w') (hp : ∀ a, p = some a → 0 < zs.length → ¬ S a.block) : Ls H w' p zs :=
  ⟨h.1.keep0 k hp, fun a ha h0 => ⟨(h.2 a ha h0).1, fun o => by
    have lt := h.1.lt h0 a ha
    have e := k.block a.block lt (hp a ha h0)
    have f := (h.2 a ha h0).2 o
    simp only [World.frozen?] at f ⊢
    rw [e]
    exact f⟩⟩
theorem Ls.on {H : Nat} {w w' : World} {p : Option Addr} {zs : List Int} (h : Ls H w p zs) (hB : Below w.heap.size w w') : Ls H w' p zs := h.keep (S := fun _ => False) (Keep.on hB) (fun _ _ _ h => h)
theorem Ls.low {H H' : Nat} {w : World} {p : Option Addr} {zs : List Int} (h : Ls H w p zs) (hh : H' ≤ H) : Ls H' w p zs := ⟨h.1, fun a ha h0 => ⟨Nat.le_trans hh (h.2 a ha h0).1, (h.2 a ha h0).2⟩⟩
theorem Own.ls {H : Nat} {w : World} {g : Nat} {zs : List Int} (h : Own w g zs) (hh : H ≤ g) : Ls H w (some ⟨g, 0, none⟩) zs := ⟨h.lies, fun a ha _ => by cases ha; exact ⟨hh, fun o => h.free o⟩⟩

structure Ke where
  p : Option Addr
  n : Nat
def Ke.blk (e : Ke) : Option Nat := if e.n = 0 then none else e.p.map (·.block)
theorem Ke.blk_of {e : Ke} {a : Addr} (h : e.p = some a) (h0 : 0 < e.n) : e.blk = some a.block := by
  unfold Ke.blk
  rw [if_neg (by omega), h]
  rfl
theorem Ke.of_blk {e : Ke} {b : Nat} (h : e.blk = some b) : 0 < e.n ∧ ∃ a, e.p = some a ∧ a.block = b := by
  unfold Ke.blk at h
  split at h
  · cases h
  · exact ⟨by omega, Option.map_eq_some_iff.1 h⟩
structure Sl where
  p : Option Addr
  n : Nat
  c : Nat
def v1 (x : Sl) : List Value := [.slice x.p x.n x.c]
theorem v1_len (x : Sl) : (v1 x).length = 1 := rfl
theorem v1_one (x : Sl) : ∀ v ∈ v1 x, v.oneCell' = true := fun v hv => by
  simp only [v1, List.mem_singleton] at hv
  subst hv
  rfl
def i1 (x : Int) : List Value := [.int .i64 x]
theorem i1_len (x : Int) : (i1 x).length = 1 := rfl
theorem i1_one (x : Int) : ∀ v ∈ i1 x, v.oneCell' = true := fun v hv => by
  simp only [i1, List.mem_singleton] at hv
  subst hv
  rfl
def u1 (x : Int) : List Value := [.int .u64 x]
theorem u1_len (x : Int) : (u1 x).length = 1 := rfl
theorem u1_one (x : Int) : ∀ v ∈ u1 x, v.oneCell' = true := fun v hv => by
  simp only [u1, List.mem_singleton] at hv
  subst hv
  rfl
def Ke.v (e : Ke) : Sl := ⟨e.p, e.n, e.n⟩
def Apart (L : List Ke) : Prop := L.Pairwise (fun e f => ∀ b, e.blk = some b → f.blk ≠ some b)
theorem Apart.ne {L : List Ke} (h : Apart L) {i j : Nat} {e f : Ke} (hi : L[i]? = some e) (hj : L[j]? = some f) (hn : i ≠ j) {b : Nat} (he : e.blk = some b) : f.blk ≠ some b := by
  obtain ⟨a1, a2⟩ := List.getElem?_eq_some_iff.1 hi
  obtain ⟨b1, b2⟩ := List.getElem?_eq_some_iff.1 hj
  have hp := List.pairwise_iff_getElem.1 h
  rcases Nat.lt_or_gt_of_ne hn with q | q
  · have := hp i j a1 b1 q
    rw [a2, b2] at this
    exact this b he
  · intro hf
    have := hp j i b1 a1 q
    rw [a2, b2] at this
    exact this b hf he

/-- What the law keeps: the lists of L, of which the first k are in the list of lists. -/
structure KI (C : Nat → List Int → Prop) (B : Nat) (w : World) (mv : Value) (L : List Ke) (k : Nat) : Prop where
  row : Re.Ow v1 27 1 B w mv ((L.take k).map Ke.v)
  each : ∀ i e, L[i]? = some e → ∃ zs, zs.length = e.n ∧ C i zs ∧ Ls B w e.p zs
  small : ∀ e ∈ L, e.n ≤ 17592186044000
  apart : Apart L
  away : ∀ e ∈ L, ∀ b, e.blk = some b → mv.ownBlock ≠ some b
def T0 : Nat → List Int → Prop := fun _ _ => True
theorem ow_lt {α : Type} {enc : α → List Value} {t k B : Nat} {w : World} {mv : Value} {D : List α} (h : Re.Ow enc t k B w mv D) {g : Nat} (hg : mv.ownBlock = some g) : B ≤ g ∧ g < w.heap.size := by
  rcases h.shape with ⟨c, rfl, _⟩ | ⟨g', c, rfl, h1, h2, _⟩
  · cases hg
  · simp only [Value.ownBlock, Option.some.injEq] at hg
    subst hg
    exact ⟨h1, h2⟩
theorem KI.blk {C : Nat → List Int → Prop} {B : Nat} {w : World} {mv : Value} {L : List Ke} {k : Nat} (h : KI C B w mv L k) {e : Ke} (he : e ∈ L) {b : Nat} (hb : e.blk = some b) : B ≤ b ∧ b < w.heap.size := by
  obtain ⟨i, hi⟩ := List.getElem?_of_mem he
  obtain ⟨zs, z1, _, z3⟩ := h.each i e hi
  obtain ⟨n0, a, ha, rfl⟩ := Ke.of_blk hb
  exact ⟨(z3.2 a ha (by omega)).1, z3.1.lt (by omega) a ha⟩
theorem KI.keep {C : Nat → List Int → Prop} {B : Nat} {w w' : World} {mv : Value} {L : List Ke} {k : Nat} {S : Nat → Prop} (h : KI C B w mv L k) (q : Keep S w w') (h1 : ∀ g, mv.ownBlock = some g → ¬ S g) (h2 : ∀ e ∈ L, ∀ b, e.blk = some b → ¬ S b) : KI C B w' mv L k :=
  ⟨h.row.keep q h1, fun i e hi => by
    obtain ⟨zs, z1, z2, z3⟩ := h.each i e hi
    exact ⟨zs, z1, z2, z3.keep q (fun a ha h0 => h2 e (List.mem_of_getElem? hi) _ (Ke.blk_of ha (by omega)))⟩, h.small, h.apart, h.away⟩
theorem KI.on {C : Nat → List Int → Prop} {B : Nat} {w w' : World} {mv : Value} {L : List Ke} {k : Nat} (h : KI C B w mv L k) (hB : Below w.heap.size w w') : KI C B w' mv L k :=
  h.keep (S := fun _ => False) (Keep.on hB) (fun _ _ h => h) (fun _ _ _ _ h => h)
theorem KI.mono {C C' : Nat → List Int → Prop} {B : Nat} {w : World} {mv : Value} {L : List Ke} {k : Nat} (h : KI C B w mv L k) (q : ∀ i e, L[i]? = some e → ∀ zs, zs.length = e.n → C i zs → C' i zs) : KI C' B w mv L k :=
  ⟨h.row, fun i e hi => by
    obtain ⟨zs, z1, z2, z3⟩ := h.each i e hi
    exact ⟨zs, z1, q i e hi zs z1 z2, z3⟩, h.small, h.apart, h.away⟩
theorem KI.ext {B : Nat} {w0 w : World} {mv : Value} {L : List Ke} (h : KI T0 B w0 mv L L.length) (hB : Below w0.heap.size w0 w) (hb : B ≤ w0.heap.size) (N : List Ke) (hN : ∀ e ∈ N, (∃ zs, zs.length = e.n ∧ Ls w0.heap.size w e.p zs) ∧ e.n ≤ 17592186044000) (ap : Apart N) :
    KI T0 B w mv (L ++ N) L.length := by
  have h' := h.on hB
  have nb : ∀ e ∈ N, ∀ b, e.blk = some b → w0.heap.size ≤ b := fun e he b eb => by
    obtain ⟨⟨zs, z1, z2⟩, _⟩ := hN e he
    obtain ⟨n0, a, ha, rfl⟩ := Ke.of_blk eb
    exact (z2.2 a ha (by omega)).1
  refine ⟨by rw [List.take_left]; have := h'.row; rwa [List.take_length] at this, fun i e hi => ?_, fun e he => ?_, ?_, fun e he b eb => ?_⟩
  · rcases Nat.lt_or_ge i L.length with il | il
    · rw [List.getElem?_append_left il] at hi
      exact h'.each i e hi
    · rw [List.getElem?_append_right il] at hi
      obtain ⟨⟨zs, z1, z2⟩, _⟩ := hN e (List.mem_of_getElem? hi)
      exact ⟨zs, z1, trivial, z2.low hb⟩
  · rcases List.mem_append.1 he with q | q
    · exact h.small e q
    · exact (hN e q).2
  · refine List.pairwise_append.2 ⟨h.apart, ap, fun e he f hf b eb fb => ?_⟩
    have := (h.blk he eb).2
    have := nb f hf b fb
    omega
  · rcases List.mem_append.1 he with q | q
    · exact h.away e q b eb
    · intro hg
      have := (ow_lt h.row hg).2
      have := nb e q b eb
      omega

theorem info_u64s : (Tryd.prog.info? 27).map (fun i => (i.zero, i.size, i.bytes)) = some (some (.slice none 0 0), 1, 24) := by kernel_rfl
theorem info_int : (Tryd.prog.info? 3).map (fun i => (i.zero, i.size, i.bytes)) = some (some (.int .i64 0), 1, 8) := by kernel_rfl
theorem info_u64 : (Tryd.prog.info? 28).map (fun i => (i.zero, i.size, i.bytes)) = some (some (.int .u64 0), 1, 8) := by kernel_rfl

/-- One more list is put behind. -/
theorem KI.push {C : Nat → List Int → Prop} {B : Nat} {w : World} {mv : Value} {L : List Ke} {k : Nat} (h : KI C B w mv L k) {e : Ke} (he : L[k]? = some e) (hL : L.length ≤ 1000000000000) (hB : B ≤ w.heap.size) :
    ∃ mv' w', (Builtin.append_ #[25, 25] 25 #[mv, .slice (some ⟨w.heap.size, 0, none⟩) 1 1]).run Tryd.prog (w.alloc (.cells #[.slice e.p e.n e.n] 27)) = .ok mv' w' ∧ KI C B w' mv' L (k + 1) ∧ Below B w w' ∧ Keep (fun b => mv.ownBlock = some b) w w' ∧ (∀ b, mv'.ownBlock = some b → mv.ownBlock = some b ∨ w.heap.size ≤ b) := by
  have hk := (List.getElem?_eq_some_iff.1 he).1
  have hl : ((L.take k).map Ke.v).length ≤ 1000000000000 := by simp; omega
  obtain ⟨mv', w', e1, e2, e3, e4, e5, e6⟩ := h.row.push2 v1_len v1_one (by omega) (P := Tryd.prog) 25 Tryd.underlying25 info_u64s (by omega) rfl e.v hl hB
  have K : Keep (fun b => mv.ownBlock = some b) w w' := ⟨e4.os, e4.tape, e4.output, e4.size, fun j hj hs => e5 j hj (fun q => hs q.symm)⟩
  refine ⟨mv', w', e1, ⟨?_, fun i f hi => ?_, h.small, h.apart, fun f hf b fb => ?_⟩, e4, K, e6⟩
  · rw [List.take_add_one, he, List.map_append]
    exact e2
  · obtain ⟨zs, z1, z2, z3⟩ := h.each i f hi
    exact ⟨zs, z1, z2, z3.keep K (fun a ha h0 => h.away f (List.mem_of_getElem? hi) _ (Ke.blk_of ha (by omega)))⟩
  · intro hg
    rcases e6 b hg with q | q
    · exact h.away f hf b fb q
    · have := (h.blk hf fb).2
      omega

/-- What stands while the marks are written. -/
structure K2 (C : Nat → List Int → Prop) (B : Nat) (w : World) (mv sv : Value) (L : List Ke) (i : Nat) : Prop where
  ki : KI C B w mv L L.length
  sz : Re.Ow i1 3 1 B w sv ((L.take i).map (fun e => (e.n : Int)))
  aw : ∀ e ∈ L, ∀ b, e.blk = some b → sv.ownBlock ≠ some b
  ne : ∀ b, sv.ownBlock = some b → mv.ownBlock ≠ some b
theorem K2.push {C : Nat → List Int → Prop} {B : Nat} {w : World} {mv sv : Value} {L : List Ke} {i : Nat} (h : K2 C B w mv sv L i) {e : Ke} (he : L[i]? = some e) (hL : L.length ≤ 1000000000000) (hB : B ≤ w.heap.size) :
    ∃ sv' w', (Builtin.append_ #[26, 26] 26 #[sv, .slice (some ⟨w.heap.size, 0, none⟩) 1 1]).run Tryd.prog (w.alloc (.cells #[.int .i64 (e.n : Int)] 3)) = .ok sv' w' ∧ K2 C B w' mv sv' L (i + 1) ∧ Below B w w' := by
  have hk := (List.getElem?_eq_some_iff.1 he).1
  have hl : ((L.take i).map (fun e => (e.n : Int))).length ≤ 1000000000000 := by simp; omega
  obtain ⟨sv', w', e1, e2, e3, e4, e5, e6⟩ := h.sz.push2 i1_len i1_one (by omega) (P := Tryd.prog) 26 Tryd.underlying26 info_int (by omega) rfl (e.n : Int) hl hB
  have K : Keep (fun b => sv.ownBlock = some b) w w' := ⟨e4.os, e4.tape, e4.output, e4.size, fun j hj hs => e5 j hj (fun q => hs q.symm)⟩
  refine ⟨sv', w', e1, ⟨h.ki.keep K (fun g hg hs => h.ne g hs hg) (fun f hf b fb => h.aw f hf b fb), ?_, fun f hf b fb hg => ?_, fun b hg hm => ?_⟩, e4⟩
  · rw [List.take_add_one, he, List.map_append]
    exact e2
  · rcases e6 b hg with q | q
    · exact h.aw f hf b fb q
    · have := (h.ki.blk hf fb).2
      omega
  · rcases e6 b hg with q | q
    · exact h.ne b q hm
    · have := (ow_lt h.ki.row hm).2
      omega
theorem K2.put {C : Nat → List Int → Prop} {B : Nat} {w : World} {mv sv : Value} {L : List Ke} {i : Nat} (h : K2 C B w mv sv L i) {j : Nat} {e : Ke} (hj : L[j]? = some e) {k : Nat} (hk : k < e.n) (x : Int) (C' : Nat → List Int → Prop)
    (hC : ∀ t zs, t ≠ j → C t zs → C' t zs) (hC2 : ∀ zs, zs.length = e.n → C j zs → C' j (zs.set k x)) :
    ∃ b off y, e.p = some ⟨b, off, none⟩ ∧ w.cell? ⟨b, off + k, none⟩ = some (.int .u64 y) ∧ w.frozen? ⟨b, off + k, none⟩ = false ∧ B ≤ b ∧ K2 C' B (w.setCell ⟨b, off + k, none⟩ (.int .u64 x)) mv sv L i := by
  obtain ⟨zs, z1, z2, z3⟩ := h.ki.each j e hj
  have hm := List.mem_of_getElem? hj
  rcases z3.1 with z | ⟨b, off, hp, hc⟩
  · rw [z] at z1; simp at z1; omega
  · have eb := Ke.blk_of hp (show 0 < e.n by omega)
    have fr := z3.2 _ hp (by omega)
    have K := Keep.set w b (off + k) (.int .u64 x)
    refine ⟨b, off, _, hp, hc k (by omega), fr.2 _, fr.1, ⟨⟨h.ki.row.keep K (fun g hg e => ?_), fun t f ht => ?_, h.ki.small, h.ki.apart, h.ki.away⟩, h.sz.keep K (fun g hg e => ?_), h.aw, h.ne⟩⟩
    · subst e; exact h.ki.away _ hm _ eb hg
    · by_cases q : t = j
      · subst q
        rw [hj] at ht
        cases ht
        refine ⟨zs.set k x, by rw [List.length_set]; exact z1, hC2 zs z1 z2, .inr ⟨b, off, hp, fun u hu => ?_⟩, fun a ha h0 => ?_⟩
        · rw [List.length_set] at hu
          by_cases qu : u = k
          · subst qu
            have := hc u hu
            rw [List.getD, List.getElem?_set_self (by omega)]
            simp only [World.cell?, World.setCell] at this ⊢
            rw [Array.getElem?_modify, if_pos rfl]
            cases hh : w.heap[b]? with
            | none => rw [hh] at this; simp at this
            | some o =>
              rw [hh] at this
              cases o with
              | cells c t f =>
                have q : c[off + u]? = some (.int .u64 (zs.getD u 0)) := this
                show (c.setIfInBounds (off + u) (.int .u64 x))[off + u]? = some (.int .u64 x)
                rw [Array.getElem?_setIfInBounds, if_pos rfl, if_pos (Array.getElem?_eq_some_iff.1 q).1]
              | _ => simp at this
          · have := hc u hu
            rw [List.getD, List.getElem?_set_ne (fun e => qu e.symm)]
            rw [List.getD] at this
            rw [← this]
            simp only [World.cell?, World.setCell]
            rw [Array.getElem?_modify, if_pos rfl]
            cases hh : w.heap[b]? with
            | none => rfl
            | some o =>
              have qk : ¬ k = u := fun e => qu e.symm
              cases o with
              | cells c t f => simp [qk]
              | _ => rfl
        · rw [List.length_set] at h0
          have := z3.2 a ha h0
          exact ⟨this.1, fun o => by rw [World.frozen?_setCell]; exact this.2 o⟩
      · obtain ⟨ys, y1, y2, y3⟩ := h.ki.each t f ht
        refine ⟨ys, y1, hC t ys q y2, y3.keep K (fun a ha h0 e => ?_)⟩
        have := Apart.ne h.ki.apart ht hj q (Ke.blk_of ha (by omega))
        exact this (by rw [eb, e])
    · subst e; exact h.aw _ hm _ eb hg
end Go.Proofs.YtmglogncpfoldaaDoor

namespace Go.Proofs.YtmglogncpfoldaaDoor
open Go Go.RowKit Go.Deep

set_option maxHeartbeats 1000000 in
theorem turned_k (g n c len : Nat) (xs : List Int) (w : World) (ho : Own w g xs) (hl : n ≤ len) (hx : len ≤ xs.length) (hb : xs.length ≤ 35184372088832) :
    Calls Tryd.prog 12 #[.slice (some ⟨g, 0, none⟩) len c, .int .i64 (n : Int)] w fun e w' => e = .returned (.tuple #[]) ∧ Own w' g (tw xs n) ∧ Keep (fun b => b = g) w w' := by
  have I0 := hid ho
  clear ho
  go_enter Tryd.func12, Tryd.ntmps12
  go_wp2_with fail
  go_loopw [4] (fun i wr => ∃ k : Nat, k ≤ n ∧ i = .int .i64 (k : Int) ∧ Hid (Own wr g (tw xs k)) ∧ Hid (Keep (fun b => b = g) w wr)) (fun i _ => n - (intOf i).toNat)
  case atStart => exact ⟨0, by omega, rfl, I0.out, Keep.refl _ _⟩
  case round =>
    clear I0
    obtain ⟨k, hk, rfl, O, BB⟩ := hrel
    by_cases he : k = n
    · subst he
      go_wp2
      go_end0
      exact ⟨rfl, O.out, BB.out⟩
    · have hkn : (k : Int) < (n : Int) := by omega
      have hkl : (k : Int) < (len : Int) := by omega
      obtain ⟨x, hx9⟩ : ∃ x, xs.getD k 0 = x := ⟨_, rfl⟩
      have hc : wr.cell? ⟨g, k, none⟩ = some (.int .u64 x) := by
        rw [← hx9, ← tw_later xs k k (Nat.le_refl _)]
        exact O.out.cell k (by rw [tw_length]; omega)
      have hf := O.out.free k
      obtain ⟨y, hy⟩ : ∃ y, bits .xor .u64 x 21845 = y := ⟨_, rfl⟩
      have O2 : Hid (Own (wr.setCell ⟨g, k, none⟩ (.int .u64 y)) g (tw xs (k + 1))) := by
        have := O.out.set k y
        rw [tw, hx9, xr, hy]
        exact this
      have B2 := hid (BB.out.trans (Keep.set wr g k (.int .u64 y)))
      clear O BB hx9
      go_wp2
      go_roundw
      case rel => exact ⟨k + 1, by omega, by go_num, O2.out, B2.out⟩
      case measure => simp [intOf]; omega

/-- The mark of a list. -/
def mk1 (j : Nat) : Int := 7881706626762146792 + (j : Int)
/-- What stands while the lists are grown. -/
structure K3 (B : Nat) (w : World) (mv sv : Value) (L : List Ke) (vs : List Sl) (i : Nat) : Prop where
  row : Re.Ow v1 27 1 B w mv vs
  len : vs.length = L.length
  old : ∀ j e, i ≤ j → L[j]? = some e → vs[j]? = some e.v ∧ Lies w e.p (List.replicate e.n (mk1 j)) ∧ ∀ b, e.blk = some b → mv.ownBlock ≠ some b
  new : ∀ j e, j < i → L[j]? = some e → ∃ g cap, vs[j]? = some ⟨some ⟨g, 0, none⟩, e.n + 20, cap⟩ ∧ Lies w (some ⟨g, 0, none⟩) (List.replicate (e.n + 20) (mk1 j)) ∧ mv.ownBlock ≠ some g
  sz : Re.Ow i1 3 1 B w sv (L.map (fun e => (e.n : Int)))
  ne : ∀ b, sv.ownBlock = some b → mv.ownBlock ≠ some b
theorem K3.on {B : Nat} {w w' : World} {mv sv : Value} {L : List Ke} {vs : List Sl} {i : Nat} (h : K3 B w mv sv L vs i) (hB : Below w.heap.size w w') : K3 B w' mv sv L vs i :=
  ⟨h.row.below hB, h.len, fun j e hj he => by
    obtain ⟨a, b, c⟩ := h.old j e hj he
    exact ⟨a, b.below hB (Nat.le_refl _), c⟩, fun j e hj he => by
    obtain ⟨g, cap, a, b, c⟩ := h.new j e hj he
    exact ⟨g, cap, a, b.below hB (Nat.le_refl _), c⟩, h.sz.below hB, h.ne⟩
theorem K3.put {B : Nat} {w : World} {mv sv : Value} {L : List Ke} {vs : List Sl} {i : Nat} (h : K3 B w mv sv L vs i) {e : Ke} (he : L[i]? = some e) {g cap : Nat} (hl : Lies w (some ⟨g, 0, none⟩) (List.replicate (e.n + 20) (mk1 i))) (hg : mv.ownBlock ≠ some g) :
    ∃ gk ck, mv = .slice (some ⟨gk, 0, none⟩) L.length ck ∧ B ≤ gk ∧ (∃ u, w.cell? ⟨gk, i, none⟩ = some u ∧ u.oneCell' = true) ∧ w.frozen? ⟨gk, i, none⟩ = false ∧ K3 B (w.setCell ⟨gk, i, none⟩ (.slice (some ⟨g, 0, none⟩) (e.n + 20) cap)) mv sv L (vs.set i ⟨some ⟨g, 0, none⟩, e.n + 20, cap⟩) (i + 1) := by
  have il := (List.getElem?_eq_some_iff.1 he).1
  have hlen := h.len
  rcases h.row.shape with ⟨c, rfl, hD⟩ | ⟨gk, ck, hmv, hb, hs, hc, hm⟩
  · rw [hD] at hlen; simp at hlen; omega
  · rw [hlen] at hmv
    have K := Keep.set w gk i (.slice (some ⟨g, 0, none⟩) (e.n + 20) cap)
    have row := h.row
    rw [Re.Ow, hmv, hlen] at row
    have st := (World.ownsRow.stored row i (.slice (some ⟨g, 0, none⟩) (e.n + 20) cap)).1
    have ob : mv.ownBlock = some gk := by rw [hmv]; rfl
    have fs : (Re.fl v1 vs).set i (.slice (some ⟨g, 0, none⟩) (e.n + 20) cap) = Re.fl v1 (vs.set i ⟨some ⟨g, 0, none⟩, e.n + 20, cap⟩) := by
      have : ∀ l : List Sl, Re.fl v1 l = l.map (fun x => Value.slice x.p x.n x.c) := fun l => by
        induction l with
        | nil => rfl
        | cons x l ih => rw [Re.fl, List.flatMap_cons, ← Re.fl, ih]; rfl
      rw [this, this, List.map_set]
    have cl := World.ownsRow.cellAt row i (by omega)
    obtain ⟨x, hx⟩ : ∃ x, vs[i]? = some x := ⟨_, List.getElem?_eq_getElem (by omega)⟩
    have fa := Re.fl_at v1_len hx 0 (by omega)
    rw [Nat.mul_one, Nat.add_zero] at fa
    refine ⟨gk, ck, hmv, hb, ⟨.slice x.p x.n x.c, by rw [cl, fa]; rfl, rfl⟩, World.ownsRow.frozenAt row i, ⟨?_, by rw [List.length_set]; exact hlen, fun j f hj hf => ?_, fun j f hj hf => ?_, h.sz.keep K (fun b hb e => ?_), h.ne⟩⟩
    · rw [Re.Ow, List.length_set, hlen, hmv, ← fs]
      exact st
    · obtain ⟨a, b, c⟩ := h.old j f (by omega) hf
      refine ⟨by rw [List.getElem?_set_ne (by omega)]; exact a, b.keep0 K (fun ad ha h0 q => ?_), c⟩
      rw [List.length_replicate] at h0
      exact c _ (Ke.blk_of ha h0) (by rw [ob, q])
    · by_cases q : j = i
      · subst q
        rw [he] at hf
        cases hf
        exact ⟨g, cap, by rw [List.getElem?_set_self (by omega)], hl.keep0 K (fun ad ha _ q => by cases ha; exact hg (by rw [ob]; exact congrArg some q.symm)), hg⟩
      · obtain ⟨g', cap', a, b, c⟩ := h.new j f (by omega) hf
        exact ⟨g', cap', by rw [List.getElem?_set_ne (fun e => q e.symm)]; exact a, b.keep0 K (fun ad ha _ q => by cases ha; exact c (by rw [ob]; exact congrArg some q.symm)), c⟩
    · exact h.ne b hb (by rw [ob, e])

theorem zero_u (n : Nat) : Builtin.zeroCells #[Value.int .u64 0] n = (List.replicate n (Value.int .u64 0)).toArray := by
  apply Array.ext'
  simp only [Builtin.zeroCells, Array.toList_map, Array.toList_range, List.size_toArray, List.length_cons, List.length_nil, Nat.zero_add, Nat.mul_one, Nat.mod_one]
  exact List.eq_replicate_iff.2 ⟨by simp, fun v hv => by
    obtain ⟨i, _, rfl⟩ := List.mem_map.1 hv
    rfl⟩
theorem fl_u1 (l : List Int) : Re.fl u1 l = l.map (Value.int .u64) := by
  induction l with
  | nil => rfl
  | cons x l ih => rw [Re.fl, List.flatMap_cons, ← Re.fl, ih]; rfl
/-- The first append to a list that has no room. -/
theorem first_app (p : Option Addr) (n : Nat) (zs : List Int) (x : Int) (w : World) (hz : zs.length = n) (hn : n ≤ 17592186044000) (hl : Lies w p zs) :
    ∃ cap w', (Builtin.append_ #[27, 27] 27 #[.slice p n n, .slice (some ⟨w.heap.size, 0, none⟩) 1 1]).run Tryd.prog (w.alloc (.cells #[.int .u64 x] 28)) = .ok (.slice (some ⟨w.heap.size + 1, 0, none⟩) (n + 1) cap) w' ∧ Re.Ow u1 28 1 w.heap.size w' (.slice (some ⟨w.heap.size + 1, 0, none⟩) (n + 1) cap) (zs ++ [x]) ∧ Below w.heap.size w w' := by
  obtain ⟨i, hi, hzz⟩ := Option.map_eq_some_iff.1 info_u64
  simp only [Prod.mk.injEq] at hzz
  obtain ⟨z1, z2, z3⟩ := hzz
  have bm : Below w.heap.size w (w.alloc (.cells #[.int .u64 x] 28)) := alloc_b2 _ _
  have hs : (w.alloc (.cells #[.int .u64 x] 28)).heap.size = w.heap.size + 1 := World.size_alloc _ _
  have hnew : ∀ j v, [Value.int .u64 x][j]? = some v → (w.alloc (.cells #[.int .u64 x] 28)).cell? ((⟨w.heap.size, 0, none⟩ : Addr).add j) = some v := by
    intro j u hu
    rw [Go.WideShapes.add_plain, Nat.zero_add]
    have h0 : (w.alloc (.cells #[.int .u64 x] 28)).heap[w.heap.size]? = some (.cells #[.int .u64 x] 28 (0, 0)) := heap_alloc_new w _
    simp only [World.cell?, h0]
    simpa using hu
  have fin : ∀ (cap : Nat) (W : World), n + 1 ≤ cap → cap ≤ maxLen → W.heap.size = w.heap.size + 1 → Re.Ow u1 28 1 w.heap.size (W.alloc (.cells ((zs.map (Value.int .u64)).toArray ++ [Value.int .u64 x].toArray ++ Builtin.zeroCells (Value.cells (Value.int .u64 0)) (cap - (n + 1))) 28)) (.slice (some ⟨w.heap.size + 1, 0, none⟩) (n + 1) cap) (zs ++ [x]) := by
    intro cap W h1 h2 hW
    have e : (zs.map (Value.int .u64)).toArray ++ [Value.int .u64 x].toArray ++ Builtin.zeroCells (Value.cells (Value.int .u64 0)) (cap - (n + 1)) = ((zs ++ [x]).map (Value.int .u64) ++ List.replicate (cap - (n + 1)) (Value.int .u64 0)).toArray := by
      rw [show Value.cells (Value.int .u64 0) = #[Value.int .u64 0] from rfl, zero_u]
      simp
    have l1 : ((zs ++ [x]).map (Value.int .u64)).length = n + 1 := by simp [hz]
    rw [e]
    have l2 : (zs ++ [x]).length = n + 1 := by simp [hz]
    refine ⟨by rw [fl_u1, l1, l2]; omega, .inr ⟨w.heap.size + 1, cap, ((zs ++ [x]).map (Value.int .u64) ++ List.replicate (cap - (n + 1)) (Value.int .u64 0)).toArray, by rw [l2], by omega, ?_, by rw [l2]; exact h1, h2, ?_, ?_⟩⟩
    · rw [← hW]; exact heap_alloc_new _ _
    · rw [List.size_toArray, List.length_append, l1, List.length_replicate]; omega
    · rw [fl_u1]
      show ((zs ++ [x]).map (Value.int .u64) ++ List.replicate (cap - (n + 1)) (Value.int .u64 0)).take ((zs ++ [x]).length * 1) = _
      rw [List.take_append_of_le_length (by simp), List.take_of_length_le (by simp)]
  rcases p with _ | a
  · have z0 : zs = [] := by
      rcases hl with c | ⟨b, off, hp, _⟩
      · exact c
      · cases hp
    subst z0
    obtain rfl : n = 0 := by simpa using hz.symm
    have hr := run_append_nil (P := Tryd.prog) (w.alloc (.cells #[.int .u64 x] 28)) 27 27 28 i (.int .u64 0) Tryd.underlying27 hi z1 ⟨w.heap.size, 0, none⟩ 1 1 [.int .u64 x] (by rw [z2]; rfl) hnew (by omega) (by omega) (by rw [z3]; omega)
    have hge := grownCap_ge (w.alloc (.cells #[.int .u64 x] 28)) 1 0 28
    have hle := grownCap_le_maxLen (w.alloc (.cells #[.int .u64 x] 28)) 1 0 28 (by simp only [maxLen]; omega)
    obtain ⟨cap, hcap⟩ : ∃ c, grownCap (w.alloc (.cells #[.int .u64 x] 28)) 1 0 28 = c := ⟨_, rfl⟩
    rw [hcap] at hr hge hle
    rw [hs] at hr
    refine ⟨cap, _, hr, ?_, bm.drew.alloc (by show w.heap.size ≤ (w.alloc (.cells #[.int .u64 x] 28)).heap.size; rw [hs]; omega) _⟩
    exact fin cap _ (by omega) hle hs
  · have hold : ∀ j v, (zs.map (Value.int .u64))[j]? = some v → (w.alloc (.cells #[.int .u64 x] 28)).cell? (a.add j) = some v := by
      intro j v hv
      rcases hl with c | ⟨b, off, hp, hc⟩
      · rw [c] at hv; simp at hv
      · cases hp
        have jl : j < zs.length := by have := (List.getElem?_eq_some_iff.1 hv).1; simpa using this
        have := hc j jl
        rw [Go.WideShapes.add_plain, bm.cell (p := ⟨b, off + j, none⟩) (cell_lt this), this]
        rw [List.getElem?_map, List.getElem?_eq_getElem jl] at hv
        rw [List.getD, List.getElem?_eq_getElem jl]
        exact hv
    have hr := run_append_grow (P := Tryd.prog) (w.alloc (.cells #[.int .u64 x] 28)) 27 27 28 i (.int .u64 0) Tryd.underlying27 hi z1 a n n (zs.map (Value.int .u64)) (by rw [z2, List.length_map]; omega) hold ⟨w.heap.size, 0, none⟩ 1 1 [.int .u64 x] (by rw [z2]; rfl) hnew (by omega) (by omega) (growslice_fits (by omega) (by rw [z3]; omega))
    have hge := grownCap_ge (w.alloc (.cells #[.int .u64 x] 28)) (n + 1) n 28
    have hle := grownCap_le_maxLen (w.alloc (.cells #[.int .u64 x] 28)) (n + 1) n 28 (by simp only [maxLen]; omega)
    obtain ⟨cap, hcap⟩ : ∃ c, grownCap (w.alloc (.cells #[.int .u64 x] 28)) (n + 1) n 28 = c := ⟨_, rfl⟩
    rw [hcap] at hr hge hle
    rw [hs] at hr
    refine ⟨cap, _, hr, ?_, bm.drew.alloc (by show w.heap.size ≤ (w.alloc (.cells #[.int .u64 x] 28)).heap.size; rw [hs]; omega) _⟩
    exact fin cap _ (by omega) hle hs
end Go.Proofs.YtmglogncpfoldaaDoor

/-
  NatExact: alike.
-/
namespace Go.Proofs.YtmglogncpfoldaaDoor
open Go Go.RowKit Go.Deep

set_option maxRecDepth 100000 in
set_option maxHeartbeats 8000000 in
theorem alike_same1 (u i : Int) (b : Bool) (e : Int) (p q : Option Addr) (n k cap cap' : Nat) (zs : List Int) (w : World) (A : Arg w p n cap zs) (B : Arg w q k cap' zs) :
    Calls Tryd.prog 10 #[ansOf1 (.slice p n cap) u i b e, ansOf1 (.slice q k cap') u i b e] w fun r w' => r = .returned (.bool true) ∧ Below w.heap.size w w' := by
  simp only [ansOf1]
  have SA : Hid (∀ wx, Below w.heap.size w wx → Calls Tryd.prog 11 #[.slice p n cap, .slice q k cap'] wx fun e w' => e = .returned (.bool true) ∧ Below w.heap.size w w') := by
    intro wx hB
    refine (refSame_any p q n cap k cap' zs zs wx (A.below hB (Nat.le_refl _)) (B.below hB (Nat.le_refl _))).mono ?_
    rintro r w' ⟨rfl, h⟩
    exact ⟨by simp, hB.trans (h.mono hB.size)⟩
  clear A B
  go_enter Tryd.func10, Tryd.ntmps10
  go_wp2_with fail
  refine (SA.out _ (alloc2_belowN w _ _)).mono ?_
  rintro r w' ⟨rfl, hB⟩
  have HB := hid hB
  clear hB SA
  go_wp2_with fail
  go_ret
  exact ⟨rfl, HB.out⟩
end Go.Proofs.YtmglogncpfoldaaDoor

namespace Go.Proofs.YtmglogncpfoldaaDoor
open Go Go.RowKit Go.Deep

def An (zs : List Int) (ll : Nat) (u i : Int) (b : Bool) (e : Int) (W : World) (r : Ending) (w' : World) : Prop :=
  ∃ pl, r = .returned (.agg #[.slice pl ll ll, .int .u64 u, .int .i64 i, .bool b, .int .i64 e]) ∧ Hid (Ls W.heap.size w' pl zs) ∧ Below W.heap.size W w'
/-- Both sides of a call tell one answer. -/
def B3 (kd : Int) (n k : Nat) (M C N : Int) (zA zB : List Int) : Prop :=
  ∃ zs ll u i b e, zs.length = ll ∧ ll ≤ 17592186044000 ∧ Nm.Limbs zs ∧
    (∀ W p q cap cap', Arg W p n cap zA → Arg W q k cap' zB → Calls Tryd.prog 8 #[.agg #[.int .i64 kd, .slice p n cap, .slice q k cap', .int .u64 M, .int .u64 C, .int .i64 N]] W fun r w' => An zs ll u i b e W r w') ∧
    (∀ W p q cap cap', Tab W → Arg W p n cap zA → Arg W q k cap' zB → Calls Tryd.prog 9 #[.agg #[.int .i64 kd, .slice p n cap, .slice q k cap', .int .u64 M, .int .u64 C, .int .i64 N]] W fun r w' => An zs ll u i b e W r w')
theorem told_an {a : AV1} {W w' : World} {r : Ending} {zs : List Int} (h : NTold a W r w') (q1 : Nm.Limbs zs) (q2 : Nm.tsize zs = zs.length) (q3 : Nm.val zs = a.v) : An zs zs.length a.u a.i a.b a.e W r w' := by
  obtain ⟨pl, os, rfl, ⟨hA, _⟩, hB⟩ := h
  obtain rfl : os = zs := Nm.canon hA.2.1 q1 hA.2.2.1 q2 (hA.2.2.2.1.trans q3.symm)
  exact ⟨pl, rfl, ⟨hA.1, fun a' ha h0 => ⟨(hA.2.2.2.2 a' ha).1, (hA.2.2.2.2 a' ha).2 h0⟩⟩, hB⟩
theorem b3_any (kd : Int) (n k : Nat) (M C N : Int) (zA zB : List Int) (m0 : 0 ≤ M) (m1 : M < 18446744073709551616) (c0 : 0 ≤ C) (c1 : C < 18446744073709551616) (n1 : N ≤ 9223372036854775807)
    (hzA : zA.length = n) (hn : n ≤ 17592186044000) (lA : Nm.Limbs zA) (lB : Nm.Limbs zB) : B3 kd n k M C N zA zB := by
  obtain ⟨a, hW, hA⟩ := nboth2_any kd n k M C N zA zB m0 m1 c0 c1 n1 hzA hn lA lB
  simp only [opOf1] at hW hA
  by_cases h : ∃ zs, Nm.Limbs zs ∧ Nm.tsize zs = List.length zs ∧ Nm.val zs = a.v ∧ List.length zs ≤ 17592186044000
  · obtain ⟨zs, q1, q2, q3, q4⟩ := h
    exact ⟨zs, zs.length, a.u, a.i, a.b, a.e, rfl, q4, q1, fun W p q cap cap' x y => (hW W p q cap cap' x y).mono (fun r w' h => told_an h q1 q2 q3), fun W p q cap cap' t x y => (hA W p q cap cap' t x y).mono (fun r w' h => told_an h q1 q2 q3)⟩
  · have no : ∀ W r w', NTold a W r w' → An [] 0 a.u a.i a.b a.e W r w' := fun W r w' t => by
      obtain ⟨pl, os, rfl, ⟨hA, hl⟩, hB⟩ := t
      exact absurd ⟨os, hA.2.1, hA.2.2.1, hA.2.2.2.1, hl⟩ h
    exact ⟨[], 0, a.u, a.i, a.b, a.e, rfl, by omega, Nm.Limbs.nil, fun W p q cap cap' x y => (hW W p q cap cap' x y).mono (fun r w' h => no _ _ _ h), fun W p q cap cap' t x y => (hA W p q cap cap' t x y).mono (fun r w' h => no _ _ _ h)⟩

theorem at_keep {w w' : World} {g g' : Nat} {o : Obj} (h : w.heap[g]? = some o) (K : Keep (fun b => b = g') w w') (ne : g ≠ g') : w'.heap[g]? = some o := by
  have lt : g < w.heap.size := by
    rcases Nat.lt_or_ge g w.heap.size with c | c
    · exact c
    · simp [Array.getElem?_eq_none c] at h
  rw [K.block g lt ne]
  exact h
theorem Own.on {w w' : World} {g : Nat} {zs : List Int} (h : Own w g zs) (hB : Below w.heap.size w w') : Own w' g zs := h.below hB h.lt

/-- The lists of a round. -/
structure RA (w : World) (g6 fa fb wa wb : Nat) (O : Array Value) (XA XB XC XD : List Int) : Prop where
  o : Bx w g6 30 O
  a : Own w fa XA
  b : Own w fb XB
  c : Own w wa XC
  d : Own w wb XD
theorem RA.on {w w' : World} {g6 fa fb wa wb : Nat} {O : Array Value} {XA XB XC XD : List Int} (h : RA w g6 fa fb wa wb O XA XB XC XD) (hB : Below w.heap.size w w') : RA w' g6 fa fb wa wb O XA XB XC XD :=
  ⟨h.o.on hB, h.a.on hB, h.b.on hB, h.c.on hB, h.d.on hB⟩
theorem RA.far {w w' : World} {g6 fa fb wa wb g : Nat} {O : Array Value} {XA XB XC XD : List Int} (h : RA w g6 fa fb wa wb O XA XB XC XD) (K : Keep (fun b => b = g) w w') (n1 : g6 ≠ g) (n2 : fa ≠ g) (n3 : fb ≠ g) (n4 : wa ≠ g) (n5 : wb ≠ g) : RA w' g6 fa fb wa wb O XA XB XC XD :=
  ⟨at_keep h.o K n1, at_keep h.a K n2, at_keep h.b K n3, at_keep h.c K n4, at_keep h.d K n5⟩
theorem RA.put {w : World} {g6 fa fb wa wb : Nat} {O : Array Value} {XA XB XC XD : List Int} (h : RA w g6 fa fb wa wb O XA XB XC XD) (o : Nat) (v : Value) (n2 : fa ≠ g6) (n3 : fb ≠ g6) (n4 : wa ≠ g6) (n5 : wb ≠ g6) : RA (w.setCell ⟨g6, o, none⟩ v) g6 fa fb wa wb (O.setIfInBounds o v) XA XB XC XD :=
  have K := Keep.set w g6 o v
  ⟨h.o.set v, at_keep h.a K n2, at_keep h.b K n3, at_keep h.c K n4, at_keep h.d K n5⟩
/-- A list of an answer, between two blocks. -/
def Lr (lo hi : Nat) (w : World) (p : Option Addr) (zs : List Int) : Prop := Lies w p zs ∧ ∀ a, p = some a → 0 < zs.length → lo < a.block ∧ a.block < hi ∧ ∀ o, w.frozen? ⟨a.block, o, none⟩ = false
theorem Ls.lr {H lo : Nat} {w : World} {p : Option Addr} {zs : List Int} (h : Ls H w p zs) (hlo : lo < H) : Lr lo w.heap.size w p zs := ⟨h.1, fun a ha h0 => ⟨Nat.lt_of_lt_of_le hlo (h.2 a ha h0).1, h.1.lt h0 a ha, (h.2 a ha h0).2⟩⟩
theorem Lr.ls {H lo hi : Nat} {w : World} {p : Option Addr} {zs : List Int} (h : Lr lo hi w p zs) (hlo : H ≤ lo) : Ls H w p zs := ⟨h.1, fun a ha h0 => ⟨by have := (h.2 a ha h0).1; omega, (h.2 a ha h0).2.2⟩⟩
theorem Lr.keep {lo hi : Nat} {S : Nat → Prop} {w w' : World} {p : Option Addr} {zs : List Int} (h : Lr lo hi w p zs) (k : Keep S w w') (hp : ∀ b, lo < b → b < hi → ¬ S b) : Lr lo hi w' p zs := by
  have q : Ls 0 w p zs := ⟨h.1, fun a ha h0 => ⟨Nat.zero_le _, (h.2 a ha h0).2.2⟩⟩
  have r := q.keep k (fun a ha h0 => hp _ (h.2 a ha h0).1 (h.2 a ha h0).2.1)
  exact ⟨r.1, fun a ha h0 => ⟨(h.2 a ha h0).1, (h.2 a ha h0).2.1, (r.2 a ha h0).2⟩⟩
theorem Lr.on {lo hi : Nat} {w w' : World} {p : Option Addr} {zs : List Int} (h : Lr lo hi w p zs) (hB : Below w.heap.size w w') : Lr lo hi w' p zs := h.keep (S := fun _ => False) (Keep.on hB) (fun _ _ _ h => h)
theorem Lr.arg {lo hi ll : Nat} {w : World} {p : Option Addr} {zs : List Int} (h : Lr lo hi w p zs) (h1 : zs.length = ll) (h2 : ll ≤ 17592186044000) (h3 : Nm.Limbs zs) : Arg w p ll ll zs := ⟨h1, Nat.le_refl _, h2, h.1, h3⟩
/-- What stands from the second answer on. -/
structure QS (w : World) (g6 fa fb wa wb g13 g14 g15 : Nat) (O A13 A14 A15 : Array Value) (XA XB XC XD zs : List Int) (pw px py : Option Addr) : Prop where
  ra : RA w g6 fa fb wa wb O XA XB XC XD
  b13 : Bx w g13 34 A13
  b14 : Bx w g14 34 A14
  b15 : Bx w g15 34 A15
  lw : Lr wb g13 w pw zs
  lx : Lr g13 g14 w px zs
  ly : Lr g14 g15 w py zs
section
variable {w w' : World} {g6 fa fb wa wb g13 g14 g15 : Nat} {O A13 A14 A15 : Array Value} {XA XB XC XD XA' zs : List Int} {pw px py : Option Addr}
theorem QS.on (h : QS w g6 fa fb wa wb g13 g14 g15 O A13 A14 A15 XA XB XC XD zs pw px py) (hB : Below w.heap.size w w') : QS w' g6 fa fb wa wb g13 g14 g15 O A13 A14 A15 XA XB XC XD zs pw px py :=
  ⟨h.ra.on hB, h.b13.on hB, h.b14.on hB, h.b15.on hB, h.lw.on hB, h.lx.on hB, h.ly.on hB⟩
def Ord (g6 fa fb wa wb g13 g14 g15 : Nat) : Prop := g6 < fa ∧ fa < fb ∧ fb < wa ∧ wa < wb ∧ wb < g13 ∧ g13 < g14 ∧ g14 < g15
theorem QS.tA (h : QS w g6 fa fb wa wb g13 g14 g15 O A13 A14 A15 XA XB XC XD zs pw px py) (o : Ord g6 fa fb wa wb g13 g14 g15) (K : Keep (fun b => b = fa) w w') (q : Own w' fa XA') : QS w' g6 fa fb wa wb g13 g14 g15 O A13 A14 A15 XA' XB XC XD zs pw px py := by
  unfold Ord at o
  exact ⟨⟨at_keep h.ra.o K (by omega), q, at_keep h.ra.b K (by omega), at_keep h.ra.c K (by omega), at_keep h.ra.d K (by omega)⟩, at_keep h.b13 K (by omega), at_keep h.b14 K (by omega), at_keep h.b15 K (by omega), h.lw.keep K (fun _ _ _ => by omega), h.lx.keep K (fun _ _ _ => by omega), h.ly.keep K (fun _ _ _ => by omega)⟩
theorem QS.tB (h : QS w g6 fa fb wa wb g13 g14 g15 O A13 A14 A15 XA XB XC XD zs pw px py) (o : Ord g6 fa fb wa wb g13 g14 g15) (K : Keep (fun b => b = fb) w w') (q : Own w' fb XA') : QS w' g6 fa fb wa wb g13 g14 g15 O A13 A14 A15 XA XA' XC XD zs pw px py := by
  unfold Ord at o
  exact ⟨⟨at_keep h.ra.o K (by omega), at_keep h.ra.a K (by omega), q, at_keep h.ra.c K (by omega), at_keep h.ra.d K (by omega)⟩, at_keep h.b13 K (by omega), at_keep h.b14 K (by omega), at_keep h.b15 K (by omega), h.lw.keep K (fun _ _ _ => by omega), h.lx.keep K (fun _ _ _ => by omega), h.ly.keep K (fun _ _ _ => by omega)⟩
theorem QS.tC (h : QS w g6 fa fb wa wb g13 g14 g15 O A13 A14 A15 XA XB XC XD zs pw px py) (o : Ord g6 fa fb wa wb g13 g14 g15) (K : Keep (fun b => b = wa) w w') (q : Own w' wa XA') : QS w' g6 fa fb wa wb g13 g14 g15 O A13 A14 A15 XA XB XA' XD zs pw px py := by
  unfold Ord at o
  exact ⟨⟨at_keep h.ra.o K (by omega), at_keep h.ra.a K (by omega), at_keep h.ra.b K (by omega), q, at_keep h.ra.d K (by omega)⟩, at_keep h.b13 K (by omega), at_keep h.b14 K (by omega), at_keep h.b15 K (by omega), h.lw.keep K (fun _ _ _ => by omega), h.lx.keep K (fun _ _ _ => by omega), h.ly.keep K (fun _ _ _ => by omega)⟩
theorem QS.tD (h : QS w g6 fa fb wa wb g13 g14 g15 O A13 A14 A15 XA XB XC XD zs pw px py) (o : Ord g6 fa fb wa wb g13 g14 g15) (K : Keep (fun b => b = wb) w w') (q : Own w' wb XA') : QS w' g6 fa fb wa wb g13 g14 g15 O A13 A14 A15 XA XB XC XA' zs pw px py := by
  unfold Ord at o
  exact ⟨⟨at_keep h.ra.o K (by omega), at_keep h.ra.a K (by omega), at_keep h.ra.b K (by omega), at_keep h.ra.c K (by omega), q⟩, at_keep h.b13 K (by omega), at_keep h.b14 K (by omega), at_keep h.b15 K (by omega), h.lw.keep K (fun _ _ _ => by omega), h.lx.keep K (fun _ _ _ => by omega), h.ly.keep K (fun _ _ _ => by omega)⟩
/-- What lies outside the given box stays. -/
theorem QS.far {g : Nat} (h : QS w g6 fa fb wa wb g13 g14 g15 O A13 A14 A15 XA XB XC XD zs pw px py) (o : Ord g6 fa fb wa wb g13 g14 g15) (K : Keep (fun b => b = g) w w') (q : g15 < g) : QS w' g6 fa fb wa wb g13 g14 g15 O A13 A14 A15 XA XB XC XD zs pw px py := by
  unfold Ord at o
  exact ⟨h.ra.far K (by omega) (by omega) (by omega) (by omega) (by omega), at_keep h.b13 K (by omega), at_keep h.b14 K (by omega), at_keep h.b15 K (by omega), h.lw.keep K (fun _ _ _ => by omega), h.lx.keep K (fun _ _ _ => by omega), h.ly.keep K (fun _ _ _ => by omega)⟩
theorem QS.t13 {A : Array Value} (h : QS w g6 fa fb wa wb g13 g14 g15 O A13 A14 A15 XA XB XC XD zs pw px py) (o : Ord g6 fa fb wa wb g13 g14 g15) (K : Keep (fun b => b = g13) w w') (q : Bx w' g13 34 A) : QS w' g6 fa fb wa wb g13 g14 g15 O A A14 A15 XA XB XC XD zs pw px py := by
  unfold Ord at o
  exact ⟨h.ra.far K (by omega) (by omega) (by omega) (by omega) (by omega), q, at_keep h.b14 K (by omega), at_keep h.b15 K (by omega), h.lw.keep K (fun _ _ _ => by omega), h.lx.keep K (fun _ _ _ => by omega), h.ly.keep K (fun _ _ _ => by omega)⟩
end
theorem own_head {w : World} {g n c : Nat} {X zs : List Int} (h : Own w g X) (hz : X.take n = zs) (hn : n ≤ c) (hx : X.length = c) (hc : c ≤ 17592186044000) (hl : Nm.Limbs X) : Arg w (some ⟨g, 0, none⟩) n c zs := by
  subst hz
  exact ⟨by rw [List.length_take]; omega, hn, hc, h.lies.take n, hl.take n⟩
theorem holds_on {w W : World} {a : Option Addr} {its : List E1} (h : E1.Holds w a its) (hB : Below w.heap.size w W) : E1.Holds W a its := by
  rcases h with c | ⟨b, off, e, h⟩
  · exact .inl c
  · refine .inr ⟨b, off, e, fun i it hi => ?_⟩
    obtain ⟨q0, q1, q2, q3, q4, q5⟩ := h i it hi
    exact ⟨by rw [hB.cell (cell_lt q0)]; exact q0, by rw [hB.cell (cell_lt q1)]; exact q1, by rw [hB.cell (cell_lt q2)]; exact q2, by rw [hB.cell (cell_lt q3)]; exact q3, by rw [hB.cell (cell_lt q4)]; exact q4, by rw [hB.cell (cell_lt q5)]; exact q5⟩
theorem bd_on {w W : World} {it : E1} (h : E1.Bd w it) (hB : Below w.heap.size w W) : E1.Bd W it := ⟨h.1, h.2.1, h.2.2.1, h.2.2.2.1.below hB (Nat.le_refl _), h.2.2.2.2.below hB (Nat.le_refl _)⟩
theorem sz1_mem : ∀ {its : List E1} {it : E1}, it ∈ its → it.n1 + it.n2 + 1 ≤ sz1 its
  | [], _, h => by cases h
  | x :: r, it, h => by
    rcases List.mem_cons.1 h with rfl | h
    · simp only [sz1]; omega
    · have := sz1_mem h
      simp only [sz1]; omega
theorem sz1_len : ∀ its : List E1, its.length ≤ sz1 its
  | [] => by simp [sz1]
  | x :: r => by have := sz1_len r; simp only [sz1, List.length_cons]; omega
/-- What a round goes by. -/
def Rd (w : World) (a : Option Addr) (i : Nat) : Prop :=
  ∃ (b off n1 c1 n2 c2 : Nat) (K M C N : Int) (p1 p2 : Option Addr) (z1 z2 : List Int), a = some ⟨b, off, none⟩ ∧
    (∀ W, Below w.heap.size w W → (W.cell? ⟨b, off + i * 6, none⟩ = some (.int .i64 K) ∧ W.cell? ⟨b, off + i * 6 + 1, none⟩ = some (.slice p1 n1 c1) ∧ W.cell? ⟨b, off + i * 6 + 2, none⟩ = some (.slice p2 n2 c2) ∧ W.cell? ⟨b, off + i * 6 + 3, none⟩ = some (.int .u64 M) ∧ W.cell? ⟨b, off + i * 6 + 4, none⟩ = some (.int .u64 C) ∧ W.cell? ⟨b, off + i * 6 + 5, none⟩ = some (.int .i64 N)) ∧ Arg W p1 n1 c1 z1 ∧ Arg W p2 n2 c2 z2 ∧ Tab W) ∧
    n1 ≤ 1048576 ∧ n2 ≤ 1048576 ∧ z1.length = n1 ∧ z2.length = n2 ∧ Nm.Limbs z1 ∧ Nm.Limbs z2 ∧
    (∀ zA zB : List Int, zA.length = n1 → Nm.Limbs zA → Nm.Limbs zB → B3 K n1 n2 M C N zA zB)
theorem rd_any {w : World} {a : Option Addr} {len : Nat} {its : List E1} (hl : its.length = len) (hh : E1.Holds w a its) (hb : ∀ it ∈ its, E1.Bd w it) (hT : Tab w) (hs : sz1 its ≤ 1048576) (i : Nat) (hi : i < len) : Rd w a i := by
  have he : its[i]? = some its[i] := List.getElem?_eq_getElem (by omega)
  have hm : its[i] ∈ its := List.getElem_mem (by omega)
  have sz := sz1_mem hm
  obtain ⟨b1, b2, b3, b5, b6⟩ := hb _ hm
  rcases hh with c | ⟨b, off, e, h⟩
  · rw [c] at hl; simp at hl; omega
  · obtain ⟨q0, q1, q2, q3, q4, q5⟩ := h i _ he
    refine ⟨b, off, its[i].n1, its[i].c1, its[i].n2, its[i].c2, its[i].K, its[i].M, its[i].C, its[i].N, its[i].p1, its[i].p2, its[i].z1, its[i].z2, e, fun W hB => ⟨⟨by rw [hB.cell (cell_lt q0)]; exact q0, by rw [hB.cell (cell_lt q1)]; exact q1, by rw [hB.cell (cell_lt q2)]; exact q2, by rw [hB.cell (cell_lt q3)]; exact q3, by rw [hB.cell (cell_lt q4)]; exact q4, by rw [hB.cell (cell_lt q5)]; exact q5⟩, b5.below hB (Nat.le_refl _), b6.below hB (Nat.le_refl _), hT.below hB⟩, by omega, by omega, b5.1, b6.1, b5.2.2.2.2, b6.2.2.2.2, fun zA zB e1 l1 l2 => b3_any _ _ _ _ _ _ _ _ b1.1 b1.2 b2.1 b2.2 b3 e1 (by omega) l1 l2⟩
theorem at_keepS {S : Nat → Prop} {w w' : World} {g : Nat} {o : Obj} (h : w.heap[g]? = some o) (K : Keep S w w') (ne : ¬ S g) : w'.heap[g]? = some o := by
  have lt : g < w.heap.size := by
    rcases Nat.lt_or_ge g w.heap.size with c | c
    · exact c
    · simp [Array.getElem?_eq_none c] at h
  rw [K.block g lt ne]
  exact h
theorem keep_bel {wr w w' : World} {g : Nat} (hB : Below wr.heap.size wr w) (K : Keep (fun b => b = g) w w') (h : wr.heap.size ≤ g) : Below wr.heap.size wr w' := hB.trans (K.below (fun b e => by rw [e]; exact h) hB.size)
theorem blk_lr {lo hi n b : Nat} {w : World} {p : Option Addr} {zs : List Int} (h : Lr lo hi w p zs) (hn : zs.length = n) (hb : (Ke.mk p n).blk = some b) : lo < b ∧ b < hi := by
  obtain ⟨n0, a, ha, rfl⟩ := Ke.of_blk hb
  simp only at n0 ha
  have := h.2 a ha (by omega)
  exact ⟨this.1, this.2.1⟩
theorem blk_ls {H n b : Nat} {w : World} {p : Option Addr} {zs : List Int} (h : Ls H w p zs) (hn : zs.length = n) (hb : (Ke.mk p n).blk = some b) : H ≤ b ∧ b < w.heap.size := by
  obtain ⟨n0, a, ha, rfl⟩ := Ke.of_blk hb
  simp only at n0 ha
  exact ⟨(h.2 a ha (by omega)).1, h.1.lt (by omega) a ha⟩
theorem blk_own {g n b : Nat} (hb : (Ke.mk (some ⟨g, 0, none⟩) n).blk = some b) : b = g := by
  obtain ⟨n0, a, ha, rfl⟩ := Ke.of_blk hb
  simp only [Option.some.injEq] at ha
  subst ha
  rfl
/-- What a round puts behind. -/
def five (px py pz : Option Addr) (l1 l2 fa fb NA NB : Nat) : List Ke := [⟨px, l1⟩, ⟨py, l1⟩, ⟨pz, l2⟩, ⟨some ⟨fa, 0, none⟩, NA⟩, ⟨some ⟨fb, 0, none⟩, NB⟩]
/-- Five lists apart. -/
theorem apart5 {x y z a b : Ke} {g13 g14 g15 h fa fb : Nat} (hx : ∀ q, x.blk = some q → g13 < q ∧ q < g14) (hy : ∀ q, y.blk = some q → g14 < q ∧ q < g15) (hz : ∀ q, z.blk = some q → h ≤ q) (ha : ∀ q, a.blk = some q → q = fa) (hb : ∀ q, b.blk = some q → q = fb)
    (o1 : fa < fb) (o2 : fb < g13) (o3 : g14 < g15) (o4 : g15 ≤ h) (o5 : g13 < g14) : Apart [x, y, z, a, b] := by
  unfold Apart
  simp only [List.pairwise_cons, List.mem_cons, List.not_mem_nil, or_false, forall_eq_or_imp, forall_eq, List.Pairwise.nil, and_true, false_implies, implies_true]
  refine ⟨⟨?_, ?_, ?_, ?_⟩, ⟨?_, ?_, ?_⟩, ⟨?_, ?_⟩, ?_⟩
  · intro q e f; have := hx q e; have := hy q f; omega
  · intro q e f; have := hx q e; have := hz q f; omega
  · intro q e f; have := hx q e; have := ha q f; omega
  · intro q e f; have := hx q e; have := hb q f; omega
  · intro q e f; have := hy q e; have := hz q f; omega
  · intro q e f; have := hy q e; have := ha q f; omega
  · intro q e f; have := hy q e; have := hb q f; omega
  · intro q e f; have := hz q e; have := ha q f; omega
  · intro q e f; have := hz q e; have := hb q f; omega
  · intro q e f; have := ha q e; have := hb q f; omega
end Go.Proofs.YtmglogncpfoldaaDoor

namespace Go.Proofs.YtmglogncpfoldaaDoor
open Go Go.RowKit Go.Deep

def CK (i k : Nat) : Nat → List Int → Prop := fun j zs => (j < i → zs = List.replicate zs.length (mk1 j)) ∧ (j = i → zs.take k = List.replicate k (mk1 j))
theorem ck_zero (j : Nat) (zs : List Int) : CK 0 0 j zs := ⟨fun h => absurd h (by omega), fun _ => by simp⟩
theorem ck_other {i k t : Nat} {zs : List Int} (h : t ≠ i) (c : CK i k t zs) : CK i (k + 1) t zs := ⟨c.1, fun e => absurd e h⟩
theorem ck_put {i k : Nat} {zs : List Int} (h : k < zs.length) (c : CK i k i zs) : CK i (k + 1) i (zs.set k (mk1 i)) :=
  ⟨fun e => absurd e (by omega), fun _ => by
    rw [List.take_add_one, List.take_set, List.set_eq_of_length_le (by rw [List.length_take]; omega), c.2 rfl, List.getElem?_set_self h]
    show _ ++ [mk1 i] = _
    rw [List.replicate_succ']⟩
theorem ck_next {i j n : Nat} {zs : List Int} (hn : j = i → zs.length = n) (c : CK i n j zs) : CK (i + 1) 0 j zs :=
  ⟨fun h => by
    rcases Nat.lt_or_ge j i with q | q
    · exact c.1 q
    · have e : j = i := by omega
      have := c.2 e
      rw [List.take_of_length_le (by rw [hn e]; exact Nat.le_refl _)] at this
      rw [this, List.length_replicate], fun _ => by simp⟩
theorem row_len {B n : Nat} {w : World} {mv : Value} {D : List Sl} (h : Re.Ow v1 27 1 B w mv D) (hn : D.length = n) : ∃ q c, mv = .slice q n c := by
  rcases h.2 with ⟨rfl, h0⟩ | ⟨g, c, cur, rfl, _⟩
  · exact ⟨none, 0, by rw [← hn, h0]⟩
  · exact ⟨_, c, by rw [hn]⟩
theorem row_cell {B n c : Nat} {w : World} {q : Option Addr} {D : List Sl} (h : Re.Ow v1 27 1 B w (.slice q n c) D) {i : Nat} {x : Sl} (hx : D[i]? = some x) : ∃ g, q = some ⟨g, 0, none⟩ ∧ w.cell? ⟨g, i, none⟩ = some (.slice x.p x.n x.c) := by
  have il := (List.getElem?_eq_some_iff.1 hx).1
  rcases h.shape with ⟨c, e, hD⟩ | ⟨g, c', e, _⟩
  · rw [hD] at il; simp at il
  · simp only [Value.slice.injEq] at e
    obtain ⟨rfl, -, -⟩ := e
    have := Re.Ow.cell v1_len h hx 0 (by omega) _ rfl
    rw [Nat.mul_one, Nat.add_zero] at this
    exact ⟨g, rfl, this⟩
theorem int_len {B n : Nat} {w : World} {mv : Value} {D : List Int} (h : Re.Ow i1 3 1 B w mv D) (hn : D.length = n) : ∃ q c, mv = .slice q n c := by
  rcases h.2 with ⟨rfl, h0⟩ | ⟨g, c, cur, rfl, _⟩
  · exact ⟨none, 0, by rw [← hn, h0]⟩
  · exact ⟨_, c, by rw [hn]⟩
theorem int_cell {B n c : Nat} {w : World} {q : Option Addr} {D : List Int} (h : Re.Ow i1 3 1 B w (.slice q n c) D) {i : Nat} {x : Int} (hx : D[i]? = some x) : ∃ g, q = some ⟨g, 0, none⟩ ∧ w.cell? ⟨g, i, none⟩ = some (.int .i64 x) := by
  have il := (List.getElem?_eq_some_iff.1 hx).1
  rcases h.shape with ⟨c, e, hD⟩ | ⟨g, c', e, _⟩
  · rw [hD] at il; simp at il
  · simp only [Value.slice.injEq] at e
    obtain ⟨rfl, -, -⟩ := e
    have := Re.Ow.cell i1_len h hx 0 (by omega) _ rfl
    rw [Nat.mul_one, Nat.add_zero] at this
    exact ⟨g, rfl, this⟩
theorem K2.mono {C C' : Nat → List Int → Prop} {B : Nat} {w : World} {mv sv : Value} {L : List Ke} {i : Nat} (h : K2 C B w mv sv L i) (q : ∀ i e, L[i]? = some e → ∀ zs, zs.length = e.n → C i zs → C' i zs) : K2 C' B w mv sv L i := ⟨h.ki.mono q, h.sz, h.aw, h.ne⟩
theorem K2.on {C : Nat → List Int → Prop} {B : Nat} {w w' : World} {mv sv : Value} {L : List Ke} {i : Nat} (h : K2 C B w mv sv L i) (hB : Below w.heap.size w w') : K2 C B w' mv sv L i := ⟨h.ki.on hB, h.sz.below hB, h.aw, h.ne⟩
theorem K3.start {B : Nat} {w : World} {mv sv : Value} {L : List Ke} (h : K2 (CK L.length 0) B w mv sv L L.length) : K3 B w mv sv L (L.map Ke.v) 0 := by
  have row := h.ki.row
  have sz := h.sz
  rw [List.take_length] at row sz
  refine ⟨row, List.length_map .., fun j e _ he => ?_, fun j e hj => absurd hj (by omega), sz, h.ne⟩
  obtain ⟨zs, z1, z2, z3⟩ := h.ki.each j e he
  have q := z2.1 (List.getElem?_eq_some_iff.1 he).1
  rw [z1] at q
  exact ⟨by rw [List.getElem?_map, he]; rfl, q ▸ z3.1, fun b hb => h.ki.away e (List.mem_of_getElem? he) b hb⟩
theorem ow_low {B B' : Nat} {w : World} {mv : Value} {D : List Int} (h : Re.Ow u1 28 1 B w mv D) (hb : B' ≤ B) : Re.Ow u1 28 1 B' w mv D := by
  refine ⟨h.1, ?_⟩
  rcases h.2 with q | ⟨g, c, cur, e1, e2, e3⟩
  · exact .inl q
  · exact .inr ⟨g, c, cur, e1, Nat.le_trans hb e2, e3⟩
theorem push_u {H : Nat} {w : World} {mv : Value} {D : List Int} (ho : Re.Ow u1 28 1 H w mv D) (x : Int) (hn : D.length ≤ 17592186044100) (hb : H ≤ w.heap.size) :
    ∃ mv' w', (Builtin.append_ #[27, 27] 27 #[mv, .slice (some ⟨w.heap.size, 0, none⟩) 1 1]).run Tryd.prog (w.alloc (.cells #[.int .u64 x] 28)) = .ok mv' w' ∧ Re.Ow u1 28 1 H w' mv' (D ++ [x]) ∧ Below H w w' := by
  obtain ⟨i, hi, hz⟩ := Option.map_eq_some_iff.1 info_u64
  simp only [Prod.mk.injEq] at hz
  obtain ⟨z1, z2, z3⟩ := hz
  have bm : Below w.heap.size w (w.alloc (.cells #[.int .u64 x] 28)) := alloc_b2 _ _
  have hs : (w.alloc (.cells #[.int .u64 x] 28)).heap.size = w.heap.size + 1 := World.size_alloc _ _
  have ho' := World.ownsRow.alloc ho (.cells #[.int .u64 x] 28)
  have hnew : ∀ j v, [Value.int .u64 x][j]? = some v → (w.alloc (.cells #[.int .u64 x] 28)).cell? ((⟨w.heap.size, 0, none⟩ : Addr).add j) = some v := by
    intro j u hu
    rw [Go.WideShapes.add_plain, Nat.zero_add]
    have h0 : (w.alloc (.cells #[.int .u64 x] 28)).heap[w.heap.size]? = some (.cells #[.int .u64 x] 28 (0, 0)) := heap_alloc_new w _
    simp only [World.cell?, h0]
    simpa using hu
  obtain ⟨v', w', hr, h1, h2, _⟩ := run_append_own (P := Tryd.prog) (w.alloc (.cells #[.int .u64 x] 28)) H 27 27 28 i _ 1 8 Tryd.underlying27 hi z1 z2 z3 rfl (by omega) mv D.length (Re.fl u1 D) ho'
    ⟨w.heap.size, 0, none⟩ 1 1 [.int .u64 x] rfl hnew (fun u hu => u1_one x u hu) (by simp only [maxLen]; omega) (by omega) (by rw [hs]; omega)
  refine ⟨v', w', hr, ?_, ?_⟩
  · have e : Re.fl u1 (D ++ [x]) = Re.fl u1 D ++ [.int .u64 x] := by simp [Re.fl, u1]
    unfold Re.Ow
    rw [e, List.length_append, List.length_singleton]
    exact h1
  · have hb2 : Below H (w.alloc (.cells #[.int .u64 x] 28)) w' := by
      refine ⟨h2.os, h2.tape, h2.output, h2.size, fun j hj => h2.block j (by rw [hs]; omega) ?_⟩
      intro hk
      have := (ho'.lt j hk.symm).1
      omega
    exact (bm.mono hb).trans hb2
/-- One more limb, to a list that has no room or to our own. -/
theorem app_l {H n t : Nat} {p : Option Addr} {x : Int} {lv : Value} {wx : World} (hn : n ≤ 17592186044000) (ht : t < 20) (hL : Lies wx p (List.replicate n x)) (hB : H ≤ wx.heap.size) (h : (t = 0 ∧ lv = .slice p n n) ∨ (0 < t ∧ Re.Ow u1 28 1 H wx lv (List.replicate (n + t) x))) :
    ∃ lv' w', (Builtin.append_ #[27, 27] 27 #[lv, .slice (some ⟨wx.heap.size, 0, none⟩) 1 1]).run Tryd.prog (wx.alloc (.cells #[.int .u64 x] 28)) = .ok lv' w' ∧ Re.Ow u1 28 1 H w' lv' (List.replicate (n + (t + 1)) x) ∧ Below H wx w' := by
  rcases h with ⟨rfl, rfl⟩ | ⟨t0, ho⟩
  · obtain ⟨cap, w', e1, e2, e3⟩ := first_app p n (List.replicate n x) x wx (by simp) hn hL
    refine ⟨_, w', e1, ?_, e3.mono hB⟩
    have := ow_low e2 hB
    rwa [← List.replicate_succ'] at this
  · obtain ⟨mv', w', e1, e2, e3⟩ := push_u ho x (by rw [List.length_replicate]; omega) hB
    refine ⟨mv', w', e1, ?_, e3⟩
    rwa [← List.replicate_succ'] at e2
theorem ow_u1 {H n : Nat} {w : World} {lv : Value} {x : Int} (h : Re.Ow u1 28 1 H w lv (List.replicate n x)) (h0 : 0 < n) : ∃ g c, lv = .slice (some ⟨g, 0, none⟩) n c ∧ H ≤ g ∧ Lies w (some ⟨g, 0, none⟩) (List.replicate n x) := by
  rcases h.shape with ⟨c, e, hD⟩ | ⟨g, c, e, hg, hs, _⟩
  · have := congrArg List.length hD
    simp at this
    omega
  · rw [List.length_replicate] at e
    refine ⟨g, c, e, hg, .inr ⟨g, 0, rfl, fun i hi => ?_⟩⟩
    subst e
    rw [List.length_replicate] at hi
    have hx : (List.replicate n x)[i]? = some x := by simp [hi]
    have := Re.Ow.cell u1_len h hx 0 (by omega) _ rfl
    rw [Nat.mul_one, Nat.add_zero] at this
    rw [Nat.zero_add, this]
    simp [List.getD, hi]
end Go.Proofs.YtmglogncpfoldaaDoor
