/-
  code: the writer: room, add, text.
-/
import Derived.Test.YtnobafmleellhabDoorCdH
import Derived.Test.YtnobafmleellhabDoorChRow
namespace Go.Proofs.YtnobafmleellhabDoor
open Go Go.RowKit Go.Deep

theorem B8.slice {base : Nat} {w : World} {mv : Value} {l : Ch.L8} (h : B8 base w mv l) : ∃ p cap, mv = .slice p l.length cap ∧ ∀ a, p = some a → base ≤ a.block := by
  rcases h.2 with ⟨rfl, h0⟩ | ⟨g, cap, cur, rfl, hb, _⟩
  · exact ⟨none, 0, by rw [h0], fun a e => by cases e⟩
  · exact ⟨_, cap, rfl, fun a e => by cases e; exact hb⟩
/-- What the writer keeps: blocks under its own, and boxes of other things than bytes. -/
structure Fk (wb : Nat) (w w' : World) : Prop where
  bel : Below wb w w'
  bx : ∀ b t c, t ≠ 5 → b ≠ wb → Bx w b t c → Bx w' b t c
theorem Fk.refl (wb : Nat) (w : World) : Fk wb w w := ⟨Below.refl _ _, fun _ _ _ _ _ h => h⟩
theorem Fk.trans {wb : Nat} {a b c : World} (h : Fk wb a b) (k : Fk wb b c) : Fk wb a c := ⟨h.bel.trans k.bel, fun i t d ht hi hx => k.bx i t d ht hi (h.bx i t d ht hi hx)⟩
theorem Fk.of {wb : Nat} {w w' : World} (h : Below w.heap.size w w') (hb : wb ≤ w.heap.size) : Fk wb w w' := ⟨h.mono hb, fun _ _ _ _ _ hx => hx.on h⟩
theorem Fk.drew {wb : Nat} {w w' : World} (h : Fk wb w w') (k : Nat) : Fk wb w (w'.drewN k) := ⟨below_drewN h.bel k, fun i t d ht hi hx => h.bx i t d ht hi hx⟩
theorem Fk.drew1 {wb : Nat} {w w' : World} (h : Fk wb w w') : Fk wb w w'.drew := ⟨h.bel.drew, fun i t d ht hi hx => h.bx i t d ht hi hx⟩
/-- The writer wb stands for the bytes L. -/
structure WS (w : World) (wb : Nat) (L : Ch.L8) : Prop where
  ex : ∃ mv M, Bx w wb 61 #[mv, .bool (decide (16777216 < L.length))] ∧ B8 (wb + 1) w mv M ∧ M.length ≤ 16777216 ∧ (L.length ≤ 16777216 → M = L)
theorem WS.lt {w : World} {wb : Nat} {L : Ch.L8} (h : WS w wb L) : wb < w.heap.size := by
  obtain ⟨mv, M, hx, _⟩ := h.ex
  exact hx.lt
theorem WS.on {w w' : World} {wb : Nat} {L : Ch.L8} (h : WS w wb L) (hB : Below w.heap.size w w') : WS w' wb L := by
  obtain ⟨mv, M, hx, h1, h2, h3⟩ := h.ex
  exact ⟨mv, M, hx.on hB, h1.below hB, h2, h3⟩
theorem WS.new (w : World) : WS (w.alloc (.cells #[.slice none 0 0, .bool false] 61)) w.heap.size [] :=
  ⟨_, [], Bx.new w _ _, B8.nil _ _, by simp, fun _ => rfl⟩
theorem B8.move {base : Nat} {w w' : World} {mv : Value} {l : Ch.L8} (h : B8 base w mv l) (hk : ∀ g, base ≤ g → g < w.heap.size → w'.heap[g]? = w.heap[g]?) : B8 base w' mv l := by
  obtain ⟨h1, h2⟩ := h
  refine ⟨h1, ?_⟩
  rcases h2 with h2 | ⟨g, cap, cur, e1, e2, e3, e4⟩
  · exact .inl h2
  · refine .inr ⟨g, cap, cur, e1, e2, ?_, e4⟩
    rw [hk g e2 (Array.getElem?_eq_some_iff.1 e3).1]; exact e3
theorem B8.setb {base : Nat} {w : World} {mv : Value} {l : Ch.L8} (h : B8 base w mv l) (b o : Nat) (v : Value) (hb : b < base) : B8 base (w.setCell ⟨b, o, none⟩ v) mv l :=
  h.move fun g hg _ => Below.heap_setCell _ _ _ _ (fun e => by have e' : g = b := e; omega)
theorem B8.own {base : Nat} {w : World} {mv : Value} {l : Ch.L8} (h : B8 base w mv l) {g : Nat} (hg : some g = mv.ownBlock) : base ≤ g ∧ ∃ cur, w.heap[g]? = some (.cells cur 5 (0, 0)) := by
  rcases h.2 with ⟨rfl, _⟩ | ⟨g', cap, cur, rfl, hb, hgg, _⟩
  · cases hg
  · obtain rfl : g = g' := by injection hg
    exact ⟨hb, cur, hgg⟩
/-- What an append to a row of ours changes. -/
structure Apd (base : Nat) (mv : Value) (w w' : World) : Prop where
  bel : Below base w w'
  same : ∀ j, j < w.heap.size → some j ≠ mv.ownBlock → w'.heap[j]? = w.heap[j]?
theorem B8.adds {base : Nat} {w : World} {mv : Value} {l : Ch.L8} (ho : B8 base w mv l) {b : Nat} (xs : Ch.L8) (hsrc : Bx w b 5 (Lib.byteCells xs).toArray) (hn : l.length + xs.length ≤ 140737488351232) (hb : base ≤ w.heap.size) :
    ∃ mv' w', (Builtin.append_ #[42, 42] 42 #[mv, .slice (some ⟨b, 0, none⟩) xs.length xs.length]).run Tryd.prog w = .ok mv' w' ∧ B8 base w' mv' (l ++ xs) ∧ Apd base mv w w' := by
  obtain ⟨i, hi, hz⟩ := Option.map_eq_some_iff.1 info_u8
  simp only [Prod.mk.injEq] at hz
  obtain ⟨z1, z2, z3⟩ := hz
  obtain ⟨v', w', hr, h1, h2, _⟩ := run_append_own (P := Tryd.prog) w base 42 42 5 i (.int .u8 0) 1 1 Tryd.underlying42 hi z1 z2 z3 rfl (by omega) mv l.length (Lib.byteCells l) ho
    ⟨b, 0, none⟩ xs.length xs.length (Lib.byteCells xs) (by rw [byteCells_len, Nat.mul_one]) (fun j u hu => by
      rw [Go.WideShapes.add_plain, Nat.zero_add]
      exact hsrc.cell j u (by rw [List.getElem?_toArray]; exact hu)) (fun u hu => by simp only [Lib.byteCells, List.mem_map] at hu; obtain ⟨c, _, rfl⟩ := hu; rfl) (by simp only [maxLen]; omega) (by omega) (by omega)
  refine ⟨v', w', hr, ?_, ⟨⟨h2.os, h2.tape, h2.output, h2.size, fun j hj => h2.block j (by omega) ?_⟩, fun j hj hk => h2.block j hj hk⟩⟩
  · rw [B8, byteCells_app, List.length_append]
    exact h1
  · intro hk
    have := (World.ownsRow.lt ho j hk.symm).1
    omega
theorem B8.catz {base : Nat} {w : World} {mv : Value} {l : Ch.L8} (ho : B8 base w mv l) (s : ByteArray) (hn : l.length + s.size ≤ 140737488351232) (hb : base ≤ w.heap.size) :
    ∃ mv' w', (Builtin.append_ #[42, 9] 42 #[mv, .string s]).run Tryd.prog w = .ok mv' w' ∧ B8 base w' mv' (l ++ s.data.toList) ∧ Apd base mv w w' := by
  obtain ⟨i, hi, hz⟩ := Option.map_eq_some_iff.1 info_u8
  simp only [Prod.mk.injEq] at hz
  obtain ⟨z1, z2, z3⟩ := hz
  obtain ⟨v', w', hr, h1, h2, h3⟩ := Lib.run_append_own_string (P := Tryd.prog) (w := w) base 42 9 42 5 i Tryd.underlying42 Tryd.underlying9 hi z1 z2 z3 mv l.length (Lib.byteCells l) ho s (by simp only [maxLen]; omega) (by omega) hb
  refine ⟨v', w', hr, ?_, ⟨⟨h2.os, h2.tape, h2.output, h2.size, fun j hj => h2.block j (by omega) ?_⟩, fun j hj hk => h2.block j hj hk⟩⟩
  · rw [B8, byteCells_app, List.length_append, Ch.size_len]
    exact h1
  · intro hk
    have := (World.ownsRow.lt ho j hk.symm).1
    omega
/-- Behind an append and the store of the row. -/
theorem WS.put {w w2 : World} {wb : Nat} {mv mv' : Value} {M : Ch.L8} {fl : Bool} (hx : Bx w wb 61 #[mv, .bool fl]) (h1 : B8 (wb + 1) w mv M) {M' : Ch.L8} (h2 : B8 (wb + 1) w2 mv' M') (ha : Apd (wb + 1) mv w w2) (hf : fl = decide (16777216 < M'.length)) (hl : M'.length ≤ 16777216) :
    Bx w2 wb 61 #[mv, .bool fl] ∧ WS (w2.setCell ⟨wb, 0, none⟩ mv') wb M' ∧ Fk wb w (w2.setCell ⟨wb, 0, none⟩ mv') := by
  have k2 : Bx w2 wb 61 #[mv, .bool fl] := hx.below ha.bel (by omega)
  refine ⟨k2, ⟨mv', M', ?_, h2.setb _ _ _ (by omega), hl, fun _ => rfl⟩, ⟨Below.setCell (p := ⟨wb, 0, none⟩) (ha.bel.mono (Nat.le_succ wb)) (Nat.le_refl _) _, fun b t c ht hb hx => ?_⟩⟩
  · have := k2.set 0 mv'
    rw [hf] at this
    exact this
  · refine Bx.far ?_ (fun e => hb e.symm)
    have : w2.heap[b]? = w.heap[b]? := ha.same b hx.lt (fun e => by
      obtain ⟨_, cur, hc⟩ := h1.own e
      unfold Bx at hx
      rw [hc] at hx
      injection hx with hx
      injection hx with e1 e2
      exact ht e2.symm)
    rw [Bx, this]; exact hx
theorem WS.more {w : World} {wb : Nat} {L xs : Ch.L8} {mv : Value} {M : Ch.L8} (hx : Bx w wb 61 #[mv, .bool (decide (16777216 < L.length))]) (h1 : B8 (wb + 1) w mv M) (h2 : M.length ≤ 16777216) (hm : ¬ L.length + xs.length ≤ 16777216) (k : Nat) (hk : k = xs.length) :
    WS (w.setCell ⟨wb, 1, none⟩ (.bool (decide (16777216 < L.length + k)))) wb (L ++ xs) ∧ Fk wb w (w.setCell ⟨wb, 1, none⟩ (.bool (decide (16777216 < L.length + k)))) := by
  subst hk
  refine ⟨⟨mv, M, ?_, h1.setb _ _ _ (by omega), h2, fun h => by rw [List.length_append] at h; omega⟩, ⟨Below.setCell (p := ⟨wb, 1, none⟩) (Below.refl _ _) (Nat.le_refl _) _, fun b t c ht hb hx => hx.far (fun e => hb e.symm)⟩⟩
  have := hx.set 1 (.bool (decide (16777216 < L.length + xs.length)))
  rw [List.length_append]
  exact this
theorem bx2w {w : World} {b t : Nat} {v0 v1 : Value} (h : Bx w b t #[v0, v1]) : w.cell? ⟨b, 0, none⟩ = some v0 ∧ w.cell? ⟨b, 1, none⟩ = some v1 ∧ w.frozen? ⟨b, 0, none⟩ = false ∧ w.frozen? ⟨b, 1, none⟩ = false := by
  simp only [Bx] at h
  refine ⟨?_, ?_, ?_, ?_⟩ <;> simp [World.cell?, World.frozen?, h]
set_option maxRecDepth 100000 in
set_option maxHeartbeats 2000000 in
theorem croom_any {w : World} {wb : Nat} {L : Ch.L8} {mv : Value} {M : Ch.L8} (k : Nat) (hk : k ≤ 9223372036854775807) (hx : Bx w wb 61 #[mv, .bool (decide (16777216 < L.length))]) (h1 : B8 (wb + 1) w mv M) (h3 : L.length ≤ 16777216 → M = L) :
    Calls Tryd.prog 29 #[.pointer (some ⟨wb, 0, none⟩), .int .i64 (k : Int)] w fun e w' => e = .returned (.bool (decide (L.length + k ≤ 16777216))) ∧ w' = w.setCell ⟨wb, 1, none⟩ (.bool (decide (16777216 < L.length + k))) := by
  obtain ⟨c0, c1, f0, f1⟩ := bx2w hx
  have d1 : ∀ v, (w.setCell ⟨wb, 1, none⟩ v).cell? ⟨wb, 1, none⟩ = some v := fun v => (bx2w (hx.set 1 v)).2.1
  obtain ⟨N, hN⟩ : ∃ N, L.length = N := ⟨_, rfl⟩
  have hki : (k : Int) ≤ 9223372036854775807 := by omega
  rw [hN] at c1 h3 ⊢
  by_cases h : 16777216 < N
  · rw [decide_eq_true h] at c1
    rw [decide_eq_true (show 16777216 < N + k by omega), decide_eq_false (show ¬ N + k ≤ 16777216 by omega)]
    have D := d1 (.bool true)
    clear d1 hx h1 h3
    go_enter Tryd.func29, Tryd.ntmps29
    go_wp2_with fail
    go_ret
    exact ⟨rfl, rfl⟩
  · obtain rfl := h3 (by omega)
    rw [decide_eq_false h] at c1
    obtain ⟨p, cap, rfl, -⟩ := h1.slice
    rw [hN] at c0
    have hNi : (N : Int) ≤ 16777216 := by omega
    by_cases h2 : N + k ≤ 16777216
    · rw [decide_eq_true h2, decide_eq_false (show ¬ 16777216 < N + k by omega)]
      have D := d1 (.bool false)
      have g : ¬ (16777216 : Int) - (N : Int) < (k : Int) := by omega
      clear d1 hx h1 h3
      go_enter Tryd.func29, Tryd.ntmps29
      go_wp2_with fail
      go_ret
      exact ⟨rfl, rfl⟩
    · rw [decide_eq_false h2, decide_eq_true (show 16777216 < N + k by omega)]
      have D := d1 (.bool true)
      have g : (16777216 : Int) - (N : Int) < (k : Int) := by omega
      clear d1 hx h1 h3
      go_enter Tryd.func29, Tryd.ntmps29
      go_wp2_with fail
      go_ret
      exact ⟨rfl, rfl⟩
end Go.Proofs.YtnobafmleellhabDoor
