/-
  WHAT THE WALK OF NatSum NEEDS: rows of slices; what stays while known blocks are written; answers that are one.
-/
import Derived.Test.YtamlindelmfbiaaRefSum
namespace Go.Proofs.Ytamlindelmfbiaa
open Go.RowKit Go.Deep

theorem drew_cell {w wr : World} (h : ∃ m, wr = w.drewN m) (p : Addr) : wr.cell? p = w.cell? p := by
  obtain ⟨m, rfl⟩ := h
  rfl

theorem drew_more {w wr : World} (h : ∃ m, wr = w.drewN m) (n : Nat) : ∃ m, wr.drewN n = w.drewN m := by
  obtain ⟨m, rfl⟩ := h
  exact ⟨m + n, World.drewN_drewN _ _ _⟩

set_option maxHeartbeats 1000000 in
theorem refSame_drew (p q : Option Addr) (n cap m cap' : Nat) (zs ys : List Int) (w : World) (ha : Arg w p n cap zs) (hb : Arg w q m cap' ys) :
    Calls Try.prog 11 #[.slice p n cap, .slice q m cap'] w fun e w' => e = .returned (.bool (decide (zs = ys))) ∧ ∃ m, w' = w.drewN m := by
  obtain ⟨a1, a2, a3, a4, a5⟩ := ha
  obtain ⟨b1, b2, b3, b4, b5⟩ := hb
  by_cases h1 : n = m
  · subst h1
    by_cases h0 : n = 0
    · subst h0
      have E : Hid (decide (zs = ys) = true) := by
        have e1 : zs = [] := List.eq_nil_of_length_eq_zero a1
        have e2 : ys = [] := List.eq_nil_of_length_eq_zero b1
        simp [Hid, e1, e2]
      clear a1 b1 a4 b4 a5 b5
      go_enter Try.func11, Try.ntmps11
      go_wp2_with fail
      refine wp_loop_rounds 1 ?_
      rw [rounds_succ]
      go_wp2
      go_ret
      exact ⟨ret_bool E.out.symm, ⟨0, rfl⟩⟩
    · obtain ⟨b, off, rfl, hbw, HC⟩ := a4.at (by omega)
      obtain ⟨b', off', rfl, hbw', HC'⟩ := b4.at (by omega)
      have A1 := hid a1
      have B1 := hid b1
      clear a1 b1 a4 b4 a5 b5
      go_enter Try.func11, Try.ntmps11
      go_wp2_with fail
      go_loopw [5] (fun i wr => ∃ j : Nat, j ≤ n ∧ i = .int .i64 j ∧ Hid (∀ t, t < j → zs.getD t 0 = ys.getD t 0) ∧ ∃ m, wr = w.drewN m) (fun i _ => n - (intOf i).toNat)
      case atStart => exact ⟨0, Nat.zero_le _, rfl, fun t ht => by omega, ⟨0, rfl⟩⟩
      case round =>
        obtain ⟨j, hj, rfl, hE, hB⟩ := hrel
        by_cases hlt : j < n
        · obtain ⟨x, hx, X⟩ : ∃ x, wr.cell? ⟨b, off + j, none⟩ = some (.int .u64 x) ∧ Hid (x = zs.getD j 0) := ⟨_, (drew_cell hB ⟨b, off + j, none⟩).trans (HC.out j (by have := A1.out; omega)), rfl⟩
          obtain ⟨y, hy, Y⟩ : ∃ y, wr.cell? ⟨b', off' + j, none⟩ = some (.int .u64 y) ∧ Hid (y = ys.getD j 0) := ⟨_, (drew_cell hB ⟨b', off' + j, none⟩).trans (HC'.out j (by have := B1.out; omega)), rfl⟩
          have HB := hid hB
          clear hB
          have hlt' : (j : Int) < (n : Int) := by omega
          by_cases hxy : x = y
          · have hxy' : (x != y) = false := by simp [hxy]
            have HXY := hid hxy
            clear hxy
            go_wp2_with fail
            go_quiet (fail)
            go_wp2
            go_roundw
            case rel =>
              refine ⟨j + 1, by omega, by go_num, fun i hi => ?_, drew_more HB.out _⟩
              by_cases e : i = j
              · subst e; rw [← X.out, ← Y.out]; exact HXY.out
              · exact hE.out i (by omega)
            case measure => simp [intOf]; omega
          · have hxy' : (x != y) = true := by simp [hxy]
            have E : Hid (decide (zs = ys) = false) := by
              simp only [Hid, decide_eq_false_iff_not]
              intro e
              rw [e] at X
              exact hxy (X.out.trans Y.out.symm)
            clear hxy
            go_wp2_with fail
            go_quiet (fail)
            go_wp2
            go_ret
            exact ⟨ret_bool E.out.symm, drew_more HB.out _⟩
        · have HB := hid hB
          clear hB
          have E : Hid (decide (zs = ys) = true) := by
            simp only [Hid, decide_eq_true_eq]
            apply List.ext_getElem (by rw [A1.out, B1.out])
            intro i h1 h2
            have := hE.out i (by have := A1.out; omega)
            simpa [List.getD, h1, h2] using this
          go_wp2
          go_ret
          exact ⟨ret_bool E.out.symm, HB.out⟩
  · have h1' : ((n : Int) != (m : Int)) = true := by rw [bne_iff_ne]; omega
    have E : Hid (decide (zs = ys) = false) := by
      simp only [Hid, decide_eq_false_iff_not]
      intro e
      rw [e] at a1
      omega
    clear a1 b1
    go_enter Try.func11, Try.ntmps11
    go_wp2_with fail
    go_ret
    exact ⟨ret_bool E.out.symm, ⟨0, rfl⟩⟩


theorem refSame_drew_is (s : Bool) (p q : Option Addr) (n cap m cap' : Nat) (zs ys : List Int) (w : World) (ha : Arg w p n cap zs) (hb : Arg w q m cap' ys) (hs : decide (zs = ys) = s) :
    Calls Try.prog 11 #[.slice p n cap, .slice q m cap'] w fun e w' => e = .returned (.bool s) ∧ ∃ m, w' = w.drewN m := by
  rw [← hs]
  exact refSame_drew p q n cap m cap' zs ys w ha hb

/-- Only blocks of S have been written, of those that were there. -/
structure Keep (S : Nat → Prop) (w w' : World) : Prop where
  os : w'.os = w.os
  tape : w'.tape = w.tape
  output : w'.output = w.output
  size : w.heap.size ≤ w'.heap.size
  block : ∀ b, b < w.heap.size → ¬ S b → w'.heap[b]? = w.heap[b]?

theorem Keep.refl (S : Nat → Prop) (w : World) : Keep S w w := ⟨rfl, rfl, rfl, Nat.le_refl _, fun _ _ _ => rfl⟩
theorem Keep.trans {S : Nat → Prop} {a b c : World} (h : Keep S a b) (k : Keep S b c) : Keep S a c :=
  ⟨k.os.trans h.os, k.tape.trans h.tape, k.output.trans h.output, Nat.le_trans h.size k.size, fun i hi hs => (k.block i (Nat.lt_of_lt_of_le hi h.size) hs).trans (h.block i hi hs)⟩
theorem Keep.mono {S T : Nat → Prop} {a b : World} (h : Keep S a b) (hst : ∀ b, S b → T b) : Keep T a b := ⟨h.os, h.tape, h.output, h.size, fun i hi hs => h.block i hi (fun k => hs (hst i k))⟩
theorem Keep.of_below {S : Nat → Prop} {B : Nat} {a b : World} (h : Below B a b) (hB : a.heap.size ≤ B) : Keep S a b := ⟨h.os, h.tape, h.output, h.size, fun i hi _ => h.block i (by omega)⟩
theorem Keep.below {S : Nat → Prop} {B : Nat} {a b : World} (h : Keep S a b) (hS : ∀ b, S b → B ≤ b) (hB : B ≤ a.heap.size) : Below B a b := ⟨h.os, h.tape, h.output, h.size, fun i hi => h.block i (by omega) (fun k => by have := hS i k; omega)⟩
theorem Keep.drewN {S : Nat → Prop} {a b : World} (h : Keep S a b) (n : Nat) : Keep S a (b.drewN n) := ⟨h.os, h.tape, h.output, h.size, h.block⟩
theorem Keep.cell {S : Nat → Prop} {a b : World} (h : Keep S a b) {p : Addr} {v : Value} (hc : a.cell? p = some v) (hs : ¬ S p.block) : b.cell? p = some v := by
  have hl := cell_lt hc
  have e := h.block p.block hl hs
  rw [← hc]
  unfold World.cell?
  rw [e]

theorem Lies.keep {S : Nat → Prop} {w w' : World} {p : Option Addr} {zs : List Int} (h : Lies w p zs) (k : Keep S w w') (hp : ∀ a, p = some a → ¬ S a.block) : Lies w' p zs := by
  rcases h with rfl | ⟨b, off, rfl, h⟩
  · exact .inl rfl
  · exact .inr ⟨b, off, rfl, fun i hi => k.cell (h i hi) (hp ⟨b, off, none⟩ rfl)⟩

theorem Arg.keep {S : Nat → Prop} {w w' : World} {p : Option Addr} {n cap : Nat} {zs : List Int} (h : Arg w p n cap zs) (k : Keep S w w') (hp : ∀ a, p = some a → ¬ S a.block) : Arg w' p n cap zs :=
  ⟨h.1, h.2.1, h.2.2.1, h.2.2.2.1.keep k hp, h.2.2.2.2⟩

theorem Own.keep {S : Nat → Prop} {w w' : World} {g : Nat} {zs : List Int} (h : Own w g zs) (k : Keep S w w') (hp : ¬ S g) : Own w' g zs := by
  have := h.lt
  simp only [Own] at h ⊢
  rw [k.block g this hp, h]

/-- A row of slices in a block of its own. -/
def OwnV (w : World) (g : Nat) (vs : List Value) : Prop := w.heap[g]? = some (.cells vs.toArray 24 (0, 0))

theorem OwnV.lt {w : World} {g : Nat} {vs : List Value} (h : OwnV w g vs) : g < w.heap.size := by
  rcases Nat.lt_or_ge g w.heap.size with hl | hl
  · exact hl
  · simp [OwnV, Array.getElem?_eq_none hl] at h

theorem OwnV.keep {S : Nat → Prop} {w w' : World} {g : Nat} {vs : List Value} (h : OwnV w g vs) (k : Keep S w w') (hp : ¬ S g) : OwnV w' g vs := by
  have := h.lt
  simp only [OwnV] at h ⊢
  rw [k.block g this hp, h]

theorem OwnV.cell {w : World} {g : Nat} {vs : List Value} (h : OwnV w g vs) {i : Nat} {v : Value} (hi : vs[i]? = some v) : w.cell? ⟨g, i, none⟩ = some v := by
  simp only [OwnV] at h
  simp [World.cell?, h, hi]

def GrownV (w : World) (g : Nat) (vs : List Value) (k : Nat) : Prop := OwnV w g (vs ++ List.replicate k (.slice none 0 0))

theorem GrownV.keep {S : Nat → Prop} {w w' : World} {g k : Nat} {vs : List Value} (h : GrownV w g vs k) (kp : Keep S w w') (hp : ¬ S g) : GrownV w' g vs k := OwnV.keep h kp hp

theorem GrownV.cell {w : World} {g k : Nat} {vs : List Value} (h : GrownV w g vs k) {i : Nat} {v : Value} (hi : vs[i]? = some v) : w.cell? ⟨g, i, none⟩ = some v := by
  refine OwnV.cell h ?_
  rw [List.getElem?_append_left (List.getElem?_eq_some_iff.1 hi).1, hi]

theorem infoV : (Try.prog.info? 24).map (fun i => (i.zero, i.size, i.bytes)) = some (some (.slice none 0 0), 1, 24) := by kernel_rfl

theorem makeV (c : Nat) (h : c ≤ 1099511627776) (w : World) :
    (Instr.makeSlice 22 (.int .i64 0) (.int .i64 (c : Int))).run Try.prog w = .ok (.slice (some ⟨w.heap.size, 0, none⟩) 0 c) (w.alloc (.cells (madeCells #[.slice none 0 0] c) 24)) := by
  obtain ⟨i, hi, hz⟩ := Option.map_eq_some_iff.1 infoV
  simp only [Prod.mk.injEq] at hz
  obtain ⟨z1, z2, z3⟩ := hz
  have hr := run_make (P := Try.prog) w 22 24 i (.slice none 0 0) Try.underlying22 hi z1 .i64 .i64 0 (c : Int) (by omega) (by omega) (by rw [z3]; omega) (by omega)
  simp only [Int.toNat_natCast, z2, Nat.mul_one] at hr
  exact hr

theorem GrownV.made (w : World) (c : Nat) : GrownV (w.alloc (.cells (madeCells #[.slice none 0 0] c) 24)) w.heap.size [] c := by
  have e : madeCells #[Value.slice none 0 0] c = (List.replicate c (Value.slice none 0 0)).toArray := by
    apply Array.toList_inj.1
    rw [toList_madeCells_one]
  rw [e]
  show (w.heap.push _)[w.heap.size]? = _
  rw [Array.getElem?_push, if_pos rfl]
  rfl

/-- append(l, v), v one slice. -/
theorem pushV (g n k cap : Nat) (vs : List Value) (v : Value) (h1 : v.oneCell' = true) (w : World) (hn : vs.length = n) (hcap : n + (k + 1) = cap) (ho : GrownV w g vs (k + 1)) :
    ∃ w', (Builtin.append_ #[22, 22] 22 #[.slice (some ⟨g, 0, none⟩) n cap, .slice (some ⟨w.heap.size, 0, none⟩) 1 1]).run Try.prog (w.alloc (.cells #[v] 24)) = .ok (.slice (some ⟨g, 0, none⟩) (n + 1) cap) w' ∧ GrownV w' g (vs ++ [v]) k ∧ Keep (· = g) w w' ∧ w'.heap.size = w.heap.size + 1 := by
  obtain ⟨i, hi, hz⟩ := Option.map_eq_some_iff.1 infoV
  simp only [Prod.mk.injEq] at hz
  obtain ⟨z1, z2, z3⟩ := hz
  have hg := OwnV.lt ho
  have bm : Below w.heap.size w (w.alloc (.cells #[v] 24)) := (Below.refl _ _).alloc (Nat.le_refl _) _
  have ho2 : OwnV (w.alloc (.cells #[v] 24)) g (vs ++ List.replicate (k + 1) (.slice none 0 0)) := OwnV.keep (S := fun _ => False) ho (Keep.of_below bm (Nat.le_refl _)) (fun h => h)
  have hnew : OwnV (w.alloc (.cells #[v] 24)) w.heap.size [v] := by
    show (w.heap.push _)[w.heap.size]? = _
    rw [Array.getElem?_push, if_pos rfl]
  have hr := run_append_room (P := Try.prog) (w.alloc (.cells #[v] 24)) 22 22 24 i Try.underlying22 hi g n cap (vs ++ List.replicate (k + 1) (Value.slice none 0 0)).toArray ho2 ⟨w.heap.size, 0, none⟩ 1 1 [v] (by rw [z2]; rfl)
    (fun j u hu => by
      rw [Go.WideShapes.add_plain, Nat.zero_add]
      exact hnew.cell hu)
    (by simpa using h1) (by omega) (by rw [z2]; simp; omega)
  have e : ((vs ++ List.replicate (k + 1) (Value.slice none 0 0)).toArray.toList.take (n * i.size) ++ [v] ++ (vs ++ List.replicate (k + 1) (Value.slice none 0 0)).toArray.toList.drop (n * i.size + [v].length)).toArray = (vs ++ [v] ++ List.replicate k (Value.slice none 0 0)).toArray := by
    subst hn
    simp only [z2, Nat.mul_one, List.length_cons, List.length_nil]
    rw [List.take_left', List.drop_append, List.drop_eq_nil_of_le (by omega), show vs.length + 1 - vs.length = 1 by omega]
    · simp [List.replicate]
    · rfl
  rw [e] at hr
  refine ⟨_, hr, setRow_heap _ g _ _ 24 (0, 0) ho2, ⟨rfl, rfl, rfl, by simp [World.setRow], fun j hj hs => ?_⟩, by simp [World.setRow]⟩
  simp only [World.setRow, Array.getElem?_modify]
  rw [if_neg (fun h => hs h.symm)]
  exact bm.block j hj

/-- Too big, or one too big. -/
def Bigs (its : List Item) : Prop := (∃ it ∈ its, 4096 < Nm.tsize it.zs) ∨ Nm.pw 4096 ≤ tot its

/-- What is answered where P tells whether it is too big, T the number. -/
def Out (P : Prop) (T : Int) (f : Int) (os : List Int) : Prop := (P ∧ f = 2 ∧ os = []) ∨ (¬ P ∧ f = 0 ∧ Nm.tsize os = os.length ∧ Nm.val os = T)

theorem Out.unique {P : Prop} {T f f' : Int} {os os' : List Int} (h : Out P T f os) (h' : Out P T f' os') (hl : Nm.Limbs os) (hl' : Nm.Limbs os') : f' = f ∧ os' = os := by
  rcases h with ⟨a, rfl, rfl⟩ | ⟨a, rfl, b, c⟩ <;> rcases h' with ⟨a', rfl, rfl⟩ | ⟨a', rfl, b', c'⟩
  · exact ⟨rfl, rfl⟩
  · exact absurd a a'
  · exact absurd a' a
  · exact ⟨rfl, Nm.canon hl' hl b' b (c'.trans c.symm)⟩

theorem SumSays.out {w w' : World} {its : List Item} {e : Ending} (h : SumSays w its e w') :
    ∃ r os f, e = .returned (.tuple #[.slice r (List.length os) (List.length os), .int .i64 f]) ∧ Out (Bigs its) (tot its) f os ∧ Lies w' r os ∧ Nm.Limbs os ∧ (∀ a, r = some a → w.heap.size ≤ a.block) ∧ os.length ≤ 4096 ∧ (f = 0 ∨ f = 2) ∧ Below w.heap.size w w' := by
  obtain ⟨⟨hb, rfl⟩ | ⟨hb, r, os, rfl, hA⟩, hB⟩ := h
  · exact ⟨none, [], 2, rfl, .inl ⟨hb, rfl, rfl⟩, Lies.nil _ _, Nm.Limbs.nil, by simp, by simp, .inr rfl, hB⟩
  · refine ⟨r, os, 0, rfl, .inr ⟨?_, rfl, hA.2.2.1, hA.2.2.2.1⟩, hA.1, hA.2.1, hA.2.2.2.2, hA.small hb.2, .inl rfl, hB⟩
    rintro (⟨it, h1, h2⟩ | h)
    · have := hb.1 it h1; omega
    · have := hb.2; omega

theorem bigs_congr {a b : List Item} (h : ∀ zs, zs ∈ a.map Item.zs ↔ zs ∈ b.map Item.zs) (ht : tot a = tot b) : Bigs a ↔ Bigs b := by
  have key : ∀ {a b : List Item}, (∀ zs, zs ∈ a.map Item.zs ↔ zs ∈ b.map Item.zs) → (∃ it ∈ a, 4096 < Nm.tsize it.zs) → (∃ it ∈ b, 4096 < Nm.tsize it.zs) := by
    rintro a b h ⟨it, h1, h2⟩
    obtain ⟨it', h3, h4⟩ := List.mem_map.1 ((h it.zs).1 (List.mem_map.2 ⟨it, h1, rfl⟩))
    exact ⟨it', h3, by rw [h4]; exact h2⟩
  unfold Bigs
  rw [ht]
  exact or_congr ⟨key h, key (fun zs => (h zs).symm)⟩ Iff.rfl

def tz : List (List Int) → Int
  | [] => 0
  | zs :: r => Nm.val zs + tz r

theorem tot_map : ∀ its : List Item, tot its = tz (its.map Item.zs)
  | [] => rfl
  | it :: r => by simp only [tot, List.map_cons, tz, tot_map r]

theorem tot_congr {a b : List Item} (h : a.map Item.zs = b.map Item.zs) : tot a = tot b := by rw [tot_map, tot_map, h]
end Go.Proofs.Ytamlindelmfbiaa
