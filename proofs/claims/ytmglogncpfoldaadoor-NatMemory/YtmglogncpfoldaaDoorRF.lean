/-
  Texts put together: SumLaw1, OwN, NBx1, NMemA, NMemB, OpenList, OpenOps1, NMemC.
-/
import Derived.Test.YtmglogncpfoldaaDoorRefSum
import Derived.Laws.AppendOwn
import Derived.Laws.OwnMore
import Derived.OwnWalk
import Derived.Deep.LoopGhost
import Derived.Test.YtmglogncpfoldaaDoorRef1
import Derived.Test.YtmglogncpfoldaaDoorShA
import Derived.Laws.Bits64
import Derived.Test.YtmglogncpfoldaaDoorMem
import Derived.SizedLaws
import Derived.ProofKit
import Derived.BigQuiet
namespace Go.Proofs.YtmglogncpfoldaaDoor
open Go.RowKit Go.Deep

theorem drew_cell {w wr : World} (h : ∃ m, wr = w.drewN m) (p : Addr) : wr.cell? p = w.cell? p := by
  obtain ⟨m, rfl⟩ := h
  rfl

theorem drew_more {w wr : World} (h : ∃ m, wr = w.drewN m) (n : Nat) : ∃ m, wr.drewN n = w.drewN m := by
  obtain ⟨m, rfl⟩ := h
  exact ⟨m + n, World.drewN_drewN _ _ _⟩

set_option maxHeartbeats 1000000 in
theorem refSame_drew (p q : Option Addr) (n cap m cap' : Nat) (zs ys : List Int) (w : World) (ha : Arg w p n cap zs) (hb : Arg w q m cap' ys) :
    Calls Tryd.prog 11 #[.slice p n cap, .slice q m cap'] w fun e w' => e = .returned (.bool (decide (zs = ys))) ∧ ∃ m, w' = w.drewN m := by
  obtain ⟨a1, a2, a3, a4, a5⟩ := ha
  obtain ⟨b1, b2, b3, b4, b5⟩ := hb
  by_cases h1 : n = m
  · subst h1
    by_cases h0 : n = 0
    · subst h0
      have E : Hid (decide (zs = ys) = true) := by
        have e1 : zs = [] := List.eq_nil_of_length_eq_zero a1
        have e2 : ys = [] := List.eq_nil_of_length_eq_zero b1
        simp [Hid, e1, e2]
      clear a1 b1 a4 b4 a5 b5
      go_enter Tryd.func11, Tryd.ntmps11
      go_wp2_with fail
      refine wp_loop_rounds 1 ?_
      rw [rounds_succ]
      go_wp2
      go_ret
      exact ⟨ret_bool E.out.symm, ⟨0, rfl⟩⟩
    · obtain ⟨b, off, rfl, hbw, HC⟩ := a4.at (by omega)
      obtain ⟨b', off', rfl, hbw', HC'⟩ := b4.at (by omega)
      have A1 := hid a1
      have B1 := hid b1
      clear a1 b1 a4 b4 a5 b5
      go_enter Tryd.func11, Tryd.ntmps11
      go_wp2_with fail
      go_loopw [5] (fun i wr => ∃ j : Nat, j ≤ n ∧ i = .int .i64 j ∧ Hid (∀ t, t < j → zs.getD t 0 = ys.getD t 0) ∧ ∃ m, wr = w.drewN m) (fun i _ => n - (intOf i).toNat)
      case atStart => exact ⟨0, Nat.zero_le _, rfl, fun t ht => by omega, ⟨0, rfl⟩⟩
      case round =>
        obtain ⟨j, hj, rfl, hE, hB⟩ := hrel
        by_cases hlt : j < n
        · obtain ⟨x, hx, X⟩ : ∃ x, wr.cell? ⟨b, off + j, none⟩ = some (.int .u64 x) ∧ Hid (x = zs.getD j 0) := ⟨_, (drew_cell hB ⟨b, off + j, none⟩).trans (HC.out j (by have := A1.out; omega)), rfl⟩
          obtain ⟨y, hy, Y⟩ : ∃ y, wr.cell? ⟨b', off' + j, none⟩ = some (.int .u64 y) ∧ Hid (y = ys.getD j 0) := ⟨_, (drew_cell hB ⟨b', off' + j, none⟩).trans (HC'.out j (by have := B1.out; omega)), rfl⟩
          have HB := hid hB
          clear hB
          have hlt' : (j : Int) < (n : Int) := by omega
          by_cases hxy : x = y
          · have hxy' : (x != y) = false := by simp [hxy]
            have HXY := hid hxy
            clear hxy
            go_wp2_with fail
            go_quiet (fail)
            go_wp2
            go_roundw
            case rel =>
              refine ⟨j + 1, by omega, by go_num, fun i hi => ?_, drew_more HB.out _⟩
              by_cases e : i = j
              · subst e; rw [← X.out, ← Y.out]; exact HXY.out
              · exact hE.out i (by omega)
            case measure => simp [intOf]; omega
          · have hxy' : (x != y) = true := by simp [hxy]
            have E : Hid (decide (zs = ys) = false) := by
              simp only [Hid, decide_eq_false_iff_not]
              intro e
              rw [e] at X
              exact hxy (X.out.trans Y.out.symm)
            clear hxy
            go_wp2_with fail
            go_quiet (fail)
            go_wp2
            go_ret
            exact ⟨ret_bool E.out.symm, drew_more HB.out _⟩
        · have HB := hid hB
          clear hB
          have E : Hid (decide (zs = ys) = true) := by
            simp only [Hid, decide_eq_true_eq]
            apply List.ext_getElem (by rw [A1.out, B1.out])
            intro i h1 h2
            have := hE.out i (by have := A1.out; omega)
            simpa [List.getD, h1, h2] using this
          go_wp2
          go_ret
          exact ⟨ret_bool E.out.symm, HB.out⟩
  · have h1' : ((n : Int) != (m : Int)) = true := by rw [bne_iff_ne]; omega
    have E : Hid (decide (zs = ys) = false) := by
      simp only [Hid, decide_eq_false_iff_not]
      intro e
      rw [e] at a1
      omega
    clear a1 b1
    go_enter Tryd.func11, Tryd.ntmps11
    go_wp2_with fail
    go_ret
    exact ⟨ret_bool E.out.symm, ⟨0, rfl⟩⟩



theorem refSame_drew_is (s : Bool) (p q : Option Addr) (n cap m cap' : Nat) (zs ys : List Int) (w : World) (ha : Arg w p n cap zs) (hb : Arg w q m cap' ys) (hs : decide (zs = ys) = s) :
    Calls Tryd.prog 11 #[.slice p n cap, .slice q m cap'] w fun e w' => e = .returned (.bool s) ∧ ∃ m, w' = w.drewN m := by
  rw [← hs]
  exact refSame_drew p q n cap m cap' zs ys w ha hb

/-- Only blocks of S have been written, of those that were there. -/
structure Keep (S : Nat → Prop) (w w' : World) : Prop where
  os : w'.os = w.os
  tape : w'.tape = w.tape
  output : w'.output = w.output
  size : w.heap.size ≤ w'.heap.size
  block : ∀ b, b < w.heap.size → ¬ S b → w'.heap[b]? = w.heap[b]?

theorem Keep.refl (S : Nat → Prop) (w : World) : Keep S w w := ⟨rfl, rfl, rfl, Nat.le_refl _, fun _ _ _ => rfl⟩
theorem Keep.trans {S : Nat → Prop} {a b c : World} (h : Keep S a b) (k : Keep S b c) : Keep S a c :=
  ⟨k.os.trans h.os, k.tape.trans h.tape, k.output.trans h.output, Nat.le_trans h.size k.size, fun i hi hs => (k.block i (Nat.lt_of_lt_of_le hi h.size) hs).trans (h.block i hi hs)⟩
theorem Keep.mono {S T : Nat → Prop} {a b : World} (h : Keep S a b) (hst : ∀ b, S b → T b) : Keep T a b := ⟨h.os, h.tape, h.output, h.size, fun i hi hs => h.block i hi (fun k => hs (hst i k))⟩
theorem Keep.of_below {S : Nat → Prop} {B : Nat} {a b : World} (h : Below B a b) (hB : a.heap.size ≤ B) : Keep S a b := ⟨h.os, h.tape, h.output, h.size, fun i hi _ => h.block i (by omega)⟩
theorem Keep.below {S : Nat → Prop} {B : Nat} {a b : World} (h : Keep S a b) (hS : ∀ b, S b → B ≤ b) (hB : B ≤ a.heap.size) : Below B a b := ⟨h.os, h.tape, h.output, h.size, fun i hi => h.block i (by omega) (fun k => by have := hS i k; omega)⟩
theorem Keep.drewN {S : Nat → Prop} {a b : World} (h : Keep S a b) (n : Nat) : Keep S a (b.drewN n) := ⟨h.os, h.tape, h.output, h.size, h.block⟩
theorem Keep.cell {S : Nat → Prop} {a b : World} (h : Keep S a b) {p : Addr} {v : Value} (hc : a.cell? p = some v) (hs : ¬ S p.block) : b.cell? p = some v := by
  have hl := cell_lt hc
  have e := h.block p.block hl hs
  rw [← hc]
  unfold World.cell?
  rw [e]

theorem Lies.keep {S : Nat → Prop} {w w' : World} {p : Option Addr} {zs : List Int} (h : Lies w p zs) (k : Keep S w w') (hp : ∀ a, p = some a → ¬ S a.block) : Lies w' p zs := by
  rcases h with rfl | ⟨b, off, rfl, h⟩
  · exact .inl rfl
  · exact .inr ⟨b, off, rfl, fun i hi => k.cell (h i hi) (hp ⟨b, off, none⟩ rfl)⟩

theorem Arg.keep {S : Nat → Prop} {w w' : World} {p : Option Addr} {n cap : Nat} {zs : List Int} (h : Arg w p n cap zs) (k : Keep S w w') (hp : ∀ a, p = some a → ¬ S a.block) : Arg w' p n cap zs :=
  ⟨h.1, h.2.1, h.2.2.1, h.2.2.2.1.keep k hp, h.2.2.2.2⟩

theorem Own.keep {S : Nat → Prop} {w w' : World} {g : Nat} {zs : List Int} (h : Own w g zs) (k : Keep S w w') (hp : ¬ S g) : Own w' g zs := by
  have := h.lt
  simp only [Own] at h ⊢
  rw [k.block g this hp, h]

/-- A row of slices in a block of its own. -/
def OwnV (w : World) (g : Nat) (vs : List Value) : Prop := w.heap[g]? = some (.cells vs.toArray 27 (0, 0))

theorem OwnV.lt {w : World} {g : Nat} {vs : List Value} (h : OwnV w g vs) : g < w.heap.size := by
  rcases Nat.lt_or_ge g w.heap.size with hl | hl
  · exact hl
  · simp [OwnV, Array.getElem?_eq_none hl] at h

theorem OwnV.keep {S : Nat → Prop} {w w' : World} {g : Nat} {vs : List Value} (h : OwnV w g vs) (k : Keep S w w') (hp : ¬ S g) : OwnV w' g vs := by
  have := h.lt
  simp only [OwnV] at h ⊢
  rw [k.block g this hp, h]

theorem OwnV.cell {w : World} {g : Nat} {vs : List Value} (h : OwnV w g vs) {i : Nat} {v : Value} (hi : vs[i]? = some v) : w.cell? ⟨g, i, none⟩ = some v := by
  simp only [OwnV] at h
  simp [World.cell?, h, hi]

def GrownV (w : World) (g : Nat) (vs : List Value) (k : Nat) : Prop := OwnV w g (vs ++ List.replicate k (.slice none 0 0))

theorem GrownV.keep {S : Nat → Prop} {w w' : World} {g k : Nat} {vs : List Value} (h : GrownV w g vs k) (kp : Keep S w w') (hp : ¬ S g) : GrownV w' g vs k := OwnV.keep h kp hp

theorem GrownV.cell {w : World} {g k : Nat} {vs : List Value} (h : GrownV w g vs k) {i : Nat} {v : Value} (hi : vs[i]? = some v) : w.cell? ⟨g, i, none⟩ = some v := by
  refine OwnV.cell h ?_
  rw [List.getElem?_append_left (List.getElem?_eq_some_iff.1 hi).1, hi]

theorem infoV : (Tryd.prog.info? 27).map (fun i => (i.zero, i.size, i.bytes)) = some (some (.slice none 0 0), 1, 24) := by kernel_rfl

theorem makeV (c : Nat) (h : c ≤ 1099511627776) (w : World) :
    (Instr.makeSlice 25 (.int .i64 0) (.int .i64 (c : Int))).run Tryd.prog w = .ok (.slice (some ⟨w.heap.size, 0, none⟩) 0 c) (w.alloc (.cells (madeCells #[.slice none 0 0] c) 27)) := by
  obtain ⟨i, hi, hz⟩ := Option.map_eq_some_iff.1 infoV
  simp only [Prod.mk.injEq] at hz
  obtain ⟨z1, z2, z3⟩ := hz
  have hr := run_make (P := Tryd.prog) w 25 27 i (.slice none 0 0) Tryd.underlying25 hi z1 .i64 .i64 0 (c : Int) (by omega) (by omega) (by rw [z3]; omega) (by omega)
  simp only [Int.toNat_natCast, z2, Nat.mul_one] at hr
  exact hr

theorem GrownV.made (w : World) (c : Nat) : GrownV (w.alloc (.cells (madeCells #[.slice none 0 0] c) 27)) w.heap.size [] c := by
  have e : madeCells #[Value.slice none 0 0] c = (List.replicate c (Value.slice none 0 0)).toArray := by
    apply Array.toList_inj.1
    rw [toList_madeCells_one]
  rw [e]
  show (w.heap.push _)[w.heap.size]? = _
  rw [Array.getElem?_push, if_pos rfl]
  rfl

/-- append(l, v), v one slice. -/
theorem pushV (g n k cap : Nat) (vs : List Value) (v : Value) (h1 : v.oneCell' = true) (w : World) (hn : vs.length = n) (hcap : n + (k + 1) = cap) (ho : GrownV w g vs (k + 1)) :
    ∃ w', (Builtin.append_ #[25, 25] 25 #[.slice (some ⟨g, 0, none⟩) n cap, .slice (some ⟨w.heap.size, 0, none⟩) 1 1]).run Tryd.prog (w.alloc (.cells #[v] 27)) = .ok (.slice (some ⟨g, 0, none⟩) (n + 1) cap) w' ∧ GrownV w' g (vs ++ [v]) k ∧ Keep (· = g) w w' ∧ w'.heap.size = w.heap.size + 1 := by
  obtain ⟨i, hi, hz⟩ := Option.map_eq_some_iff.1 infoV
  simp only [Prod.mk.injEq] at hz
  obtain ⟨z1, z2, z3⟩ := hz
  have hg := OwnV.lt ho
  have bm : Below w.heap.size w (w.alloc (.cells #[v] 27)) := (Below.refl _ _).alloc (Nat.le_refl _) _
  have ho2 : OwnV (w.alloc (.cells #[v] 27)) g (vs ++ List.replicate (k + 1) (.slice none 0 0)) := OwnV.keep (S := fun _ => False) ho (Keep.of_below bm (Nat.le_refl _)) (fun h => h)
  have hnew : OwnV (w.alloc (.cells #[v] 27)) w.heap.size [v] := by
    show (w.heap.push _)[w.heap.size]? = _
    rw [Array.getElem?_push, if_pos rfl]
  have hr := run_append_room (P := Tryd.prog) (w.alloc (.cells #[v] 27)) 25 25 27 i Tryd.underlying25 hi g n cap (vs ++ List.replicate (k + 1) (Value.slice none 0 0)).toArray ho2 ⟨w.heap.size, 0, none⟩ 1 1 [v] (by rw [z2]; rfl)
    (fun j u hu => by
      rw [Go.WideShapes.add_plain, Nat.zero_add]
      exact hnew.cell hu)
    (by simpa using h1) (by omega) (by rw [z2]; simp; omega)
  have e : ((vs ++ List.replicate (k + 1) (Value.slice none 0 0)).toArray.toList.take (n * i.size) ++ [v] ++ (vs ++ List.replicate (k + 1) (Value.slice none 0 0)).toArray.toList.drop (n * i.size + [v].length)).toArray = (vs ++ [v] ++ List.replicate k (Value.slice none 0 0)).toArray := by
    subst hn
    simp only [z2, Nat.mul_one, List.length_cons, List.length_nil]
    rw [List.take_left', List.drop_append, List.drop_eq_nil_of_le (by omega), show vs.length + 1 - vs.length = 1 by omega]
    · simp [List.replicate]
    · rfl
  rw [e] at hr
  refine ⟨_, hr, setRow_heap _ g _ _ 27 (0, 0) ho2, ⟨rfl, rfl, rfl, by simp [World.setRow], fun j hj hs => ?_⟩, by simp [World.setRow]⟩
  simp only [World.setRow, Array.getElem?_modify]
  rw [if_neg (fun h => hs h.symm)]
  exact bm.block j hj

/-- Too big, or one too big. -/
def Bigs (its : List Item) : Prop := (∃ it ∈ its, 4096 < Nm.tsize it.zs) ∨ Nm.pw 4096 ≤ tot its

/-- What is answered where P tells whether it is too big, T the number. -/
def Out (P : Prop) (T : Int) (f : Int) (os : List Int) : Prop := (P ∧ f = 2 ∧ os = []) ∨ (¬ P ∧ f = 0 ∧ Nm.tsize os = os.length ∧ Nm.val os = T)

theorem Out.unique {P : Prop} {T f f' : Int} {os os' : List Int} (h : Out P T f os) (h' : Out P T f' os') (hl : Nm.Limbs os) (hl' : Nm.Limbs os') : f' = f ∧ os' = os := by
  rcases h with ⟨a, rfl, rfl⟩ | ⟨a, rfl, b, c⟩ <;> rcases h' with ⟨a', rfl, rfl⟩ | ⟨a', rfl, b', c'⟩
  · exact ⟨rfl, rfl⟩
  · exact absurd a a'
  · exact absurd a' a
  · exact ⟨rfl, Nm.canon hl' hl b' b (c'.trans c.symm)⟩

theorem SumSays.out {w w' : World} {its : List Item} {e : Ending} (h : SumSays w its e w') :
    ∃ r os f, e = .returned (.tuple #[.slice r (List.length os) (List.length os), .int .i64 f]) ∧ Out (Bigs its) (tot its) f os ∧ Lies w' r os ∧ Nm.Limbs os ∧ (∀ a, r = some a → w.heap.size ≤ a.block) ∧ os.length ≤ 4096 ∧ (f = 0 ∨ f = 2) ∧ Below w.heap.size w w' := by
  obtain ⟨⟨hb, rfl⟩ | ⟨hb, r, os, rfl, hA⟩, hB⟩ := h
  · exact ⟨none, [], 2, rfl, .inl ⟨hb, rfl, rfl⟩, Lies.nil _ _, Nm.Limbs.nil, by simp, by simp, .inr rfl, hB⟩
  · refine ⟨r, os, 0, rfl, .inr ⟨?_, rfl, hA.2.2.1, hA.2.2.2.1⟩, hA.1, hA.2.1, fun a h => (hA.2.2.2.2 a h).1, hA.small hb.2, .inl rfl, hB⟩
    rintro (⟨it, h1, h2⟩ | h)
    · have := hb.1 it h1; omega
    · have := hb.2; omega

theorem bigs_congr {a b : List Item} (h : ∀ zs, zs ∈ a.map Item.zs ↔ zs ∈ b.map Item.zs) (ht : tot a = tot b) : Bigs a ↔ Bigs b := by
  have key : ∀ {a b : List Item}, (∀ zs, zs ∈ a.map Item.zs ↔ zs ∈ b.map Item.zs) → (∃ it ∈ a, 4096 < Nm.tsize it.zs) → (∃ it ∈ b, 4096 < Nm.tsize it.zs) := by
    rintro a b h ⟨it, h1, h2⟩
    obtain ⟨it', h3, h4⟩ := List.mem_map.1 ((h it.zs).1 (List.mem_map.2 ⟨it, h1, rfl⟩))
    exact ⟨it', h3, by rw [h4]; exact h2⟩
  unfold Bigs
  rw [ht]
  exact or_congr ⟨key h, key (fun zs => (h zs).symm)⟩ Iff.rfl

def tz : List (List Int) → Int
  | [] => 0
  | zs :: r => Nm.val zs + tz r

theorem tot_map : ∀ its : List Item, tot its = tz (its.map Item.zs)
  | [] => rfl
  | it :: r => by simp only [tot, List.map_cons, tz, tot_map r]

theorem tot_congr {a b : List Item} (h : a.map Item.zs = b.map Item.zs) : tot a = tot b := by rw [tot_map, tot_map, h]
end Go.Proofs.YtmglogncpfoldaaDoor

namespace Go.Proofs.YtmglogncpfoldaaDoor
open Go Go.RowKit Go.Deep

namespace Re
/-- The cells of a list. -/
def fl {α : Type} (enc : α → List Value) (D : List α) : List Value := D.flatMap enc
section
variable {α : Type} {enc : α → List Value} {k : Nat} (hk : ∀ x, (enc x).length = k)
include hk
theorem fl_len (D : List α) : (fl enc D).length = D.length * k := by
  induction D with
  | nil => simp [fl]
  | cons x D ih => rw [fl, List.flatMap_cons, List.length_append, hk, ← fl, ih, List.length_cons, Nat.add_mul, Nat.one_mul, Nat.add_comm]
theorem fl_at : ∀ {D : List α} {i : Nat} {a : α}, D[i]? = some a → ∀ j, j < k → (fl enc D)[i * k + j]? = (enc a)[j]?
  | [], i, a, h, _, _ => by simp at h
  | b :: D, 0, a, h, j, hj => by
    obtain rfl : b = a := Option.some.inj h
    rw [fl, List.flatMap_cons, List.getElem?_append_left (by rw [hk]; omega)]
    simp
  | b :: D, i + 1, a, h, j, hj => by
    rw [fl, List.flatMap_cons, List.getElem?_append_right (by rw [hk, Nat.add_mul]; omega), ← fl]
    rw [← fl_at (D := D) (i := i) (a := a) (by simpa using h) j hj]
    congr 1
    rw [hk, Nat.add_mul]
    omega
end
/-- A row of our own, of things of k cells. -/
def Ow {α : Type} (enc : α → List Value) (t k base : Nat) (w : World) (mv : Value) (D : List α) : Prop := w.ownsRow base t k mv D.length (fl enc D)
section
variable {α : Type} {enc : α → List Value} {t k base : Nat}
theorem Ow.below {w w' : World} {mv : Value} {D : List α} (h : Ow enc t k base w mv D) (hb : Below w.heap.size w w') : Ow enc t k base w' mv D :=
  World.ownsRow.kept (row := none) h ⟨hb.os, hb.tape, hb.output, hb.size, fun j hj _ => hb.block j hj⟩ (by cases h : Value.ownBlock mv <;> simp)
theorem Ow.keep {S : Nat → Prop} {w w' : World} {mv : Value} {D : List α} (h : Ow enc t k base w mv D) (hb : Keep S w w') (hs : ∀ g, mv.ownBlock = some g → ¬ S g) : Ow enc t k base w' mv D := by
  obtain ⟨h1, h2⟩ := h
  refine ⟨h1, ?_⟩
  rcases h2 with h2 | ⟨g, cap, cur, e1, e2, e3, e4⟩
  · exact .inl h2
  · refine .inr ⟨g, cap, cur, e1, e2, ?_, e4⟩
    have hg : g < w.heap.size := by
      rcases Nat.lt_or_ge g w.heap.size with hl | hl
      · exact hl
      · simp [Array.getElem?_eq_none hl] at e3
    rw [hb.block g hg (hs g (by rw [e1]; rfl))]
    exact e3
theorem Ow.nil (w : World) : Ow enc t k base w (.slice none 0 0) [] := World.ownsRow_nil _ _ _ _
theorem Ow.shape {w : World} {mv : Value} {D : List α} (h : Ow enc t k base w mv D) : (∃ cap, mv = .slice none 0 cap ∧ D = []) ∨ ∃ g cap, mv = .slice (some ⟨g, 0, none⟩) D.length cap ∧ base ≤ g ∧ g < w.heap.size ∧ D.length ≤ cap ∧ cap ≤ maxLen := by
  rcases h.2 with ⟨rfl, hn⟩ | ⟨g, cp, cur, rfl, hb, hg, hc, hm, _⟩
  · exact .inl ⟨0, rfl, List.eq_nil_of_length_eq_zero hn⟩
  · refine .inr ⟨g, cp, rfl, hb, ?_, hc, hm⟩
    rcases Nat.lt_or_ge g w.heap.size with hl | hl
    · exact hl
    · simp [Array.getElem?_eq_none hl] at hg
theorem Ow.cell (hk : ∀ x, (enc x).length = k) {w : World} {g n cap : Nat} {D : List α} (h : Ow enc t k base w (.slice (some ⟨g, 0, none⟩) n cap) D) {i : Nat} {a : α} (hi : D[i]? = some a) (j : Nat) (hj : j < k) (v : Value) (hv : (enc a)[j]? = some v) : w.cell? ⟨g, i * k + j, none⟩ = some v := by
  have e := fl_at hk hi j hj
  rw [hv] at e
  have := World.ownsRow.cells h (g := g) rfl (i * k + j) v e
  rwa [Go.WideShapes.add_plain, Nat.zero_add] at this
theorem Ow.take (hk : ∀ x, (enc x).length = k) {w : World} {g n cap : Nat} {D : List α} (h : Ow enc t k base w (.slice (some ⟨g, 0, none⟩) n cap) D) (m : Nat) (hm : m ≤ D.length) : Ow enc t k base w (.slice (some ⟨g, 0, none⟩) m cap) (D.take m) := by
  obtain ⟨h1, h2⟩ := h
  have lk : (D.take m).length = m := by rw [List.length_take]; omega
  have l2 := fl_len hk D
  have l3 := fl_len hk (D.take m)
  rw [lk] at l3
  refine ⟨by rw [lk]; exact l3, ?_⟩
  rcases h2 with ⟨e, _⟩ | ⟨g', cap', cur, e1, e2, e3, e4, e5, e6, e7⟩
  · simp at e
  · simp only [Value.slice.injEq, Option.some.injEq, Addr.mk.injEq] at e1
    obtain ⟨⟨e1, _⟩, _, e1'⟩ := e1
    subst e1 e1'
    refine .inr ⟨g, cap, cur, by rw [lk], e2, e3, by rw [lk]; omega, e5, e6, ?_⟩
    have mk : m * k ≤ D.length * k := Nat.mul_le_mul_right k hm
    have : cur.toList.take (m * k) = (fl enc D).take (m * k) := by rw [← e7, List.take_take]; congr 1; omega
    have q : (fl enc D).take (m * k) = fl enc (D.take m) := by
      have e : fl enc D = fl enc (D.take m) ++ fl enc (D.drop m) := by rw [fl, fl, fl, ← List.flatMap_append, List.take_append_drop]
      rw [e, List.take_append_of_le_length (by omega), List.take_of_length_le (by omega)]
    rw [lk, this, q]
/-- One more thing, put behind; it lies in a block of its own ahead of that. -/
theorem Ow.push (hk : ∀ x, (enc x).length = k) (h1 : ∀ x, ∀ v ∈ enc x, v.oneCell' = true) (k0 : 0 < k) {P : Program} (s : TypeId) (hu : P.underlying s = some (.slice t)) {z : Value} {bytes : Nat} (hinf : (P.info? t).map (fun i => (i.zero, i.size, i.bytes)) = some (some z, k, bytes)) (hby : bytes ≤ 64) (hzc : z.cells.size = k)
    {w : World} {mv : Value} {D : List α} (ho : Ow enc t k base w mv D) (x : α) (hn : D.length ≤ 1000000000000) (hb : base ≤ w.heap.size) :
    ∃ mv' w', (Builtin.append_ #[s, s] s #[mv, .slice (some ⟨w.heap.size, 0, none⟩) 1 1]).run P (w.alloc (.cells (enc x).toArray t)) = .ok mv' w' ∧ Ow enc t k base w' mv' (D ++ [x]) ∧ w.heap.size ≤ w'.heap.size ∧
      Below base w w' ∧ (∀ j, j < w.heap.size → some j ≠ mv.ownBlock → w'.heap[j]? = w.heap[j]?) := by
  obtain ⟨i, hi, hz⟩ := Option.map_eq_some_iff.1 hinf
  simp only [Prod.mk.injEq] at hz
  obtain ⟨z1, z2, z3⟩ := hz
  have bm : Below w.heap.size w (w.alloc (.cells (enc x).toArray t)) := (Below.refl _ _).alloc (Nat.le_refl _) _
  have hs : (w.alloc (.cells (enc x).toArray t)).heap.size = w.heap.size + 1 := World.size_alloc _ _
  have ho' := World.ownsRow.alloc ho (.cells (enc x).toArray t)
  have hcell : ∀ j u, (enc x)[j]? = some u → (w.alloc (.cells (enc x).toArray t)).cell? ⟨w.heap.size, j, none⟩ = some u := by
    intro j u hu
    have h0 : (w.alloc (.cells (enc x).toArray t)).heap[w.heap.size]? = some (.cells (enc x).toArray t (0, 0)) := heap_alloc_new w _
    simp only [World.cell?, h0]
    simpa using hu
  obtain ⟨v', w', hr, h1, h2, _⟩ := run_append_own (P := P) (w.alloc (.cells (enc x).toArray t)) base s s t i _ k bytes hu hi z1 z2 z3 hzc (by omega) mv D.length (fl enc D) ho'
    ⟨w.heap.size, 0, none⟩ 1 1 (enc x) (by rw [hk]; omega) (fun j u hu => by
      rw [Go.WideShapes.add_plain, Nat.zero_add]
      exact hcell j u hu) (fun u hu => h1 x u hu) (by simp only [maxLen]; omega) (by
        have a1 : (D.length + 1) * bytes ≤ (D.length + 1) * 64 := Nat.mul_le_mul_left _ hby
        omega) (by rw [hs]; omega)
  refine ⟨v', w', hr, ?_, by have := h2.size; omega, ?_, fun j hj hne => ?_⟩
  · have e : fl enc (D ++ [x]) = fl enc D ++ enc x := by simp [fl]
    unfold Ow
    rw [e, List.length_append, List.length_singleton]
    exact h1
  · have hb2 : Below base (w.alloc (.cells (enc x).toArray t)) w' := by
      refine ⟨h2.os, h2.tape, h2.output, h2.size, fun j hj => h2.block j (by rw [hs]; omega) ?_⟩
      intro hk
      have := (ho'.lt j hk.symm).1
      omega
    exact (bm.mono hb).trans hb2
  · rw [h2.block j (by rw [hs]; omega) hne]; exact bm.block j hj
theorem Ow.push2 (hk : ∀ x, (enc x).length = k) (h1 : ∀ x, ∀ v ∈ enc x, v.oneCell' = true) (k0 : 0 < k) {P : Program} (s : TypeId) (hu : P.underlying s = some (.slice t)) {z : Value} {bytes : Nat} (hinf : (P.info? t).map (fun i => (i.zero, i.size, i.bytes)) = some (some z, k, bytes)) (hby : bytes ≤ 64) (hzc : z.cells.size = k)
    {w : World} {mv : Value} {D : List α} (ho : Ow enc t k base w mv D) (x : α) (hn : D.length ≤ 1000000000000) (hb : base ≤ w.heap.size) :
    ∃ mv' w', (Builtin.append_ #[s, s] s #[mv, .slice (some ⟨w.heap.size, 0, none⟩) 1 1]).run P (w.alloc (.cells (enc x).toArray t)) = .ok mv' w' ∧ Ow enc t k base w' mv' (D ++ [x]) ∧ w.heap.size ≤ w'.heap.size ∧
      Below base w w' ∧ (∀ j, j < w.heap.size → some j ≠ mv.ownBlock → w'.heap[j]? = w.heap[j]?) ∧ (∀ g, mv'.ownBlock = some g → mv.ownBlock = some g ∨ w.heap.size ≤ g) := by
  obtain ⟨mv', w', e1, e2, e3, e4, e5⟩ := ho.push hk h1 k0 s hu hinf hby hzc x hn hb
  refine ⟨mv', w', e1, e2, e3, e4, e5, ?_⟩
  intro g hg
  obtain ⟨i, hi, hz⟩ := Option.map_eq_some_iff.1 hinf
  simp only [Prod.mk.injEq] at hz
  obtain ⟨z1, z2, z3⟩ := hz
  have hs : (w.alloc (.cells (enc x).toArray t)).heap.size = w.heap.size + 1 := World.size_alloc _ _
  have hcell : ∀ j u, (enc x)[j]? = some u → (w.alloc (.cells (enc x).toArray t)).cell? ((⟨w.heap.size, 0, none⟩ : Addr).add j) = some u := by
    intro j u hu
    rw [Go.WideShapes.add_plain, Nat.zero_add]
    have h0 : (w.alloc (.cells (enc x).toArray t)).heap[w.heap.size]? = some (.cells (enc x).toArray t (0, 0)) := heap_alloc_new w _
    simp only [World.cell?, h0]
    simpa using hu
  have hby2 : (D.length + 1) * bytes ≤ (D.length + 1) * 64 := Nat.mul_le_mul_left _ hby
  have ho' := World.ownsRow.alloc ho (.cells (enc x).toArray t)
  rcases ho'.2 with ⟨rfl, h0⟩ | ⟨g', cap, cur, rfl, hbg, hgg, hnc, hcm, hcs, htake⟩
  · obtain ⟨v2, w2, r2, o2, _, _⟩ := run_append_own (P := P) (w.alloc (.cells (enc x).toArray t)) w.heap.size s s t i _ k bytes hu hi z1 z2 z3 hzc (by omega) (.slice none 0 0) 0 [] (World.ownsRow_nil _ _ _ _)
      ⟨w.heap.size, 0, none⟩ 1 1 (enc x) (by rw [hk]; omega) hcell (h1 x) (by simp only [maxLen]; omega) (by omega) (by rw [hs]; omega)
    rw [e1] at r2
    obtain ⟨rfl, rfl⟩ : mv' = v2 ∧ w' = w2 := by injection r2 with a b; exact ⟨a, b⟩
    exact .inr (o2.lt g hg).1
  · by_cases hroom : D.length + 1 ≤ cap
    · have hr := run_append_room (P := P) (w.alloc (.cells (enc x).toArray t)) s s t i hu hi g' D.length cap cur hgg ⟨w.heap.size, 0, none⟩ 1 1 (enc x) (by rw [z2, hk]; omega) hcell (h1 x) hroom (by
        rw [z2, hcs, hk]
        have := Nat.mul_le_mul_right k hroom
        rw [Nat.add_mul, Nat.one_mul] at this
        exact this)
      rw [e1] at hr
      injection hr with a b
      rw [a] at hg
      exact .inl hg
    · have hr := run_append_grow (P := P) (w.alloc (.cells (enc x).toArray t)) s s t i _ hu hi z1 ⟨g', 0, none⟩ D.length cap (fl enc D) (by rw [z2]; exact fl_len hk D) (ho'.cells (g := g') rfl) ⟨w.heap.size, 0, none⟩ 1 1 (enc x) (by rw [z2, hk]; omega) hcell (by omega) (by omega) (growslice_fits (by omega) (by rw [z3]; omega))
      rw [e1] at hr
      injection hr with a b
      rw [a] at hg
      simp only [Value.ownBlock, Option.some.injEq] at hg
      right
      omega
end
end Re
end Go.Proofs.YtmglogncpfoldaaDoor

/-
  Boxes (NLaw1's).
-/
namespace Go.Proofs.YtmglogncpfoldaaDoor
open Go Go.RowKit Go.Deep

/-- A box that holds these cells. -/
def Bx (w : World) (g : Nat) (t : Nat) (cs : Array Value) : Prop := w.heap[g]? = some (.cells cs t (0, 0))
theorem Bx.lt {w : World} {g t : Nat} {cs : Array Value} (h : Bx w g t cs) : g < w.heap.size := by
  rcases Nat.lt_or_ge g w.heap.size with c | c
  · exact c
  · simp [Bx, Array.getElem?_eq_none c] at h
theorem Bx.on {w w' : World} {g t : Nat} {cs : Array Value} (h : Bx w g t cs) (hB : Below w.heap.size w w') : Bx w' g t cs := by
  rw [Bx, hB.block g h.lt]; exact h
theorem Bx.set {w : World} {g t o : Nat} {cs : Array Value} (h : Bx w g t cs) (v : Value) : Bx (w.setCell ⟨g, o, none⟩ v) g t (cs.setIfInBounds o v) := by
  simp only [Bx] at *
  simp [World.setCell, Array.getElem?_modify, h]
theorem Bx.far {w : World} {g g' t o : Nat} {cs : Array Value} (h : Bx w g t cs) (ne : g' ≠ g) (v : Value) : Bx (w.setCell ⟨g', o, none⟩ v) g t cs := by
  simp only [Bx] at *
  simp [World.setCell, Array.getElem?_modify, ne, h]
theorem Bx.c6 {w : World} {g t : Nat} {v0 v1 v2 v3 v4 v5 : Value} (h : Bx w g t #[v0, v1, v2, v3, v4, v5]) : (w.cell? ⟨g, 0, none⟩ = some (v0) ∧ w.cell? ⟨g, 1, none⟩ = some (v1) ∧ w.cell? ⟨g, 2, none⟩ = some (v2) ∧ w.cell? ⟨g, 3, none⟩ = some (v3) ∧ w.cell? ⟨g, 4, none⟩ = some (v4) ∧ w.cell? ⟨g, 5, none⟩ = some (v5)) ∧ ∀ o, w.frozen? ⟨g, o, none⟩ = false := by
  simp only [Bx] at h
  refine ⟨⟨?_, ?_, ?_, ?_, ?_, ?_⟩, fun o => ?_⟩ <;> simp [World.cell?, World.frozen?, h]
theorem Bx.c5 {w : World} {g t : Nat} {v0 v1 v2 v3 v4 : Value} (h : Bx w g t #[v0, v1, v2, v3, v4]) : (w.cell? ⟨g, 0, none⟩ = some (v0) ∧ w.cell? ⟨g, 1, none⟩ = some (v1) ∧ w.cell? ⟨g, 2, none⟩ = some (v2) ∧ w.cell? ⟨g, 3, none⟩ = some (v3) ∧ w.cell? ⟨g, 4, none⟩ = some (v4)) := by
  simp only [Bx] at h
  refine ⟨?_, ?_, ?_, ?_, ?_⟩ <;> simp [World.cell?, h]
theorem Arg.setF {w : World} {p : Option Addr} {n cap : Nat} {zs : List Int} (h : Arg w p n cap zs) {g o : Nat} (hp : 0 < zs.length → ∀ a, p = some a → a.block ≠ g) (v : Value) : Arg (w.setCell ⟨g, o, none⟩ v) p n cap zs := by
  obtain ⟨h1, h2, h3, h4, h5⟩ := h
  refine ⟨h1, h2, h3, ?_, h5⟩
  rcases h4 with c | ⟨b, off, hp', hc⟩
  · exact .inl c
  · refine .inr ⟨b, off, hp', fun i hi => ?_⟩
    have ne : g ≠ b := fun e => hp (by omega) _ hp' e.symm
    have := hc i hi
    rw [World.cell?] at this ⊢
    simp only [World.setCell, Array.getElem?_modify]
    rw [if_neg ne]
    exact this
theorem alloc_b2 (w : World) (A : Obj) : Below w.heap.size w (w.alloc A) := Below.alloc (w := w) (Below.refl w.heap.size w) (Nat.le_refl _) A
theorem own_arg {w : World} {g n : Nat} {zs : List Int} (h : Own w g zs) (hl : zs.length = n) (hn : n ≤ 17592186044000) (hz : Nm.Limbs zs) : Arg w (some ⟨g, 0, none⟩) n n zs := ⟨hl, Nat.le_refl _, by omega, h.lies, hz⟩

end Go.Proofs.YtmglogncpfoldaaDoor

namespace Go.Proofs.YtmglogncpfoldaaDoor
open Go Go.RowKit Go.Deep

/-- The first k marks from f on. -/
def marks (f : Int) : Nat → List Int
  | 0 => []
  | k + 1 => marks f k ++ [7881706626762145792 + f + k]

theorem marks_length (f : Int) : ∀ k, (marks f k).length = k
  | 0 => rfl
  | k + 1 => by simp [marks, marks_length f k]

theorem marks_limbs (f : Int) (h0 : 0 ≤ f) (h1 : f ≤ 100) : ∀ k, k ≤ 40 → Nm.Limbs (marks f k)
  | 0, _ => Nm.Limbs.nil
  | k + 1, hk => (marks_limbs f h0 h1 k (by omega)).append (Nm.Limbs.mk (by omega) (by omega) Nm.Limbs.nil)

set_option maxRecDepth 100000 in
set_option maxHeartbeats 4000000 in
theorem behind_any (p : Option Addr) (n cap : Nat) (zs : List Int) (f : Int) (w : World) (ha : Arg w p n cap zs) (f0 : 0 ≤ f) (f1 : f ≤ 100) :
    Calls Tryd.prog 6 #[.slice p n cap, .int .u64 f] w fun e w' => e = .returned (.slice (some ⟨w.heap.size, 0, none⟩) (n + 40) (n + 40)) ∧ Own w' w.heap.size (zs ++ marks f 40) ∧ Below w.heap.size w w' := by
  obtain ⟨a1, a2, a3, a4, a5⟩ := ha
  have hmk := make64_room (n + 40) (by omega) w
  rw [show ((n + 40 : Nat) : Int) = (n : Int) + 40 by omega] at hmk
  have bm := (Below.refl w.heap.size w).alloc (Nat.le_refl _) (.cells (madeCells #[.int .u64 0] (n + 40)) 28)
  have gm : Own (w.alloc (.cells (madeCells #[.int .u64 0] (n + 40)) 28)) w.heap.size (List.replicate (n + 40) 0) := by rw [made_zero]; exact Own.alloc w _
  generalize w.alloc (.cells (madeCells #[.int .u64 0] (n + 40)) 28) = wm at hmk bm gm
  obtain ⟨w1, ap, ow, be, sz⟩ := append64 w.heap.size (n + 40) 0 (List.replicate (n + 40) 0) p n cap zs 27 wm (by simp) a1 (by omega) gm (a4.below bm (Nat.le_refl _))
  have GR : Hid (Grown w1 w.heap.size (zs ++ marks f 0) 40) := by
    have := ow
    simp only [List.take_zero, List.nil_append, Nat.zero_add, List.drop_replicate, Nat.add_sub_cancel_left] at this
    simp only [marks, List.append_nil]
    exact this
  have BE := hid (bm.trans be)
  rw [Nat.zero_add] at ap
  have AP := hid ap
  have LZ := hid a1
  clear ap ow be sz bm gm a1 a4 a5
  obtain ⟨g, hg⟩ : ∃ g, w.heap.size = g := ⟨_, rfl⟩
  rw [hg] at AP GR BE hmk ⊢
  go_enter Tryd.func6, Tryd.ntmps6
  go_wp2_with (at_builtin; refine wpList_append_row rfl _ _ rfl AP.out (by rfl) (by rfl) ?_; clear AP)
  go_loopw [5, 6] (fun l i wr => ∃ k : Nat, k ≤ 40 ∧ i = .int .u64 (k : Int) ∧ l = .slice (some ⟨g, 0, none⟩) (n + k) (n + 40) ∧ Hid (Grown wr g (zs ++ marks f k) (40 - k)) ∧ Hid (Below g w wr)) (fun _ i _ => 40 - (intOf i).toNat)
  case atStart => exact ⟨0, by omega, rfl, rfl, GR.out, BE.out⟩
  case round =>
    clear GR BE hmk
    obtain ⟨k, hk, rfl, rfl, G, BB⟩ := hrel
    by_cases he : k = 40
    · subst he
      have O : Hid (Own wr g (zs ++ marks f 40)) := by
        have := G.out
        rw [Grown, Nat.sub_self, List.replicate_zero, List.append_nil] at this
        exact this
      clear G
      go_wp2
      go_ret
      exact ⟨rfl, O.out, BB.out⟩
    · have hk40 : (k : Int) < 40 := by omega
      obtain ⟨x, hx⟩ : ∃ x, 7881706626762145792 + f + (k : Int) = x := ⟨_, rfl⟩
      have G2 := G.out
      rw [show 40 - k = (40 - (k + 1)) + 1 by omega] at G2
      obtain ⟨w2, ap, gr, be, sz⟩ := push64 g (n + k) (40 - (k + 1)) (n + 40) (zs ++ marks f k) x wr (by rw [List.length_append, marks_length, LZ.out]) (by omega) G2
      have GR : Hid (Grown w2 g (zs ++ marks f (k + 1)) (40 - (k + 1))) := by
        rw [marks, ← List.append_assoc, hx]
        exact gr
      have BE := hid (BB.out.trans be)
      have AP := hid ap
      have w1x : IntKind.u64.wrap (7881706626762145792 + f) = 7881706626762145792 + f := by rw [Sh.wrap_mod]; omega
      have w2x : IntKind.u64.wrap (7881706626762145792 + f + (k : Int)) = x := by rw [Sh.wrap_mod]; omega
      clear ap gr be sz G G2 BB hx
      go_wp2_with (at_builtin; refine wpList_append_row rfl _ _ rfl AP.out (by rfl) (by rfl) ?_; clear AP)
      go_roundw
      case rel => exact ⟨k + 1, by omega, by go_num, rfl, GR.out, BE.out⟩
      case measure => simp [intOf]; omega
end Go.Proofs.YtmglogncpfoldaaDoor

namespace Go.Proofs.YtmglogncpfoldaaDoor
open Go Go.RowKit Go.Deep

/-- A limb turned. -/
def xr (x : Int) : Int := bits .xor .u64 x 21845

theorem xr_bd (x : Int) (h0 : 0 ≤ x) (h1 : x < 18446744073709551616) : 0 ≤ xr x ∧ xr x < 18446744073709551616 := by
  obtain ⟨a, rfl⟩ : ∃ a : Nat, x = (a : Int) := ⟨x.toNat, by omega⟩
  have h := bits_xor_u64_nat a 21845 (by omega) (by omega)
  have e : xr (a : Int) = ((a ^^^ 21845 : Nat) : Int) := h
  have hlt : a ^^^ 21845 < 2 ^ 64 := Nat.xor_lt_two_pow (by omega) (by omega)
  rw [e]
  omega

/-- The first n limbs turned. -/
def tw (xs : List Int) : Nat → List Int
  | 0 => xs
  | n + 1 => (tw xs n).set n (xr (xs.getD n 0))

theorem tw_length (xs : List Int) : ∀ n, (tw xs n).length = xs.length
  | 0 => rfl
  | n + 1 => by rw [tw, List.length_set, tw_length xs n]

theorem tw_later (xs : List Int) : ∀ n k, n ≤ k → (tw xs n).getD k 0 = xs.getD k 0
  | 0, _, _ => rfl
  | n + 1, k, h => by
    have ih := tw_later xs n k (by omega)
    rw [tw, List.getD, List.getElem?_set, if_neg (by omega)]
    exact ih

theorem tw_limbs (xs : List Int) (h : Nm.Limbs xs) : ∀ n, Nm.Limbs (tw xs n)
  | 0 => h
  | n + 1 => by
    have b := xr_bd (xs.getD n 0) (h.at n).1 (h.at n).2
    exact (tw_limbs xs h n).set n b.1 b.2

set_option maxHeartbeats 1000000 in
theorem turned_any (g n c len : Nat) (xs : List Int) (w : World) (ho : Own w g xs) (hl : n ≤ len) (hx : len ≤ xs.length) (hb : xs.length ≤ 35184372088832) :
    Calls Tryd.prog 12 #[.slice (some ⟨g, 0, none⟩) len c, .int .i64 (n : Int)] w fun e w' => e = .returned (.tuple #[]) ∧ Own w' g (tw xs n) ∧ Below g w w' ∧ w'.heap.size = w.heap.size := by
  have I0 := hid ho
  clear ho
  go_enter Tryd.func12, Tryd.ntmps12
  go_wp2_with fail
  go_loopw [4] (fun i wr => ∃ k : Nat, k ≤ n ∧ i = .int .i64 (k : Int) ∧ Hid (Own wr g (tw xs k)) ∧ Hid (Below g w wr) ∧ Hid (wr.heap.size = w.heap.size)) (fun i _ => n - (intOf i).toNat)
  case atStart => exact ⟨0, by omega, rfl, I0.out, Below.refl _ _, rfl⟩
  case round =>
    clear I0
    obtain ⟨k, hk, rfl, O, BB, SZ⟩ := hrel
    by_cases he : k = n
    · subst he
      go_wp2
      go_end0
      exact ⟨rfl, O.out, BB.out, SZ.out⟩
    · have hkn : (k : Int) < (n : Int) := by omega
      have hkl : (k : Int) < (len : Int) := by omega
      obtain ⟨x, hx9⟩ : ∃ x, xs.getD k 0 = x := ⟨_, rfl⟩
      have hc : wr.cell? ⟨g, k, none⟩ = some (.int .u64 x) := by
        rw [← hx9, ← tw_later xs k k (Nat.le_refl _)]
        exact O.out.cell k (by rw [tw_length]; omega)
      have hf := O.out.free k
      obtain ⟨y, hy⟩ : ∃ y, bits .xor .u64 x 21845 = y := ⟨_, rfl⟩
      have O2 : Hid (Own (wr.setCell ⟨g, k, none⟩ (.int .u64 y)) g (tw xs (k + 1))) := by
        have := O.out.set k y
        rw [tw, hx9, xr, hy]
        exact this
      have B2 := hid (BB.out.setCell (p := ⟨g, k, none⟩) (Nat.le_refl _) (.int .u64 y))
      have S2 : Hid ((wr.setCell ⟨g, k, none⟩ (.int .u64 y)).heap.size = w.heap.size) := by
        have := SZ.out
        show _ = _
        rw [← this]
        simp [World.setCell]
      clear O BB SZ hx9
      go_wp2
      go_roundw
      case rel => exact ⟨k + 1, by omega, by go_num, O2.out, B2.out, S2.out⟩
      case measure => simp [intOf]; omega
end Go.Proofs.YtmglogncpfoldaaDoor

namespace Go.Proofs.YtmglogncpfoldaaDoor
open Go.RowKit Go.Deep Go.ChangeShapes Go.WideShapes Go.ChangeAt

/-- A list of limbs that was read, wherever it stands. -/
theorem open_list {H : Type} {enc : TypeId × Value → H} {W : World} {fuel : Nat} {c : Value} {y : DataW H × List MemPlace} (hf : DataW.trod enc Tryd.prog W 0 (fun _ => true) true fuel 27 [c] = some y)
    (hsz : ∀ n ∈ y.1.weights Tryd.prog 27, n ≤ reachBytes) : ∃ p n cap zs, c = .slice p n cap ∧ Arg W p n cap zs ∧ cap ≤ 17592186043904 := by
  rcases open_ints Tryd.underlying27 Tryd.underlying28 (by kernel_rfl) hf with ⟨hcs, _⟩ | ⟨x, l, cp, zs, hcs, _, hl, hm, hz, hx, hcell, hwz⟩
  · simp only [List.cons.injEq, and_true] at hcs
    exact ⟨none, 0, 0, [], hcs, ⟨rfl, Nat.le_refl _, by omega, Lies.nil _ _, Nm.Limbs.nil⟩, by omega⟩
  · simp only [List.cons.injEq, and_true] at hcs
    have hz' : zs.length = cp := by simpa using hz
    have hr := hsz (((lits (H := H) .u64 (zs.take l)).length + (lits (H := H) .u64 (zs.drop l)).length) * Tryd.prog.bytesOf 28) (by rw [hx]; simp [DataW.weights, Tryd.underlying27])
    rw [show Tryd.prog.bytesOf 28 = 8 by kernel_rfl] at hr
    simp only [lits, List.length_map, List.length_take, List.length_drop, reachBytes] at hr
    have hb : cp ≤ 17592186043904 := by omega
    exact ⟨some x, l, cp, _, hcs, arg_open hl hz' hb hcell hwz, hb⟩

theorem all_mem {H : Type} {P : Program} {e : TypeId} : ∀ {l : List (DataW H)} {d : DataW H}, d ∈ l → ∀ n ∈ d.weights P e, n ∈ DataW.weightsAll P e l
  | [], _, h, _, _ => by simp at h
  | x :: r, d, h, n, hn => by
    simp only [DataW.weightsAll, List.mem_append]
    rcases List.mem_cons.1 h with rfl | h
    · exact .inl hn
    · exact .inr (all_mem h n hn)

/-- What can be told of each place can be told of a list. -/
theorem list_of_each {α : Type} {Q : Nat → α → Prop} : ∀ n, (∀ i, i < n → ∃ x, Q i x) → ∃ l : List α, l.length = n ∧ ∀ i x, l[i]? = some x → Q i x
  | 0, _ => ⟨[], rfl, by simp⟩
  | n + 1, h => by
    obtain ⟨l, h1, h2⟩ := list_of_each n (fun i hi => h i (by omega))
    obtain ⟨x, hx⟩ := h n (by omega)
    refine ⟨l ++ [x], by simp [h1], fun i y hy => ?_⟩
    by_cases hi : i < l.length
    · rw [List.getElem?_append_left hi] at hy
      exact h2 i y hy
    · have hlt := (List.getElem?_eq_some_iff.1 hy).1
      simp only [List.length_append, List.length_cons, List.length_nil] at hlt
      obtain rfl : i = n := by omega
      rw [List.getElem?_append_right (by omega), h1, Nat.sub_self] at hy
      simp at hy
      subst hy
      exact hx
end Go.Proofs.YtmglogncpfoldaaDoor

namespace Go.Proofs.YtmglogncpfoldaaDoor
open Go.RowKit Go.Deep Go.ChangeShapes Go.WideShapes Go.ChangeAt

/-- A call that was read. -/
structure E1 where
  K : Int
  M : Int
  C : Int
  N : Int
  p1 : Option Addr
  n1 : Nat
  c1 : Nat
  z1 : List Int
  p2 : Option Addr
  n2 : Nat
  c2 : Nat
  z2 : List Int

/-- Its cells stand there. -/
def E1.Cells (w : World) (b o : Nat) (it : E1) : Prop :=
  w.cell? ⟨b, o, none⟩ = some (.int .i64 it.K) ∧ w.cell? ⟨b, o + 1, none⟩ = some (.slice it.p1 it.n1 it.c1) ∧ w.cell? ⟨b, o + 2, none⟩ = some (.slice it.p2 it.n2 it.c2) ∧ w.cell? ⟨b, o + 3, none⟩ = some (.int .u64 it.M) ∧ w.cell? ⟨b, o + 4, none⟩ = some (.int .u64 it.C) ∧ w.cell? ⟨b, o + 5, none⟩ = some (.int .i64 it.N)

def E1.Bd (w : World) (it : E1) : Prop := (0 ≤ it.M ∧ it.M < 18446744073709551616) ∧ (0 ≤ it.C ∧ it.C < 18446744073709551616) ∧ it.N ≤ 9223372036854775807 ∧ Arg w it.p1 it.n1 it.c1 it.z1 ∧ Arg w it.p2 it.n2 it.c2 it.z2

def E1.Holds (w : World) (a : Option Addr) (its : List E1) : Prop := its = [] ∨ ∃ b off, a = some ⟨b, off, none⟩ ∧ ∀ i it, its[i]? = some it → E1.Cells w b (off + i * 6) it

theorem list6o {α : Type} {l : List α} (h : l.length = 6) : ∃ a0 a1 a2 a3 a4 a5, l = [a0, a1, a2, a3, a4, a5] := by
  match l, h with
  | [a0, a1, a2, a3, a4, a5], _ => exact ⟨a0, a1, a2, a3, a4, a5, rfl⟩

theorem open_op1 {H : Type} {enc : TypeId × Value → H} {W : World} {fuel : Nat} {a0 a1 a2 a3 a4 a5 : Value} {y : DataW H × List MemPlace} (hf : DataW.trod enc Tryd.prog W 0 (fun _ => true) true fuel 30 [a0, a1, a2, a3, a4, a5] = some y)
    (hsz : ∀ n ∈ y.1.weights Tryd.prog 30, n ≤ reachBytes) : ∃ it : E1, a0 = .int .i64 it.K ∧ a1 = .slice it.p1 it.n1 it.c1 ∧ a2 = .slice it.p2 it.n2 it.c2 ∧ a3 = .int .u64 it.M ∧ a4 = .int .u64 it.C ∧ a5 = .int .i64 it.N ∧ it.Bd W := by
  obtain ⟨xs, n, _, hx, _, hlen, hfs⟩ := DataW.trod_struct Tryd.underlying30 hf
  obtain ⟨y0, y1, y2, y3, y4, y5, rfl⟩ := list6o hlen
  have ci : Tryd.prog.cellsOf 3 = 1 := by kernel_rfl
  have cu : Tryd.prog.cellsOf 28 = 1 := by kernel_rfl
  have cs : Tryd.prog.cellsOf 27 = 1 := by kernel_rfl
  have f0 : DataW.trod enc Tryd.prog W 0 (fun _ => true) true n 3 [a0] = some y0 := by simpa [ci, cu, cs] using hfs 0 _ rfl
  have f1 : DataW.trod enc Tryd.prog W 0 (fun _ => true) true n 27 [a1] = some y1 := by simpa [ci, cu, cs] using hfs 1 _ rfl
  have f2 : DataW.trod enc Tryd.prog W 0 (fun _ => true) true n 27 [a2] = some y2 := by simpa [ci, cu, cs] using hfs 2 _ rfl
  have f3 : DataW.trod enc Tryd.prog W 0 (fun _ => true) true n 28 [a3] = some y3 := by simpa [ci, cu, cs] using hfs 3 _ rfl
  have f4 : DataW.trod enc Tryd.prog W 0 (fun _ => true) true n 28 [a4] = some y4 := by simpa [ci, cu, cs] using hfs 4 _ rfl
  have f5 : DataW.trod enc Tryd.prog W 0 (fun _ => true) true n 3 [a5] = some y5 := by simpa [ci, cu, cs] using hfs 5 _ rfl
  have hd : y.1 = .agg [y0.1, y1.1, y2.1, y3.1, y4.1, y5.1] := by rw [hx]; rfl
  have hw : ∀ (j : Nat) (t : TypeId) (e : DataW H), [3, 27, 27, 28, 28, 3][j]? = some t → [y0.1, y1.1, y2.1, y3.1, y4.1, y5.1][j]? = some e → ∀ n ∈ e.weights Tryd.prog t, n ≤ reachBytes := by
    intro j t e ht he n hn
    refine hsz n ?_
    rw [hd]
    simp only [DataW.weights, Tryd.underlying30]
    exact DataW.weights_mem_each ht he n hn
  obtain ⟨K, e0, _, w0⟩ := DataW.trod_int Tryd.underlying3 f0
  obtain ⟨p1, n1, c1, z1, q1, A1, _⟩ := open_list f1 (hw 1 _ _ rfl rfl)
  obtain ⟨p2, n2, c2, z2, q2, A2, _⟩ := open_list f2 (hw 2 _ _ rfl rfl)
  obtain ⟨M, e3, _, w3⟩ := DataW.trod_int Tryd.underlying28 f3
  obtain ⟨C, e4, _, w4⟩ := DataW.trod_int Tryd.underlying28 f4
  obtain ⟨N, e5, _, w5⟩ := DataW.trod_int Tryd.underlying3 f5
  have b3 := bounds_u64 w3
  have b4 := bounds_u64 w4
  have b5 := bounds_i64 w5
  have bM : 0 ≤ M ∧ M < 18446744073709551616 := by omega
  have bC : 0 ≤ C ∧ C < 18446744073709551616 := by omega
  have bN : N ≤ 9223372036854775807 := by omega
  exact ⟨⟨K, M, C, N, p1, n1, c1, z1, p2, n2, c2, z2⟩, (List.cons.inj e0).1, q1, q2, (List.cons.inj e3).1, (List.cons.inj e4).1, (List.cons.inj e5).1, bM, bC, bN, A1, A2⟩

theorem open_ops1 {H : Type} {enc : TypeId × Value → H} {W : World} {a : Option Addr} {len cap : Nat} {d : DataW H} {p : List MemPlace} (h : DataW.Trod enc Tryd.prog W 0 (fun _ => true) true 22 (.slice a len cap) d p)
    (hsz : ∀ n ∈ d.weights Tryd.prog 22, n ≤ reachBytes) : ∃ its : List E1, its.length = len ∧ len ≤ cap ∧ cap ≤ 17592186044000 ∧ E1.Holds W a its ∧ ∀ it ∈ its, E1.Bd W it := by
  obtain ⟨fuel, hf⟩ := h
  rcases DataW.trod_slice Tryd.underlying22 hf with ⟨hcs, _⟩ | ⟨x, l, c, elems, rest, n, _, hcs, hx, _, hl, hm, he, hel, hsp, _⟩
  · simp [Value.cells] at hcs
    obtain ⟨rfl, rfl, rfl⟩ := hcs
    exact ⟨[], rfl, Nat.le_refl _, by omega, .inl rfl, by intro it h; simp at h⟩
  · simp [Value.cells] at hcs
    obtain ⟨rfl, rfl, rfl⟩ := hcs
    have hd : d = .slice (elems.map (·.1)) (rest.map (·.1)) := (Prod.mk.inj hx).1
    have hw : ∀ n ∈ (DataW.slice (elems.map (·.1)) (rest.map (·.1)) : DataW H).weights Tryd.prog 22, n ≤ reachBytes := by rw [← hd]; exact hsz
    simp only [DataW.weights, Tryd.underlying22] at hw
    have hr := hw _ List.mem_cons_self
    rw [show Tryd.prog.bytesOf 30 = 80 by kernel_rfl] at hr
    have hrl := (hsp rfl).1
    simp only [List.length_map, reachBytes] at hr
    have hcap : cap ≤ 17592186044000 := by omega
    rw [show Tryd.prog.cellsOf 30 = 6 by kernel_rfl] at hel
    obtain ⟨its, i1, i2⟩ := list_of_each (Q := fun i (it : E1) => (W.cell? (x.add (i * 6)) = some (.int .i64 it.K) ∧ W.cell? ((x.add (i * 6)).add 1) = some (.slice it.p1 it.n1 it.c1) ∧ W.cell? ((x.add (i * 6)).add 2) = some (.slice it.p2 it.n2 it.c2) ∧ W.cell? ((x.add (i * 6)).add 3) = some (.int .u64 it.M) ∧ W.cell? ((x.add (i * 6)).add 4) = some (.int .u64 it.C) ∧ W.cell? ((x.add (i * 6)).add 5) = some (.int .i64 it.N)) ∧ it.Bd W) len (fun i hi => by
      have h1 := hel i hi
      have h2 : elems[i]? = some elems[i] := List.getElem?_eq_getElem (by omega)
      rw [h2] at h1
      obtain ⟨cs, h3, h4⟩ := Option.bind_eq_some_iff.1 h1
      obtain ⟨_, h5, h6⟩ := World.cells?_some h3
      obtain ⟨v0, v1, v2, v3, v4, v5, rfl⟩ := list6o h5
      have e0 := h6 0 (by omega)
      have e1 := h6 1 (by omega)
      have e2 := h6 2 (by omega)
      have e3 := h6 3 (by omega)
      have e4 := h6 4 (by omega)
      have e5 := h6 5 (by omega)
      have h8 : (x.add (i * 6)).add 0 = x.add (i * 6) := by simp [Addr.add]
      rw [h8] at e0
      obtain ⟨it, q0, q1, q2, q3, q4, q5, hA⟩ := open_op1 h4 (fun n hn => hw n (List.mem_cons_of_mem _ (List.mem_append_left _ (all_mem (List.mem_map.2 ⟨_, List.getElem_mem (by omega), rfl⟩) n hn))))
      subst q0
      subst q1
      subst q2
      subst q3
      subst q4
      subst q5
      exact ⟨it, ⟨e0, e1, e2, e3, e4, e5⟩, hA⟩)
    refine ⟨its, i1, hl, hcap, ?_, ?_⟩
    · rcases Nat.eq_zero_or_pos its.length with h0 | h0
      · exact .inl (List.eq_nil_of_length_eq_zero h0)
      · obtain ⟨b, off, spot⟩ := x
        have hspot : spot = none := by simpa [Addr.add] using World.cell?_spot (i2 0 _ (List.getElem?_eq_getElem h0)).1.1
        subst hspot
        refine .inr ⟨b, off, rfl, fun i it hi => ?_⟩
        obtain ⟨⟨q0, q1, q2, q3, q4, q5⟩, _⟩ := i2 i it hi
        rw [Go.WideShapes.add_plain] at q0 q1 q2 q3 q4 q5
        rw [Go.WideShapes.add_plain] at q1 q2 q3 q4 q5
        exact ⟨q0, q1, q2, q3, q4, q5⟩
    · intro it hit
      obtain ⟨i, hi⟩ := List.getElem?_of_mem hit
      exact (i2 i it hi).2
end Go.Proofs.YtmglogncpfoldaaDoor

namespace Go.Proofs.YtmglogncpfoldaaDoor
open Go Go.RowKit Go.Deep

/-- How many limbs a script has, as the law counts them. -/
def sz1 : List E1 → Nat
  | [] => 0
  | it :: r => it.n1 + it.n2 + 1 + sz1 r

theorem sz1_append : ∀ a b, sz1 (a ++ b) = sz1 a + sz1 b
  | [], b => by simp [sz1]
  | it :: r, b => by simp only [List.cons_append, sz1, sz1_append r b]; omega

theorem sz1_take_succ (its : List E1) (k : Nat) (hk : k < its.length) : sz1 (its.take (k + 1)) = sz1 (its.take k) + (its[k].n1 + its[k].n2 + 1) := by
  rw [List.take_add_one, List.getElem?_eq_getElem hk, sz1_append]
  simp [sz1]

theorem below_drewM {B : Nat} {w w' : World} (h : Below B w w') (q : Nat) : Below B w (w'.drewN q) := ⟨h.os, h.tape, h.output, h.size, h.block⟩

/-- What many answers. -/
def ManySays (its : List E1) (e : Ending) : Prop := ∃ b, e = .returned (.bool b) ∧ (b = false → sz1 its ≤ 1048576)

set_option maxHeartbeats 2000000 in
theorem many_any (a : Option Addr) (len cap : Nat) (its : List E1) (w : World) (hl : its.length = len) (hc : len ≤ cap) (hm : cap ≤ 17592186044000) (hh : E1.Holds w a its) (hb : ∀ it ∈ its, E1.Bd w it) :
    Calls Tryd.prog 5 #[.slice a len cap] w fun e w' => ManySays its e ∧ Below w.heap.size w w' := by
  have GT : Hid (∀ i, i < len → ∃ (b off : Nat) (n1 c1 n2 c2 : Nat) (p1 p2 : Option Addr), a = some ⟨b, off, none⟩ ∧ n1 ≤ 17592186044000 ∧ n2 ≤ 17592186044000 ∧ sz1 (its.take (i + 1)) = sz1 (its.take i) + (n1 + n2 + 1) ∧ ∀ wx : World, Below w.heap.size w wx → wx.cell? ⟨b, off + i * 6 + 1, none⟩ = some (.slice p1 n1 c1) ∧ wx.cell? ⟨b, off + i * 6 + 2, none⟩ = some (.slice p2 n2 c2)) := by
    intro i hi
    rcases hh with c | ⟨b, off, e, h⟩
    · rw [c] at hl; simp at hl; omega
    · have he : its[i]? = some its[i] := List.getElem?_eq_getElem (by omega)
      obtain ⟨q0, q1, q2, q3, q4, q5⟩ := h i _ he
      obtain ⟨-, -, -, A1, A2⟩ := hb _ (List.getElem_mem (show i < its.length by omega))
      refine ⟨b, off, its[i].n1, its[i].c1, its[i].n2, its[i].c2, its[i].p1, its[i].p2, e, by have := A1.2.1; have := A1.2.2.1; omega, by have := A2.2.1; have := A2.2.2.1; omega, sz1_take_succ its i (by omega), fun wx hB => ⟨?_, ?_⟩⟩
      · rw [hB.cell (p := ⟨b, off + i * 6 + 1, none⟩) (cell_lt q1)]; exact q1
      · rw [hB.cell (p := ⟨b, off + i * 6 + 2, none⟩) (cell_lt q2)]; exact q2
  have LN := hid hl
  have lb : (len : Int) ≤ 17592186044000 := by omega
  clear hh hb hl
  go_enter Tryd.func5, Tryd.ntmps5
  go_wp2_with fail
  go_loopw [3, 4] (fun s i wr => ∃ (k t : Nat), k ≤ len ∧ i = .int .i64 (k : Int) ∧ s = .int .i64 (t : Int) ∧ t ≤ 1048576 ∧ Hid (t = sz1 (its.take k)) ∧ Hid (Below w.heap.size w wr)) (fun _ i _ => len - (intOf i).toNat)
  case atStart => exact ⟨0, 0, by omega, rfl, rfl, by omega, rfl, Below.refl _ _⟩
  case round =>
    obtain ⟨k, t, hk, rfl, rfl, ht, HT, BB⟩ := hrel
    by_cases he : k = len
    · subst he
      have hki : ¬ (k : Int) < (k : Int) := by omega
      have E : Hid (sz1 its ≤ 1048576) := by
        have := HT.out
        rw [List.take_of_length_le (by rw [LN.out]; exact Nat.le_refl _)] at this
        show _ ≤ _
        omega
      go_wp2
      go_ret
      exact ⟨⟨false, rfl, fun _ => E.out⟩, BB.out⟩
    · have hki : (k : Int) < (len : Int) := by omega
      obtain ⟨b, off, n1, c1, n2, c2, p1, p2, ha, h1, h2, hs, hcell⟩ := GT.out k (by omega)
      subst ha
      obtain ⟨r1, r2⟩ := hcell wr BB.out
      have HS := hid hs
      clear hcell hs GT
      go_wp2_with fail
      go_quiet (fail)
      have B2 := hid (below_drewM BB.out nq)
      clear r1 r2 BB
      generalize wr.drewN nq = wq at *
      by_cases hbig : 1048576 < t + (n1 + n2 + 1)
      · have hbig' : (1048576 : Int) < (t : Int) + ((n1 : Int) + (n2 : Int) + 1) := by omega
        go_wp2
        go_ret
        exact ⟨⟨true, rfl, fun h => by cases h⟩, B2.out⟩
      · have hbig' : ¬ (1048576 : Int) < (t : Int) + ((n1 : Int) + (n2 : Int) + 1) := by omega
        go_wp2
        go_roundw
        case rel => exact ⟨k + 1, t + (n1 + n2 + 1), by omega, by go_num, by go_num, by omega, by rw [HS.out]; have := HT.out; show _ = _; omega, B2.out⟩
        case measure => simp [intOf]; omega
end Go.Proofs.YtmglogncpfoldaaDoor
