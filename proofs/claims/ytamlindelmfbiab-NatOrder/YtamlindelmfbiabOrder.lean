/-
  THE WALK OF NatOrder.
-/
import Derived.Test.YtamlindelmfbiabAwake
import Derived.Test.YtamlindelmfbiabWalk5
import Derived.Test.YtamlindelmfbiabLen
namespace Go.Proofs.Ytamlindelmfbiab
open Go.RowKit Go.Deep

theorem chain {B : Nat} {w w1 w2 : World} (h : Below B w w1) (k : Below w1.heap.size w1 w2) (hB : B ≤ w.heap.size) : Below B w w2 := h.trans (k.mono (by have := h.size; omega))

theorem cmp_is (c : Int) (p q : Option Addr) (n cap m cap' : Nat) (zs ys : List Int) (w : World) (ha : Arg w p n cap zs) (hb : Arg w q m cap' ys) (hc : cmpI (Nm.val zs) (Nm.val ys) = c) :
    Calls Try.prog 9 #[.slice p n cap, .slice q m cap'] w fun e w' => e = .returned (.int .i64 c) ∧ Below w.heap.size w w' := by
  rw [← hc]
  exact cmp_any p q n cap m cap' zs ys w ha hb

theorem same_is (s : Bool) (p q : Option Addr) (n cap m cap' : Nat) (zs ys : List Int) (w : World) (ha : Arg w p n cap zs) (hb : Arg w q m cap' ys) (hs : decide (zs = ys) = s) :
    Calls Try.prog 10 #[.slice p n cap, .slice q m cap'] w fun e w' => e = .returned (.bool s) ∧ Below w.heap.size w w' := by
  rw [← hs]
  exact same_any p q n cap m cap' zs ys w ha hb

theorem bitLen_is (b : Int) (p : Option Addr) (n cap : Nat) (zs : List Int) (w : World) (ha : Arg w p n cap zs) (hb : blen zs = b) :
    Calls Try.prog 12 #[.slice p n cap] w fun e w' => e = .returned (.int .i64 b) ∧ w' = w := by
  rw [← hb]
  exact bitLen_any p n cap zs w ha

/-- Zeros at the high end change nothing. -/
theorem tsize_pad (zs : List Int) (k : Nat) : Nm.tsize (zs ++ List.replicate k 0) = Nm.tsize zs := by
  have hl := Nm.tsize_le zs
  refine Nm.tsize_unique _ _ (fun j hj => ?_) ?_
  · by_cases h : j < zs.length
    · have := Nm.tsize_zero zs j hj
      simpa [List.getD, List.getElem?_append_left h] using this
    · simp only [List.getD, List.getElem?_append_right (Nat.le_of_not_lt h), List.getElem?_replicate]
      split <;> rfl
  · by_cases h : Nm.tsize zs = 0
    · exact .inl h
    · right
      have := Nm.tsize_top zs (by omega)
      simpa [List.getD, List.getElem?_append_left (show Nm.tsize zs - 1 < zs.length by omega)] using this

theorem val_pad (zs : List Int) (k : Nat) : Nm.val (zs ++ List.replicate k 0) = Nm.val zs := by rw [Nm.val_append, Nm.val_replicate, Int.mul_zero, Int.add_zero]

theorem blen_pad (zs : List Int) (k : Nat) : blen (zs ++ List.replicate k 0) = blen zs := by
  have hl := Nm.tsize_le zs
  rw [blen, blen, tsize_pad]
  by_cases h : Nm.tsize zs = 0
  · rw [if_pos h, if_pos h]
  · rw [if_neg h, if_neg h]
    have e : (zs ++ List.replicate k 0).getD (Nm.tsize zs - 1) 0 = zs.getD (Nm.tsize zs - 1) 0 := by simp [List.getD, List.getElem?_append_left (show Nm.tsize zs - 1 < zs.length by omega)]
    rw [e]

/-- The thirteen ways in which three numbers can lie. -/
def Tri (c1 c2 c3 : Int) (s : Bool) : Prop :=
  (c1 = -1 ∧ c2 = -1 ∧ c3 = -1 ∧ s = false) ∨ (c1 = -1 ∧ c2 = 0 ∧ c3 = -1 ∧ s = false) ∨ (c1 = -1 ∧ c2 = 1 ∧ c3 = -1 ∧ s = false) ∨ (c1 = -1 ∧ c2 = 1 ∧ c3 = 0 ∧ s = false) ∨ (c1 = -1 ∧ c2 = 1 ∧ c3 = 1 ∧ s = false) ∨
  (c1 = 0 ∧ c2 = -1 ∧ c3 = -1 ∧ s = true) ∨ (c1 = 0 ∧ c2 = 0 ∧ c3 = 0 ∧ s = true) ∨ (c1 = 0 ∧ c2 = 1 ∧ c3 = 1 ∧ s = true) ∨
  (c1 = 1 ∧ c2 = -1 ∧ c3 = -1 ∧ s = false) ∨ (c1 = 1 ∧ c2 = -1 ∧ c3 = 0 ∧ s = false) ∨ (c1 = 1 ∧ c2 = -1 ∧ c3 = 1 ∧ s = false) ∨ (c1 = 1 ∧ c2 = 0 ∧ c3 = 1 ∧ s = false) ∨ (c1 = 1 ∧ c2 = 1 ∧ c3 = 1 ∧ s = false)

theorem tri (x y z : Int) (s : Bool) (hs : s = decide (x = y)) : Tri (cmpI x y) (cmpI y z) (cmpI x z) s := by
  subst hs
  unfold Tri cmpI
  rcases Int.lt_trichotomy x y with h1 | h1 | h1 <;> rcases Int.lt_trichotomy y z with h2 | h2 | h2 <;> rcases Int.lt_trichotomy x z with h3 | h3 | h3 <;> first | omega | (repeat (first | rw [if_pos (by omega)] | rw [if_neg (by omega)])) <;> simp <;> omega

/-- An append whose run is known. -/
theorem wpList_append_eq {ops : Array Oper} {rest : List Oper} {o : Oper} {a : Act} {Q : Exit → Act → World → Prop} (hgd : o.guard = none) (s x : Operand)
    (ho : o.op = .call { callee := .builtin .append, args := #[s, x], argTypes := #[22, 22] }) {v y v' : Value} {w w' : World} (hr : (Builtin.append_ #[22, 22] o.type #[v, y]).run Try.prog w = .ok v' w') (hs : a.eval s = v) (hx : a.eval x = y)
    (h : wpList Try.prog ops Q rest (a.put o.dst v') w') : wpList Try.prog ops Q (o :: rest) a w := by
  refine wpList_plain hgd fun K hK => ?_
  unfold Oper.wp execOp
  simp only [ho, resolve, invoke, builtin, Sem.run_bind, Sem.run_pure, Result.andThen_ok, List.map_toArray, List.map_cons, List.map_nil, hs, hx, hr]
  exact hK _ _ h

theorem pad_one (za : List Int) (n j : Nat) (h : za.length = n) (hj : j < 3) : List.take (n + j) (za ++ List.replicate 3 0) ++ [0] ++ List.drop (n + j + 1) (za ++ List.replicate 3 0) = za ++ List.replicate 3 0 := by
  subst h
  rw [List.take_append, List.drop_append, List.take_of_length_le (by omega), List.drop_eq_nil_of_le (by omega), Nat.add_sub_cancel_left, show za.length + j + 1 - za.length = j + 1 by omega]
  have : j = 0 ∨ j = 1 ∨ j = 2 := by omega
  rcases this with rfl | rfl | rfl <;> simp [List.replicate]

/-- make with room for three more, and three appends: what is run, and what lies there then. -/
theorem padded (w : World) (p : Option Addr) (n cap : Nat) (za : List Int) (hal : za.length = n) (hl : Lies w p za) :
    ∃ w1 w2 w3, (Builtin.append_ #[22, 22] 22 #[.slice (some ⟨w.heap.size, 0, none⟩) 0 (n + 3), .slice p n cap]).run Try.prog (w.alloc (.cells (madeCells #[.int .u64 0] (n + 3)) 23)) = .ok (.slice (some ⟨w.heap.size, 0, none⟩) n (n + 3)) w1 ∧
      (Builtin.append_ #[22, 22] 22 #[.slice (some ⟨w.heap.size, 0, none⟩) n (n + 3), .slice (some ⟨w1.heap.size, 0, none⟩) 1 1]).run Try.prog (w1.alloc (.cells #[.int .u64 0] 23)) = .ok (.slice (some ⟨w.heap.size, 0, none⟩) (n + 1) (n + 3)) w2 ∧
      (Builtin.append_ #[22, 22] 22 #[.slice (some ⟨w.heap.size, 0, none⟩) (n + 1) (n + 3), .slice (some ⟨w2.heap.size, 0, none⟩) 1 1]).run Try.prog (w2.alloc (.cells #[.int .u64 0] 23)) = .ok (.slice (some ⟨w.heap.size, 0, none⟩) (n + 2) (n + 3)) w3 ∧
      Own w3 w.heap.size (za ++ List.replicate 3 0) ∧ Below w.heap.size w w3 := by
  have ho0 : Own (w.alloc (.cells (madeCells #[.int .u64 0] (n + 3)) 23)) w.heap.size (List.replicate (n + 3) 0) := by
    rw [made_zero]; exact Own.alloc w _
  have hbm : Below w.heap.size w (w.alloc (.cells (madeCells #[.int .u64 0] (n + 3)) 23)) := (Below.refl _ _).alloc (Nat.le_refl _) _
  obtain ⟨w1, ap1, ow1, be1, sz1⟩ := append64 w.heap.size (n + 3) 0 (List.replicate (n + 3) 0) p n cap za 22 _ (by simp) hal (by omega) ho0 (hl.below hbm (Nat.le_refl _))
  have sz1' : w1.heap.size = w.heap.size + 1 := sz1.trans (World.size_alloc _ _)
  have e1 : List.take 0 (List.replicate (n + 3) (0 : Int)) ++ za ++ List.drop (0 + n) (List.replicate (n + 3) 0) = za ++ List.replicate 3 0 := by simp
  rw [e1] at ow1
  rw [Nat.zero_add] at ap1
  have na1 : Arg (w1.alloc (.cells #[.int .u64 0] 23)) (some ⟨w1.heap.size, 0, none⟩) 1 1 [0] := arg_new w1 [0] 1 rfl (by omega) (one_limb (by omega))
  have bm1 : Below w1.heap.size w1 (w1.alloc (.cells #[.int .u64 0] 23)) := (Below.refl _ _).alloc (Nat.le_refl _) _
  obtain ⟨w2, ap2, ow2, be2, sz2⟩ := append64 w.heap.size (n + 3) n (za ++ List.replicate 3 0) _ 1 1 [0] 22 _ (by simp [hal]) rfl (by omega) (ow1.below bm1 (by omega)) na1.2.2.2.1
  have sz2' : w2.heap.size = w.heap.size + 2 := by rw [sz2, World.size_alloc, sz1']
  have e2 := pad_one za n 0 hal (by omega)
  rw [Nat.add_zero] at e2
  rw [e2] at ow2
  have na2 : Arg (w2.alloc (.cells #[.int .u64 0] 23)) (some ⟨w2.heap.size, 0, none⟩) 1 1 [0] := arg_new w2 [0] 1 rfl (by omega) (one_limb (by omega))
  have bm2 : Below w2.heap.size w2 (w2.alloc (.cells #[.int .u64 0] 23)) := (Below.refl _ _).alloc (Nat.le_refl _) _
  obtain ⟨w3, ap3, ow3, be3, sz3⟩ := append64 w.heap.size (n + 3) (n + 1) (za ++ List.replicate 3 0) _ 1 1 [0] 22 _ (by simp [hal]) rfl (by omega) (ow2.below bm2 (by omega)) na2.2.2.2.1
  rw [pad_one za n 1 hal (by omega)] at ow3
  exact ⟨w1, w2, w3, ap1, ap2, ap3, ow3, hbm.trans (be1.trans ((bm1.mono (by omega)).trans (be2.trans ((bm2.mono (by omega)).trans be3))))⟩

theorem arg_pad {w : World} {g n : Nat} {za : List Int} (h : Own w g (za ++ List.replicate 3 0)) (hal : za.length = n) (hn : n ≤ 17592186043904) (hl : Nm.Limbs za) : Arg w (some ⟨g, 0, none⟩) (n + 2) (n + 3) (za ++ List.replicate 2 0) := by
  have e : (za ++ List.replicate 3 0).take (n + 2) = za ++ List.replicate 2 0 := by
    subst hal
    rw [List.take_append, List.take_of_length_le (by omega), Nat.add_sub_cancel_left]
    rfl
  have hl' := h.lies.take (n + 2)
  rw [e] at hl'
  exact ⟨by simp [hal], by omega, by omega, hl', hl.append (Nm.Limbs.replicate 2)⟩
end Go.Proofs.Ytamlindelmfbiab
