/-
  layer 2's reference: Divide, in numbers.
-/
import Derived.Test.YthfechigdiefpaaQRef3
import Derived.Test.YthfechigdiefpaaQDivMod
namespace Go.Proofs.Ythfechigdiefpaa
open Go.RowKit Go.Deep

/-- An append whose run is known. -/
theorem wpList_append_q {ty : TypeId} {ops : Array Oper} {rest : List Oper} {o : Oper} {a : Act} {Q : Exit → Act → World → Prop} (hgd : o.guard = none) (s x : Operand)
    (ho : o.op = .call { callee := .builtin .append, args := #[s, x], argTypes := #[ty, ty] }) {v y v' : Value} {w w' : World} (hr : (Builtin.append_ #[ty, ty] o.type #[v, y]).run Try.prog w = .ok v' w') (hs : a.eval s = v) (hx : a.eval x = y)
    (h : wpList Try.prog ops Q rest (a.put o.dst v') w') : wpList Try.prog ops Q (o :: rest) a w := by
  refine wpList_plain hgd fun K hK => ?_
  unfold Oper.wp execOp
  simp only [ho, resolve, invoke, builtin, Sem.run_bind, Sem.run_pure, Result.andThen_ok, List.map_toArray, List.map_cons, List.map_nil, hs, hx, hr]
  exact hK _ _ h

theorem two_lt {B : Int} {Y k : Nat} (hB : B < Nm.pw Y) (hB0 : 0 ≤ B) (hk : k ≤ 64) : B * 2 ^ k < Nm.pw (Y + 1) := by
  have h1 := Nm.two_mono hk
  rw [Nm.two_64] at h1
  have h2 : B * 2 ^ k ≤ B * 18446744073709551616 := Int.mul_le_mul_of_nonneg_left h1 hB0
  rw [Nm.pw_succ]
  omega

/-- Before bit k of limb t of the quotient. -/
structure InI (w : World) (g g2 C K : Nat) (A b : Int) (t k : Nat) (os rs : List Int) (wr : World) : Prop where
  own : Own wr g rs
  len : rs.length = C
  lim : Nm.Limbs rs
  own2 : Own wr g2 os
  len2 : os.length = K
  lim2 : Nm.Limbs os
  zero : ∀ i, i < t → os.getD i 0 = 0
  bit : ∃ h, 0 ≤ h ∧ os.getD t 0 = h * 2 ^ k
  eq : Nm.val os * b + Nm.val rs = A
  lt : Nm.val rs < Nm.pw t * (b * 2 ^ k)
  low : Below g w wr

theorem InI.first {w : World} {g g2 C K : Nat} {A b : Int} {t : Nat} {os rs : List Int} {wr : World} (h : DivI w g g2 C K A b (t + 1) os rs wr) : InI w g g2 C K A b t 64 os rs wr := by
  refine ⟨h.own, h.len, h.lim, h.own2, h.len2, h.lim2, fun i hi => h.zero i (by omega), ⟨0, Int.le_refl _, by rw [h.zero t (by omega)]; omega⟩, h.eq, ?_, h.low⟩
  have := h.lt
  rw [Nm.pw_succ] at this
  rw [Nm.two_64]
  have e : Nm.pw t * (b * 18446744073709551616) = 18446744073709551616 * Nm.pw t * b := by rw [Int.mul_left_comm, Int.mul_comm b, Int.mul_comm (Nm.pw t)]
  omega

theorem InI.last {w : World} {g g2 C K : Nat} {A b : Int} {t : Nat} {os rs : List Int} {wr : World} (h : InI w g g2 C K A b t 0 os rs wr) : DivI w g g2 C K A b t os rs wr := by
  refine ⟨h.own, h.len, h.lim, h.own2, h.len2, h.lim2, h.zero, h.eq, ?_, h.low⟩
  have := h.lt
  rw [Int.pow_zero, Int.mul_one] at this
  exact this

/-- The bit is 0. -/
theorem InI.skip {w : World} {g g2 C K : Nat} {A b : Int} {t s : Nat} {os rs : List Int} {wr wr' : World} (h : InI w g g2 C K A b t (s + 1) os rs wr) (hb : Below wr.heap.size wr wr') (hlt : Nm.val rs < Nm.pw t * (b * 2 ^ s)) : InI w g g2 C K A b t s os rs wr' := by
  obtain ⟨x, x0, hx⟩ := h.bit
  have hg := h.own.lt
  exact ⟨h.own.below hb hg, h.len, h.lim, h.own2.below hb h.own2.lt, h.len2, h.lim2, h.zero, ⟨x * 2, by omega, by rw [hx, Nm.two_succ, Int.mul_assoc]⟩, h.eq, hlt, h.low.trans (hb.mono (by omega))⟩

/-- The bit is 1: what stands in the limb, and what it becomes. -/
theorem InI.orr {w : World} {g g2 C K : Nat} {A b : Int} {t s : Nat} {os rs : List Int} {wr : World} (h : InI w g g2 C K A b t (s + 1) os rs wr) (hs : s ≤ 63) :
    bits .or .u64 (os.getD t 0) (2 ^ s) = os.getD t 0 + 2 ^ s ∧ (0 ≤ os.getD t 0 + 2 ^ s ∧ os.getD t 0 + 2 ^ s < 18446744073709551616) := by
  obtain ⟨x, x0, hx⟩ := h.bit
  have hl := h.lim2.at t
  have p1 := Nm.two_pos s
  have e1 := Nm.two_succ s
  have e2 := Nm.two_mono (show s + 1 ≤ 64 by omega)
  rw [Nm.two_64] at e2
  have hdiv : x * 2 ^ (s + 1) + 2 ^ (s + 1) ≤ 18446744073709551616 := by
    have e3 : (2 : Int) ^ (64 - (s + 1)) * 2 ^ (s + 1) = 18446744073709551616 := by rw [← Nm.two_add, show 64 - (s + 1) + (s + 1) = 64 by omega, Nm.two_64]
    have hx1 : x < 2 ^ (64 - (s + 1)) := by
      rcases Int.lt_or_le x (2 ^ (64 - (s + 1))) with c | c
      · exact c
      · exfalso
        have : 2 ^ (64 - (s + 1)) * 2 ^ (s + 1) ≤ x * 2 ^ (s + 1) := Int.mul_le_mul_of_nonneg_right c (by omega)
        omega
    have : (x + 1) * 2 ^ (s + 1) ≤ 2 ^ (64 - (s + 1)) * 2 ^ (s + 1) := Int.mul_le_mul_of_nonneg_right (by omega) (by omega)
    rw [Int.add_mul, Int.one_mul] at this
    omega
  have ho := or_sum x (2 ^ s) (s + 1) x0 (by omega) (by omega) (by omega) (by omega)
  rw [← hx] at ho hdiv
  exact ⟨ho, by omega⟩

theorem InI.take {w : World} {g g2 C K : Nat} {A b : Int} {t s : Nat} {os rs rs' : List Int} {wr w1 w2 : World} (h : InI w g g2 C K A b t (s + 1) os rs wr) (htK : t < K) (hgl : g < g2) (hb : Below wr.heap.size wr w1)
    (ho : Own w2 g rs') (hl : rs'.length = C) (hlim : Nm.Limbs rs') (hv : Nm.val rs' = Nm.val rs - Nm.pw t * (b * 2 ^ s)) (hb2 : Below g w1 w2) (hoth : ∀ b, b ≠ g → w2.heap[b]? = w1.heap[b]?) (hs : s ≤ 63) :
    Own w2 g2 os ∧ InI w g g2 C K A b t s (os.set t (os.getD t 0 + 2 ^ s)) rs' (w2.setCell ⟨g2, t, none⟩ (.int .u64 (os.getD t 0 + 2 ^ s))) := by
  have hor := h.orr hs
  obtain ⟨x, x0, hx⟩ := h.bit
  have o2 : Own w2 g2 os := by
    have h1 := h.own2.below hb h.own2.lt
    simp only [Own] at h1 ⊢
    rw [hoth g2 (by omega)]
    exact h1
  have hlow : Below g w w2 := (h.low.trans (hb.mono (Nat.le_of_lt h.own.lt))).trans hb2
  have hgg : g2 ≠ g := by omega
  refine ⟨o2, ?_⟩
  have p1 := Nm.two_pos s
  have e1 := Nm.two_succ s
  refine ⟨ho.other hgg t _, hl, hlim, o2.set t _, by simpa using h.len2, h.lim2.set t hor.2.1 hor.2.2, fun i hi => ?_, ⟨x * 2 + 1, by omega, ?_⟩, ?_, ?_, ?_⟩
  · rw [Nm.getD_set _ _ _ _ (by rw [h.len2]; exact htK), if_neg (by omega)]
    exact h.zero i hi
  · rw [Nm.getD_set _ _ _ _ (by rw [h.len2]; exact htK), if_pos rfl, hx, e1, Int.add_mul, Int.one_mul, Int.mul_assoc]
  · rw [Nm.val_set _ _ _ (by rw [h.len2]; exact htK), show os.getD t 0 + 2 ^ s - os.getD t 0 = 2 ^ s by omega, Int.add_mul, hv]
    have e2 : Nm.pw t * 2 ^ s * b = Nm.pw t * (b * 2 ^ s) := by rw [Int.mul_assoc, Int.mul_comm (2 ^ s) b]
    have := h.eq
    omega
  · rw [hv]
    have := h.lt
    rw [e1] at this
    have e3 : Nm.pw t * (b * (2 * 2 ^ s)) = Nm.pw t * (b * 2 ^ s) + Nm.pw t * (b * 2 ^ s) := by rw [Int.mul_left_comm b, Int.mul_left_comm (Nm.pw t)]; omega
    omega
  · exact hlow.setCell (p := ⟨g2, t, none⟩) (Nat.le_of_lt hgl) _
end Go.Proofs.Ythfechigdiefpaa
