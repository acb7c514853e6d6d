/-
  quot's squares AND Log.
-/
import Derived.Test.YtbdilikdenhnkaaDoorQRows
import Derived.Test.YtbdilikdenhnkaaDoorNums
import Derived.Test.YtbdilikdenhnkaaDoorQGives
import Derived.Test.YtbdilikdenhnkaaDoorSmall
import Derived.OwnWalk
import Derived.Deep.LoopGhost
namespace Go.Proofs.YtbdilikdenhnkaaDoor
open Go.RowKit Go.Deep

structure ShutLQ (p : Prop) : Prop where
  out : p

theorem wpList_append_lQ {ty : TypeId} {ops : Array Oper} {rest : List Oper} {o : Oper} {a : Act} {Q : Exit → Act → World → Prop} (hgd : o.guard = none) (s x : Operand)
    (ho : o.op = .call { callee := .builtin .append, args := #[s, x], argTypes := #[ty, ty] }) {v y v' : Value} {w w' : World} (hr : (Builtin.append_ #[ty, ty] o.type #[v, y]).run Tryd.prog w = .ok v' w') (hs : a.eval s = v) (hx : a.eval x = y)
    (h : wpList Tryd.prog ops Q rest (a.put o.dst v') w') : wpList Tryd.prog ops Q (o :: rest) a w := by
  refine wpList_plain hgd fun K hK => ?_
  unfold Oper.wp execOp
  simp only [ho, resolve, invoke, builtin, Sem.run_bind, Sem.run_pure, Result.andThen_ok, List.map_toArray, List.map_cons, List.map_nil, hs, hx, hr]
  exact hK _ _ h

/-- The rows b, b^2, b^4 .. that are at most A. -/
structure RowsInQ (base : Nat) (b A : Int) (mv : Value) (l : List (Option Addr × List Int)) (w : World) : Prop where
  own : w.ownsRow base 22 1 mv l.length (l.map rowV)
  row : ∀ i e, l[i]? = some e → RowIn w mv e (b ^ (2 ^ i)) ∧ b ^ (2 ^ i) ≤ A

theorem RowsInQ.below {base : Nat} {b A : Int} {mv : Value} {l : List (Option Addr × List Int)} {w w' : World} (h : RowsInQ base b A mv l w) (hb : Below w.heap.size w w') : RowsInQ base b A mv l w' :=
  ⟨h.own.kept (row := none) ⟨hb.os, hb.tape, hb.output, hb.size, fun j hj _ => hb.block j hj⟩ (by cases h : Value.ownBlock mv <;> simp), fun i e he => ⟨(h.row i e he).1.below hb, (h.row i e he).2⟩⟩

theorem pw_bigQ : Nm.pw 4096 = 2 ^ 262144 := by rw [Nm.pw_two 4096, show 64 * 4096 = 262144 from rfl]

/-- The next row, or the error that says that it is too long. -/
inductive SqNextQ (b : Int) (k : Nat) (mv : Value) (r : Option Addr) (us : List Int) (w : World) : Int → Prop
  | go : b ^ (2 ^ k) < Nm.pw 4096 → RowIn w mv (r, us) (b ^ (2 ^ k)) → SqNextQ b k mv r us w 0
  | stop : Nm.pw 4096 ≤ b ^ (2 ^ k) → SqNextQ b k mv r us w 2

theorem RowsInQ.few {base : Nat} {b A : Int} {mv : Value} {l : List (Option Addr × List Int)} {w : World} (h : RowsInQ base b A mv l w) (hb : 2 ≤ b) (hA : A < Nm.pw 4096) : l.length ≤ 18 := by
  rcases Nat.eq_zero_or_pos l.length with c | c
  · omega
  · have he : l[l.length - 1]? = some l[l.length - 1] := List.getElem?_eq_getElem (by omega)
    have := Ln.few hb (h.row _ _ he).2 (by rw [← pw_bigQ]; exact hA)
    omega

set_option maxRecDepth 100000 in
set_option maxHeartbeats 4000000 in
theorem squares_any (p q : Option Addr) (m cap' : Nat) (os za : List Int) (b A : Int) (B : Nat) (w : World) (hp : Ans B w p os b) (hb0 : 2 ≤ b) (hb1 : b < 18446744073709551616) (ha : Arg w q m cap' za) (hA : Nm.val za = A) (ts : Nm.tsize za ≤ 4096) :
    Calls Tryd.prog 28 #[.slice p (List.length os) (List.length os), .slice q m cap'] w fun e w' => ∃ mv l, e = .returned mv ∧ Hid (RowsInQ w.heap.size b A mv l w' ∧ A < b ^ (2 ^ l.length) ∧ l.length ≤ 18 ∧ Below w.heap.size w w') := by
  have hAs : ShutLQ (A < Nm.pw 4096) := ⟨by rw [← hA]; exact (Nm.tsize_le_iff ha.2.2.2.2 4096).1 ts⟩
  have HV := hid hA
  have HA := hid ha
  have HB := hid hb0
  have P0 : Hid (RowIn w (.slice none 0 0) (p, os) (b ^ (2 ^ 0))) := by
    show RowIn _ _ _ _
    rw [Nat.pow_zero, Int.pow_succ, Int.pow_zero, Int.one_mul]
    refine ⟨hp.1, hp.2.1, hp.2.2.1, hp.2.2.2.1, fun a ha => ⟨hp.1.lt ?_ a ha, by simp [Value.ownBlock]⟩⟩
    rcases Nat.eq_zero_or_pos os.length with c | c
    · have := hp.2.2.2.1
      rw [List.eq_nil_of_length_eq_zero c] at this
      simp [Nm.val] at this
      omega
    · exact c
  have S0 : ShutLQ (b ^ (2 ^ 0) < Nm.pw 4096) := by
    refine ⟨?_⟩
    rw [Nat.pow_zero, Int.pow_succ, Int.pow_zero, Int.one_mul]
    have h := Nm.pw_mono (show 1 ≤ 4096 by omega)
    have e : Nm.pw 1 = 18446744073709551616 := by simp [Nm.pw]
    rw [e] at h
    exact Int.lt_of_lt_of_le hb1 h
  clear hp hb0 hb1 ha hA ts
  go_enter Tryd.func28, Tryd.ntmps28
  go_wp2_with fail
  go_loopg [0, 5, 6] 20 (fun x a c e wr => ∃ (mv : Value) (l : List (Option Addr × List Int)) (r : Option Addr) (us : List Int) (E : Int), a = .slice r (List.length us) (List.length us) ∧ c = mv ∧ e = .int .i64 E ∧ Hid (x + l.length = 20) ∧ Hid (RowsInQ w.heap.size b A mv l wr) ∧ Hid (Below w.heap.size w wr) ∧ SqNextQ b l.length mv r us wr E)
  case atStart => exact ⟨.slice none 0 0, [], p, os, 0, rfl, rfl, rfl, rfl, ⟨World.ownsRow_nil _ _ _ _, fun i e h => by simp at h⟩, Below.refl _ _, .go S0.out P0.out⟩
  case round =>
    clear P0 S0
    obtain ⟨mv, l, r, us, E, rfl, hmv, rfl, GK, RI, D, W⟩ := hrel
    have hmv := hmv.symm
    subst hmv
    have L18 := hid (RI.out.few HB.out hAs.out)
    have W0 : (E = 0 ∧ b ^ (2 ^ l.length) < Nm.pw 4096 ∧ RowIn wr mv (r, us) (b ^ (2 ^ l.length))) ∨ (E = 2 ∧ Nm.pw 4096 ≤ b ^ (2 ^ l.length)) := by
      cases W with
      | go h1 h2 => exact .inl ⟨rfl, h1, h2⟩
      | stop h => exact .inr ⟨rfl, h⟩
    clear W
    rcases W0 with ⟨hE, hs, hr⟩ | ⟨hE, hs⟩
    · subst hE
      have HS : ShutLQ (b ^ (2 ^ l.length) < Nm.pw 4096) := ⟨hs⟩
      have HR := hid hr
      have lus : Hid (us.length ≤ 4096) := by
        show _ ≤ _
        have h1 := (Nm.tsize_le_iff hr.2.1 4096).2 (by rw [hr.2.2.2.1]; exact hs)
        have h2 := hr.2.2.1
        simp only at h1 h2
        omega
      have HAr := hid (HA.out.below D.out (Nat.le_refl _))
      obtain ⟨c, hc0⟩ : ∃ c, cmpI (b ^ (2 ^ l.length)) A = c := ⟨_, rfl⟩
      have HC := hid hc0
      clear hc0
      have CM := hid (cmp_is c r q _ _ m cap' us za wr (hr.arg (by have := lus.out; simp only; omega)) HAr.out (by rw [show Nm.val us = b ^ (2 ^ l.length) from hr.2.2.2.1, HV.out]; exact HC.out))
      clear hs hr HAr
      by_cases hgt : A < b ^ (2 ^ l.length)
      · have hc : c = 1 := by rw [← HC.out]; exact cmpI_gt hgt
        have HG := hid hgt
        subst hc
        clear hgt
        go_wp2_with fail
        refine CM.out.mono ?_
        rintro e w1 ⟨rfl, d1⟩
        have F : Hid (RowsInQ w.heap.size b A mv l w1 ∧ A < b ^ (2 ^ l.length) ∧ l.length ≤ 18 ∧ Below w.heap.size w w1) := ⟨RI.out.below d1, HG.out, L18.out, chain D.out d1 (Nat.le_refl _)⟩
        clear d1
        go_wp2_with fail
        go_ret
        exact ⟨mv, l, rfl, F⟩
      · have hcle : c ≤ 0 := by
          rw [← HC.out]
          rcases (show b ^ (2 ^ l.length) = A ∨ b ^ (2 ^ l.length) < A by omega) with h | h
          · rw [cmpI_eq h]; omega
          · rw [cmpI_lt h]; omega
        have HLE : Hid (b ^ (2 ^ l.length) ≤ A) := by show _ ≤ _; omega
        clear hgt
        go_wp2_with fail
        refine CM.out.mono ?_
        rintro e w1 ⟨rfl, d1⟩
        have RI1 := RI.out.below d1
        have HR1 := HR.out.below d1
        have D1 := hid (chain D.out d1 (Nat.le_refl _))
        obtain ⟨mv', w2, ap, j1, j2, j3, j4, j5⟩ := pushRow w.heap.size l.length mv (l.map rowV) (rowV (r, us)) w1 (by have := L18.out; omega) rfl D1.out.size RI1.own
        have AP : Hid ((Builtin.append_ #[38, 38] 38 #[mv, .slice (some ⟨w1.heap.size, 0, none⟩) 1 1]).run Tryd.prog (w1.alloc (.cells #[.slice r (List.length us) (List.length us)] 22)) = .ok mv' w2) := ap
        have D2 := hid (D1.out.trans j2)
        have HR2 := hid (HR1.pushed j3 j4 j5)
        have RI2 : Hid (RowsInQ w.heap.size b A mv' (l ++ [(r, us)]) w2) := by
          refine ⟨by simpa using j1, fun i e he => ?_⟩
          by_cases hi : i < l.length
          · rw [List.getElem?_append_left hi] at he
            exact ⟨(RI1.row i e he).1.pushed j3 j4 j5, (RI1.row i e he).2⟩
          · have hlt := (List.getElem?_eq_some_iff.1 he).1
            simp only [List.length_append, List.length_cons, List.length_nil] at hlt
            have hi2 : i = l.length := by omega
            subst hi2
            rw [List.getElem?_append_right (by omega), Nat.sub_self] at he
            simp at he
            subst he
            exact ⟨HR1.pushed j3 j4 j5, HLE.out⟩
        have MU := hid (mul_gives r r _ _ _ _ us us (b ^ (2 ^ (l.length + 1))) w2 (HR2.out.arg (by have := lus.out; simp only; omega)) (HR2.out.arg (by have := lus.out; simp only; omega)) (by rw [show Nm.tsize us = us.length from HR2.out.2.2.1]; exact lus.out) (by rw [show Nm.tsize us = us.length from HR2.out.2.2.1]; exact lus.out) (by rw [show Nm.val us = b ^ (2 ^ l.length) from HR2.out.2.2.2.1]; exact Ln.square b l.length))
        have BP := hid (show 0 < b ^ (2 ^ (l.length + 1)) from Int.pow_pos (by have := HB.out; omega))
        clear ap j1 j2 j3 j4 j5 RI1 HR1 d1 CM RI D HR
        go_wp2_with (at_builtin; refine wpList_append_lQ rfl _ _ rfl AP.out (by rfl) (by rfl) ?_; clear AP)
        refine MU.out.mono ?_
        rintro e w3 ⟨h | h, d3⟩
        · obtain ⟨h1, r3, us3, rfl, A3⟩ := h
          have N3 : SqNextQ b (l.length + 1) mv' r3 us3 w3 0 := .go h1 (A3.row rfl RI2.out.own BP.out)
          have RI3 := hid (RI2.out.below d3)
          have D3 := hid (chain D2.out d3 (Nat.le_refl _))
          clear h1 A3 d3 MU
          go_wp2_with fail
          go_roundg (19 - l.length)
          case measure => have := GK.out; have := L18.out; omega
          case rel => exact ⟨mv', l ++ [(r, us)], r3, us3, 0, rfl, rfl, rfl, by show _ = _; have := L18.out; rw [List.length_append]; simp only [List.length_cons, List.length_nil]; omega, RI3.out, D3.out, by rw [List.length_append]; exact N3⟩
        · obtain ⟨h1, rfl⟩ := h
          have N3 : SqNextQ b (l.length + 1) mv' none [] w3 2 := .stop h1
          have RI3 := hid (RI2.out.below d3)
          have D3 := hid (chain D2.out d3 (Nat.le_refl _))
          clear h1 d3 MU
          go_wp2_with fail
          go_roundg (19 - l.length)
          case measure => have := GK.out; have := L18.out; omega
          case rel => exact ⟨mv', l ++ [(r, us)], none, [], 2, rfl, rfl, rfl, by show _ = _; have := L18.out; rw [List.length_append]; simp only [List.length_cons, List.length_nil]; omega, RI3.out, D3.out, by rw [List.length_append]; exact N3⟩
    · subst hE
      have F : Hid (RowsInQ w.heap.size b A mv l wr ∧ A < b ^ (2 ^ l.length) ∧ l.length ≤ 18 ∧ Below w.heap.size w wr) := ⟨RI.out, Int.lt_of_lt_of_le hAs.out hs, L18.out, D.out⟩
      clear hs
      go_wp2_with fail
      go_ret
      exact ⟨mv, rfl, l, F⟩
end Go.Proofs.YtbdilikdenhnkaaDoor
