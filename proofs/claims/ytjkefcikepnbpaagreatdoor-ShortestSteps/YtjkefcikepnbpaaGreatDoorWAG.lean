/-
  Texts put together: MulOver, QGives, NSquares, QPow, NNatural.
-/
import Derived.Test.YtjkefcikepnbpaaGreatDoorWAD
import Derived.Test.YtjkefcikepnbpaaGreatDoorWAA
import Derived.Test.YtjkefcikepnbpaaGreatDoorWAE
import Derived.OwnWalk
import Derived.Deep.LoopGhost
import Derived.Test.YtjkefcikepnbpaaGreatDoorWAB
import Derived.Test.YtjkefcikepnbpaaGreatDoorWAC
import Derived.BigRegion
import Derived.Deep.CutRange
namespace Go.Proofs.YtjkefcikepnbpaaGreatDoor
open Go.RowKit Go.Deep

set_option maxRecDepth 100000 in
set_option maxHeartbeats 1000000 in
theorem mul_over (p q : Option Addr) (n cap m cap' : Nat) (zs ys : List Int) (w : World) (ha : Arg w p n cap zs) (hb : Arg w q m cap' ys) (tz : Nm.tsize zs ≤ 4096) (ty : Nm.tsize ys ≤ 4096) (hs : Nm.pw 4096 ≤ Nm.val zs * Nm.val ys) :
    Calls Tryz.prog 65 #[.slice p n cap, .slice q m cap'] w fun e w' => e = .returned (.tuple #[.slice none 0 0, .int .i64 2]) ∧ Below w.heap.size w w' := by
  obtain ⟨a1, a2, a3, a4, a5⟩ := ha
  obtain ⟨b1, b2, b3, b4, b5⟩ := hb
  have HS := hid hs
  clear hs
  have hp := Nm.pw_pos 4096
  have h1 : Nm.tsize zs ≠ 0 := fun h => by
    have e := (Nm.tsize_zero_iff a5).1 h
    have := HS.out
    rw [e, Int.zero_mul] at this
    omega
  have h2 : Nm.tsize ys ≠ 0 := fun h => by
    have e := (Nm.tsize_zero_iff b5).1 h
    have := HS.out
    rw [e, Int.mul_zero] at this
    omega
  have h1' : ((Nm.tsize zs : Int) == 0) = false := by simp [h1]
  have h2' : ((Nm.tsize ys : Int) == 0) = false := by simp [h2]
  clear hp
  by_cases hearly : 4097 < Nm.tsize zs + Nm.tsize ys
  · have he : (4096 : Int) < (Nm.tsize zs : Int) + (Nm.tsize ys : Int) - 1 := by omega
    go_enter Tryz.func65, Tryz.ntmps65
    go_wp2_with fail
    refine (pair_ok p q n cap m cap' zs ys _ a1 a2 (by omega) a4 tz b1 b2 (by omega) b4 ty).mono ?_
    rintro e w' ⟨rfl, rfl⟩
    go_wp2_with fail
    go_ret2
    exact ⟨rfl, Below.refl _ _⟩
  have hsum' : (Nm.tsize zs : Int) + (Nm.tsize ys : Int) ≤ 4097 := by omega
  have hmk := make64 (Nm.tsize zs + Nm.tsize ys) (by omega) w
  have em : ((Nm.tsize zs + Nm.tsize ys : Nat) : Int) = (Nm.tsize zs : Int) + (Nm.tsize ys : Int) := by omega
  rw [em] at hmk
  clear em
  have ho : Own (w.alloc (.cells (madeCells #[.int .u64 0] (Nm.tsize zs + Nm.tsize ys)) 22)) w.heap.size (List.replicate (Nm.tsize zs + Nm.tsize ys) 0) := by
    rw [made_zero]; exact Own.alloc w _
  have hb0 : Below w.heap.size w (w.alloc (.cells (madeCells #[.int .u64 0] (Nm.tsize zs + Nm.tsize ys)) 22)) := (Below.refl _ _).alloc (Nat.le_refl _) _
  have I0 : ProdInv w.heap.size (Nm.tsize zs + Nm.tsize ys) w (Nm.trim zs) (Nm.trim ys) 0 (List.replicate (Nm.tsize zs + Nm.tsize ys) 0) (w.alloc (.cells (madeCells #[.int .u64 0] (Nm.tsize zs + Nm.tsize ys)) 22)) :=
    ⟨ho, by simp, Nm.Limbs.replicate _, by simp [Nm.val_replicate, Nm.val], hb0⟩
  clear ho hb0
  have hsum2 : decide (4096 < (Nm.tsize zs : Int) + (Nm.tsize ys : Int) - 1) = false := by simp; omega
  have A4 := hid a4.trim
  have B4 := hid b4.trim
  obtain ⟨b, off, rfl, hcell⟩ : ∃ b off, p = some ⟨b, off, none⟩ ∧ Hid (∀ i, i < Nm.tsize zs → w.cell? ⟨b, off + i, none⟩ = some (.int .u64 ((Nm.trim zs).getD i 0))) := by
    have hlen := Nm.trim_length zs
    rcases A4.out with h | ⟨b, off, hp, h⟩
    · exfalso
      rw [h] at hlen
      simp at hlen
      omega
    · exact ⟨b, off, hp, fun i hi => h i (by rw [hlen]; exact hi)⟩
  have hbg : b < w.heap.size := cell_lt (hcell.out 0 (by omega))
  have A5 := hid a5.trim
  have B5 := hid b5.trim
  go_enter Tryz.func65, Tryz.ntmps65
  go_wp2_with fail
  refine (pair_ok (some ⟨b, off, none⟩) q n cap m cap' zs ys _ a1 a2 (by omega) a4 tz b1 b2 (by omega) b4 ty).mono ?_
  rintro e w' ⟨rfl, rfl⟩
  clear a4 b4
  go_wp2_with fail
  go_loopw [43] (fun i wr => ∃ (j : Nat) (os : List Int), j ≤ Nm.tsize zs ∧ i = .int .i64 j ∧ ProdInv w'.heap.size (Nm.tsize zs + Nm.tsize ys) w' (Nm.trim zs) (Nm.trim ys) j os wr) (fun i _ => Nm.tsize zs - (intOf i).toNat)
  case atStart => exact ⟨0, _, Nat.zero_le _, rfl, I0⟩
  case round =>
    clear I0 hmk
    obtain ⟨j, os, hj, rfl, I⟩ := hrel
    by_cases hlt : j < Nm.tsize zs
    · obtain ⟨x, hx, X⟩ : ∃ x, wr.cell? ⟨b, off + j, none⟩ = some (.int .u64 x) ∧ Hid (x = (Nm.trim zs).getD j 0) := ⟨_, (I.2.2.2.2.cell (p := ⟨b, off + j, none⟩) hbg).trans (hcell.out j hlt), rfl⟩
      have hx0 := A5.out.at j
      rw [show (Nm.trim zs).getD j 0 = x from X.out.symm] at hx0
      obtain ⟨hx0, hx1⟩ := hx0
      go_wp2_with fail
      refine (addTimes_any w'.heap.size (Nm.tsize zs + Nm.tsize ys) j (Nm.tsize ys) _ os q _ (Nm.trim ys) x _ I.2.1 (by omega) I.1 I.2.2.1 (Nm.trim_length ys) (by omega) (B4.out.below I.2.2.2.2 (Nat.le_refl _)) B5.out (fun h0 => B4.out.lt h0) hx0 hx1).mono ?_
      rintro e w2 ⟨c, us, rfl, M⟩
      have I2 := I.step (Nm.trim_length ys) A5.out B5.out (by rw [Nm.trim_length]; exact hlt) (by omega) X.out M
      obtain ⟨y, hy⟩ : ∃ y, w2.cell? ⟨w'.heap.size, j + Nm.tsize ys, none⟩ = some (.int .u64 y) := ⟨_, M.1.1.cell _ (by have := M.1.2.1; omega)⟩
      have hfr := M.1.1.free (j + Nm.tsize ys)
      clear M
      go_wp2
      go_roundw
      case rel => exact ⟨j + 1, _, by omega, by go_num, I2⟩
      case measure => simp [intOf]; omega
    · have hjn : j = Nm.tsize zs := by omega
      subst hjn
      have E := I.2.2.2.1
      rw [List.take_of_length_le (by rw [Nm.trim_length]; omega), Nm.val_trim, Nm.val_trim] at E
      have EE := hid E
      clear E
      go_wp2_with fail
      refine (limited_own_big w'.heap.size (Nm.tsize zs + Nm.tsize ys) os _ I.2.1 (by omega) I.1 I.2.2.1 (by rw [EE.out]; exact HS.out)).mono ?_
      rintro e w3 ⟨rfl, rfl⟩
      have HB := hid I.2.2.2.2
      clear I
      go_wp2_with fail
      go_ret2
      exact ⟨rfl, HB.out⟩
end Go.Proofs.YtjkefcikepnbpaaGreatDoor

namespace Go.Proofs.YtjkefcikepnbpaaGreatDoor
open Go.RowKit Go.Deep

/-- A number, or that it is too big. -/
def Gives (T : Int) (w : World) (e : Ending) (w' : World) : Prop :=
  ((T < Nm.pw 4096 ∧ ∃ r os, e = .returned (.tuple #[.slice r (List.length os) (List.length os), .int .i64 0]) ∧ Ans w.heap.size w' r os T) ∨ (Nm.pw 4096 ≤ T ∧ e = .returned (.tuple #[.slice none 0 0, .int .i64 2]))) ∧ Below w.heap.size w w'

theorem Ans.argT {B : Nat} {w : World} {p : Option Addr} {ys : List Int} {n : Int} (h : Ans B w p ys n) (hn : n < Nm.pw 4096) : Arg w p ys.length ys.length ys :=
  h.arg (by have := h.small hn; omega)

theorem Ans.tsT {B : Nat} {w : World} {p : Option Addr} {ys : List Int} {n : Int} (h : Ans B w p ys n) (hn : n < Nm.pw 4096) : Nm.tsize ys ≤ 4096 := by
  rw [h.2.2.1]
  exact h.small hn

theorem Ans.upT {B B' : Nat} {w : World} {p : Option Addr} {ys : List Int} {n : Int} (h : Ans B w p ys n) (hB : B' ≤ B) : Ans B' w p ys n :=
  ⟨h.1, h.2.1, h.2.2.1, h.2.2.2.1, fun a ha => Nat.le_trans hB (h.2.2.2.2 a ha)⟩

theorem mul_gives (p q : Option Addr) (n cap m cap' : Nat) (zs ys : List Int) (T : Int) (w : World) (ha : Arg w p n cap zs) (hb : Arg w q m cap' ys) (tz : Nm.tsize zs ≤ 4096) (ty : Nm.tsize ys ≤ 4096) (hT : Nm.val zs * Nm.val ys = T) :
    Calls Tryz.prog 65 #[.slice p n cap, .slice q m cap'] w fun e w' => Gives T w e w' := by
  by_cases h : T < Nm.pw 4096
  · refine (mul_ok p q n cap m cap' zs ys w ha hb tz ty (by rw [hT]; exact h)).mono ?_
    rintro e w' ⟨r, os, rfl, A, hb⟩
    rw [hT] at A
    exact ⟨.inl ⟨h, r, os, rfl, A⟩, hb⟩
  · refine (mul_over p q n cap m cap' zs ys w ha hb tz ty (by rw [hT]; exact Int.not_lt.1 h)).mono ?_
    rintro e w' ⟨rfl, hb⟩
    exact ⟨.inr ⟨Int.not_lt.1 h, rfl⟩, hb⟩

theorem limbs_isT (p : Option Addr) (n cap : Nat) (zs : List Int) (N : Nat) (w : World) (ha : Arg w p n cap zs) (hN : Nm.tsize zs = N) :
    Calls Tryz.prog 117 #[.slice p n cap] w fun e w' => e = .returned (.int .i64 (N : Int)) ∧ w' = w := by
  rw [← hN]
  exact limbs_any p n cap zs w ha

theorem bitLen_isT (L : Nat) (p : Option Addr) (n cap : Nat) (zs : List Int) (w : World) (ha : Arg w p n cap zs) (hb : blen zs = (L : Int)) :
    Calls Tryz.prog 77 #[.slice p n cap] w fun e w' => e = .returned (.int .i64 (L : Int)) ∧ w' = w := by
  rw [← hb]
  exact bitLen_any p n cap zs w ha
end Go.Proofs.YtjkefcikepnbpaaGreatDoor

namespace Go.Proofs.YtjkefcikepnbpaaGreatDoor
open Go.RowKit Go.Deep

structure ShutL (p : Prop) : Prop where
  out : p

theorem wpList_append_l {ty : TypeId} {ops : Array Oper} {rest : List Oper} {o : Oper} {a : Act} {Q : Exit → Act → World → Prop} (hgd : o.guard = none) (s x : Operand)
    (ho : o.op = .call { callee := .builtin .append, args := #[s, x], argTypes := #[ty, ty] }) {v y v' : Value} {w w' : World} (hr : (Builtin.append_ #[ty, ty] o.type #[v, y]).run Tryz.prog w = .ok v' w') (hs : a.eval s = v) (hx : a.eval x = y)
    (h : wpList Tryz.prog ops Q rest (a.put o.dst v') w') : wpList Tryz.prog ops Q (o :: rest) a w := by
  refine wpList_plain hgd fun K hK => ?_
  unfold Oper.wp execOp
  simp only [ho, resolve, invoke, builtin, Sem.run_bind, Sem.run_pure, Result.andThen_ok, List.map_toArray, List.map_cons, List.map_nil, hs, hx, hr]
  exact hK _ _ h

/-- The rows b, b^2, b^4 .. that are at most A. -/
structure RowsIn (base : Nat) (b A : Int) (mv : Value) (l : List (Option Addr × List Int)) (w : World) : Prop where
  own : w.ownsRow base 96 1 mv l.length (l.map rowV)
  row : ∀ i e, l[i]? = some e → RowIn w mv e (b ^ (2 ^ i)) ∧ b ^ (2 ^ i) ≤ A

theorem RowsIn.below {base : Nat} {b A : Int} {mv : Value} {l : List (Option Addr × List Int)} {w w' : World} (h : RowsIn base b A mv l w) (hb : Below w.heap.size w w') : RowsIn base b A mv l w' :=
  ⟨h.own.kept (row := none) ⟨hb.os, hb.tape, hb.output, hb.size, fun j hj _ => hb.block j hj⟩ (by cases h : Value.ownBlock mv <;> simp), fun i e he => ⟨(h.row i e he).1.below hb, (h.row i e he).2⟩⟩

theorem pw_big : Nm.pw 4096 = 2 ^ 262144 := by rw [Nm.pw_two 4096, show 64 * 4096 = 262144 from rfl]

/-- The next row, or the error that says that it is too long. -/
inductive SqNext (b : Int) (k : Nat) (mv : Value) (r : Option Addr) (us : List Int) (w : World) : Int → Prop
  | go : b ^ (2 ^ k) < Nm.pw 4096 → RowIn w mv (r, us) (b ^ (2 ^ k)) → SqNext b k mv r us w 0
  | stop : Nm.pw 4096 ≤ b ^ (2 ^ k) → SqNext b k mv r us w 2

theorem RowsIn.few {base : Nat} {b A : Int} {mv : Value} {l : List (Option Addr × List Int)} {w : World} (h : RowsIn base b A mv l w) (hb : 2 ≤ b) (hA : A < Nm.pw 4096) : l.length ≤ 18 := by
  rcases Nat.eq_zero_or_pos l.length with c | c
  · omega
  · have he : l[l.length - 1]? = some l[l.length - 1] := List.getElem?_eq_getElem (by omega)
    have := Ln.few hb (h.row _ _ he).2 (by rw [← pw_big]; exact hA)
    omega

set_option maxRecDepth 100000 in
set_option maxHeartbeats 4000000 in
theorem nsquares_any (p q : Option Addr) (m cap' : Nat) (os za : List Int) (b A : Int) (B : Nat) (w : World) (hp : Ans B w p os b) (hb0 : 2 ≤ b) (hb1 : b < 18446744073709551616) (ha : Arg w q m cap' za) (hA : Nm.val za = A) (ts : Nm.tsize za ≤ 4096) :
    Calls Tryz.prog 136 #[.slice p (List.length os) (List.length os), .slice q m cap'] w fun e w' => ∃ mv l, e = .returned mv ∧ Hid (RowsIn w.heap.size b A mv l w' ∧ A < b ^ (2 ^ l.length) ∧ l.length ≤ 18 ∧ Below w.heap.size w w') := by
  have hAs : ShutL (A < Nm.pw 4096) := ⟨by rw [← hA]; exact (Nm.tsize_le_iff ha.2.2.2.2 4096).1 ts⟩
  have HV := hid hA
  have HA := hid ha
  have HB := hid hb0
  have P0 : Hid (RowIn w (.slice none 0 0) (p, os) (b ^ (2 ^ 0))) := by
    show RowIn _ _ _ _
    rw [Nat.pow_zero, Int.pow_succ, Int.pow_zero, Int.one_mul]
    refine ⟨hp.1, hp.2.1, hp.2.2.1, hp.2.2.2.1, fun a ha => ⟨hp.1.lt ?_ a ha, by simp [Value.ownBlock]⟩⟩
    rcases Nat.eq_zero_or_pos os.length with c | c
    · have := hp.2.2.2.1
      rw [List.eq_nil_of_length_eq_zero c] at this
      simp [Nm.val] at this
      omega
    · exact c
  have S0 : ShutL (b ^ (2 ^ 0) < Nm.pw 4096) := by
    refine ⟨?_⟩
    rw [Nat.pow_zero, Int.pow_succ, Int.pow_zero, Int.one_mul]
    have h := Nm.pw_mono (show 1 ≤ 4096 by omega)
    have e : Nm.pw 1 = 18446744073709551616 := by simp [Nm.pw]
    rw [e] at h
    exact Int.lt_of_lt_of_le hb1 h
  clear hp hb0 hb1 ha hA ts
  go_enter Tryz.func136, Tryz.ntmps136
  go_wp2_with fail
  go_loopg [0, 5, 6] 20 (fun x a c e wr => ∃ (mv : Value) (l : List (Option Addr × List Int)) (r : Option Addr) (us : List Int) (E : Int), a = .slice r (List.length us) (List.length us) ∧ c = mv ∧ e = .int .i64 E ∧ Hid (x + l.length = 20) ∧ Hid (RowsIn w.heap.size b A mv l wr) ∧ Hid (Below w.heap.size w wr) ∧ SqNext b l.length mv r us wr E)
  case atStart => exact ⟨.slice none 0 0, [], p, os, 0, rfl, rfl, rfl, rfl, ⟨World.ownsRow_nil _ _ _ _, fun i e h => by simp at h⟩, Below.refl _ _, .go S0.out P0.out⟩
  case round =>
    clear P0 S0
    obtain ⟨mv, l, r, us, E, rfl, hmv, rfl, GK, RI, D, W⟩ := hrel
    have hmv := hmv.symm
    subst hmv
    have L18 := hid (RI.out.few HB.out hAs.out)
    have W0 : (E = 0 ∧ b ^ (2 ^ l.length) < Nm.pw 4096 ∧ RowIn wr mv (r, us) (b ^ (2 ^ l.length))) ∨ (E = 2 ∧ Nm.pw 4096 ≤ b ^ (2 ^ l.length)) := by
      cases W with
      | go h1 h2 => exact .inl ⟨rfl, h1, h2⟩
      | stop h => exact .inr ⟨rfl, h⟩
    clear W
    rcases W0 with ⟨hE, hs, hr⟩ | ⟨hE, hs⟩
    · subst hE
      have HS : ShutL (b ^ (2 ^ l.length) < Nm.pw 4096) := ⟨hs⟩
      have HR := hid hr
      have lus : Hid (us.length ≤ 4096) := by
        show _ ≤ _
        have h1 := (Nm.tsize_le_iff hr.2.1 4096).2 (by rw [hr.2.2.2.1]; exact hs)
        have h2 := hr.2.2.1
        simp only at h1 h2
        omega
      have HAr := hid (HA.out.below D.out (Nat.le_refl _))
      obtain ⟨c, hc0⟩ : ∃ c, cmpI (b ^ (2 ^ l.length)) A = c := ⟨_, rfl⟩
      have HC := hid hc0
      clear hc0
      have CM := hid (cmp_is c r q _ _ m cap' us za wr (hr.arg (by have := lus.out; simp only; omega)) HAr.out (by rw [show Nm.val us = b ^ (2 ^ l.length) from hr.2.2.2.1, HV.out]; exact HC.out))
      clear hs hr HAr
      by_cases hgt : A < b ^ (2 ^ l.length)
      · have hc : c = 1 := by rw [← HC.out]; exact cmpI_gt hgt
        have HG := hid hgt
        subst hc
        clear hgt
        go_wp2_with fail
        refine CM.out.mono ?_
        rintro e w1 ⟨rfl, d1⟩
        have F : Hid (RowsIn w.heap.size b A mv l w1 ∧ A < b ^ (2 ^ l.length) ∧ l.length ≤ 18 ∧ Below w.heap.size w w1) := ⟨RI.out.below d1, HG.out, L18.out, chain D.out d1 (Nat.le_refl _)⟩
        clear d1
        go_wp2_with fail
        go_ret
        exact ⟨mv, l, rfl, F⟩
      · have hcle : c ≤ 0 := by
          rw [← HC.out]
          rcases (show b ^ (2 ^ l.length) = A ∨ b ^ (2 ^ l.length) < A by omega) with h | h
          · rw [cmpI_eq h]; omega
          · rw [cmpI_lt h]; omega
        have HLE : Hid (b ^ (2 ^ l.length) ≤ A) := by show _ ≤ _; omega
        clear hgt
        go_wp2_with fail
        refine CM.out.mono ?_
        rintro e w1 ⟨rfl, d1⟩
        have RI1 := RI.out.below d1
        have HR1 := HR.out.below d1
        have D1 := hid (chain D.out d1 (Nat.le_refl _))
        obtain ⟨mv', w2, ap, j1, j2, j3, j4, j5⟩ := pushRow w.heap.size l.length mv (l.map rowV) (rowV (r, us)) w1 (by have := L18.out; omega) rfl D1.out.size RI1.own
        have AP : Hid ((Builtin.append_ #[174, 174] 174 #[mv, .slice (some ⟨w1.heap.size, 0, none⟩) 1 1]).run Tryz.prog (w1.alloc (.cells #[.slice r (List.length us) (List.length us)] 96)) = .ok mv' w2) := ap
        have D2 := hid (D1.out.trans j2)
        have HR2 := hid (HR1.pushed j3 j4 j5)
        have RI2 : Hid (RowsIn w.heap.size b A mv' (l ++ [(r, us)]) w2) := by
          refine ⟨by simpa using j1, fun i e he => ?_⟩
          by_cases hi : i < l.length
          · rw [List.getElem?_append_left hi] at he
            exact ⟨(RI1.row i e he).1.pushed j3 j4 j5, (RI1.row i e he).2⟩
          · have hlt := (List.getElem?_eq_some_iff.1 he).1
            simp only [List.length_append, List.length_cons, List.length_nil] at hlt
            have hi2 : i = l.length := by omega
            subst hi2
            rw [List.getElem?_append_right (by omega), Nat.sub_self] at he
            simp at he
            subst he
            exact ⟨HR1.pushed j3 j4 j5, HLE.out⟩
        have MU := hid (mul_gives r r _ _ _ _ us us (b ^ (2 ^ (l.length + 1))) w2 (HR2.out.arg (by have := lus.out; simp only; omega)) (HR2.out.arg (by have := lus.out; simp only; omega)) (by rw [show Nm.tsize us = us.length from HR2.out.2.2.1]; exact lus.out) (by rw [show Nm.tsize us = us.length from HR2.out.2.2.1]; exact lus.out) (by rw [show Nm.val us = b ^ (2 ^ l.length) from HR2.out.2.2.2.1]; exact Ln.square b l.length))
        have BP := hid (show 0 < b ^ (2 ^ (l.length + 1)) from Int.pow_pos (by have := HB.out; omega))
        clear ap j1 j2 j3 j4 j5 RI1 HR1 d1 CM RI D HR
        go_wp2_with (at_builtin; refine wpList_append_l rfl _ _ rfl AP.out (by rfl) (by rfl) ?_; clear AP)
        refine MU.out.mono ?_
        rintro e w3 ⟨h | h, d3⟩
        · obtain ⟨h1, r3, us3, rfl, A3⟩ := h
          have N3 : SqNext b (l.length + 1) mv' r3 us3 w3 0 := .go h1 (A3.row rfl RI2.out.own BP.out)
          have RI3 := hid (RI2.out.below d3)
          have D3 := hid (chain D2.out d3 (Nat.le_refl _))
          clear h1 A3 d3 MU
          go_wp2_with fail
          go_roundg (19 - l.length)
          case measure => have := GK.out; have := L18.out; omega
          case rel => exact ⟨mv', l ++ [(r, us)], r3, us3, 0, rfl, rfl, rfl, by show _ = _; have := L18.out; rw [List.length_append]; simp only [List.length_cons, List.length_nil]; omega, RI3.out, D3.out, by rw [List.length_append]; exact N3⟩
        · obtain ⟨h1, rfl⟩ := h
          have N3 : SqNext b (l.length + 1) mv' none [] w3 2 := .stop h1
          have RI3 := hid (RI2.out.below d3)
          have D3 := hid (chain D2.out d3 (Nat.le_refl _))
          clear h1 d3 MU
          go_wp2_with fail
          go_roundg (19 - l.length)
          case measure => have := GK.out; have := L18.out; omega
          case rel => exact ⟨mv', l ++ [(r, us)], none, [], 2, rfl, rfl, rfl, by show _ = _; have := L18.out; rw [List.length_append]; simp only [List.length_cons, List.length_nil]; omega, RI3.out, D3.out, by rw [List.length_append]; exact N3⟩
    · subst hE
      have F : Hid (RowsIn w.heap.size b A mv l wr ∧ A < b ^ (2 ^ l.length) ∧ l.length ≤ 18 ∧ Below w.heap.size w wr) := ⟨RI.out, Int.lt_of_lt_of_le hAs.out hs, L18.out, D.out⟩
      clear hs
      go_wp2_with fail
      go_ret
      exact ⟨mv, rfl, l, F⟩
end Go.Proofs.YtjkefcikepnbpaaGreatDoor

namespace Go.Proofs.YtjkefcikepnbpaaGreatDoor
open Go.RowKit Go.Deep

theorem len_any (x : Int) (l : Nat) (w : World) (h0 : 0 ≤ x) (h1 : x < 18446744073709551616) (hl : Lib.bitLen x.toNat = l) :
    Calls Tryz.prog 145 #[.int .u64 x] w fun e w' => e = .returned (.int .i64 (l : Int)) ∧ w' = w := by
  have L := len64 x w h0 h1
  rw [hl] at L
  have HL := hid L
  clear L hl
  go_enter Tryz.func145, Tryz.ntmps145
  go_wp2_with fail
  refine HL.out.mono ?_
  rintro e w' ⟨rfl, rfl⟩
  go_wp2_with fail
  go_ret
  exact ⟨rfl, rfl⟩

theorem one_bit_i64 (x : Nat) (h1 : x < 9223372036854775808) : bits .and .i64 (x : Int) 1 = ((x % 2 : Nat) : Int) := by
  have h : x &&& 1 = x % 2 := Nat.and_two_pow_sub_one_eq_mod x 1
  have e1 : (BitVec.ofInt 64 (x : Int)).toNat = x := by
    rw [BitVec.ofInt_natCast, BitVec.toNat_ofNat]; exact Nat.mod_eq_of_lt (by omega)
  have e2 : (BitVec.ofInt 64 (1 : Int)).toNat = 1 := by decide
  show IntKind.i64.wrap ((BitVec.ofInt 64 (x : Int) &&& BitVec.ofInt 64 (1 : Int)).toNat : Int) = _
  rw [BitVec.toNat_and, e1, e2, h]
  have : x % 2 < 2 := Nat.mod_lt _ (by omega)
  rw [IntKind.wrap_i64]
  omega

/-- The length of an exponent. -/
theorem exp_len (n : Nat) (h1 : 1 ≤ n) (h2 : n < 18446744073709551616) : ∃ j, Lib.bitLen n = j + 1 ∧ n / 2 ^ j = 1 ∧ j ≤ 63 := by
  have hb := Lib.bitLenAux_bounds 64 n (by simpa using h2) (by omega)
  rw [show Lib.bitLenAux 64 n = Lib.bitLen n from rfl] at hb
  have hs := bitLen_small n h2
  obtain ⟨j, hj⟩ : ∃ j, Lib.bitLen n = j + 1 := ⟨Lib.bitLen n - 1, by omega⟩
  rw [hj, Nat.add_sub_cancel] at hb
  refine ⟨j, hj, ?_, by omega⟩
  have p1 : 0 < 2 ^ j := Nat.pow_pos (by omega)
  rw [Nat.pow_succ] at hb
  exact Nat.div_eq_of_lt_le (by omega) (by omega)

set_option maxRecDepth 100000 in
set_option maxHeartbeats 2000000 in
theorem power_any (p : Option Addr) (m cap : Nat) (zs : List Int) (A : Int) (n : Nat) (w : World) (ha : Arg w p m cap zs) (tz : Nm.tsize zs ≤ 4096) (hA : Nm.val zs = A) (hA1 : 1 ≤ A) (h1 : 1 ≤ n) (h2 : n < 4611686018427387904) :
    Calls Tryz.prog 119 #[.slice p m cap, .int .i64 (n : Int)] w fun e w' => Gives (A ^ n) w e w' := by
  obtain ⟨j0, hj0, hj1, hj63⟩ := exp_len n h1 (by omega)
  have TR := hid (trim_any p m cap zs w ha)
  have HA := hid ha
  have HAs : Hid (A < Nm.pw 4096) := by show _ < _; rw [← hA]; exact (Nm.tsize_le_iff ha.2.2.2.2 4096).1 tz
  have HVA := hid hA
  have HT := hid tz
  have HA1 := hid hA1
  have HJ1 := hid hj1
  have hn0 : (0 : Int) ≤ (n : Int) := by omega
  have hn1 : (n : Int) < 4611686018427387904 := by omega
  have HL := hid hj0
  obtain ⟨l, hl⟩ : ∃ l, l = j0 + 1 := ⟨_, rfl⟩
  have rl : (l : Int) - 2 = (j0 : Int) - 1 := by omega
  have HLL := hid hl
  have hl64 : (l : Int) ≤ 64 := by omega
  have hl1 : (1 : Int) ≤ (l : Int) := by omega
  clear ha hA tz hA1 hj0 hj1 hl h1 h2
  go_enter Tryz.func119, Tryz.ntmps119
  go_wp2_with fail
  refine TR.out.mono ?_
  rintro e w1 ⟨r, os, rfl, -, A1, hb1⟩
  rw [HVA.out] at A1
  have HB1 := hid A1
  have D1 := hid hb1
  clear A1 hb1 TR
  go_wp2_with fail
  refine (len_any (n : Int) l _ hn0 (by omega) (by rw [Int.toNat_natCast, HL.out, HLL.out])).mono ?_
  rintro e w2 ⟨rfl, rfl⟩
  go_wp2_with fail
  go_loopw [6, 7] (fun o i wr => ∃ (j : Nat) (r : Option Addr) (os : List Int), j ≤ j0 ∧ i = .int .i64 ((j : Int) - 1) ∧ o = .slice r (List.length os) (List.length os) ∧ Hid (Ans w.heap.size wr r os (A ^ (n / 2 ^ j))) ∧ Hid (A ^ (n / 2 ^ j) < Nm.pw 4096) ∧ Hid (Below w.heap.size w wr)) (fun _ i _ => (intOf i + 1).toNat)
  case atStart => exact ⟨j0, r, os, Nat.le_refl _, by first | rfl | rw [rl], rfl, by rw [HJ1.out, Int.pow_succ, Int.pow_zero, Int.one_mul]; exact HB1.out, by rw [HJ1.out, Int.pow_succ, Int.pow_zero, Int.one_mul]; exact HAs.out, D1.out⟩
  case round =>
    clear HB1 D1 rl
    obtain ⟨j, r, os, hj, rfl, rfl, HO, HS, D⟩ := hrel
    by_cases hj0' : j = 0
    · subst hj0'
      have F : Hid (Gives (A ^ n) w (.returned (.tuple #[.slice r (List.length os) (List.length os), .int .i64 0])) wr) := by
        have h1 := HO.out
        have h2 := HS.out
        rw [Nat.pow_zero, Nat.div_one] at h1 h2
        exact ⟨.inl ⟨h2, r, os, rfl, h1⟩, D.out⟩
      go_wp2_with fail
      go_ret2
      exact F.out
    · obtain ⟨t, rfl⟩ : ∃ t, j = t + 1 := ⟨j - 1, by omega⟩
      have MU := hid (mul_gives r r _ _ _ _ os os (A ^ (n / 2 ^ (t + 1)) * A ^ (n / 2 ^ (t + 1))) wr (HO.out.argT HS.out) (HO.out.argT HS.out) (HO.out.tsT HS.out) (HO.out.tsT HS.out) (by rw [HO.out.2.2.2.1]))
      go_wp2_with fail
      refine MU.out.mono ?_
      rintro e w3 ⟨h | h, hb3⟩
      · obtain ⟨hs3, s, ss, rfl, A3⟩ := h
        have HB3 := hid (A3.upT (B' := w.heap.size) D.out.size)
        have HS3 := hid hs3
        have D3 := hid (chain D.out hb3 (Nat.le_refl _))
        obtain ⟨x, hx⟩ : ∃ x, n / 2 ^ t = x := ⟨_, rfl⟩
        have hx63 : x < 9223372036854775808 := by have : n / 2 ^ t ≤ n := Nat.div_le_self _ _; omega
        have r1 : (n : Int) / 2 ^ t = (x : Int) := by rw [← hx]; simp
        have r2 := one_bit_i64 x hx63
        have HX := hid hx
        clear hs3 A3 hb3 hx
        rcases (show x % 2 = 0 ∨ x % 2 = 1 by omega) with hb | hb
        · rw [hb] at r2
          have HE := hid (Pn.square A n t (by rw [HX.out]; exact hb))
          rw [HE.out] at HB3 HS3
          clear hb
          go_wp2_with fail
          go_roundw
          case rel => exact ⟨t, s, ss, by omega, by go_num, rfl, HB3, HS3, D3⟩
          case measure => simp [intOf]
        · rw [hb] at r2
          have HE := hid (Pn.square_odd A n t (by rw [HX.out]; exact hb))
          have HA3 := hid (HA.out.below D3.out (Nat.le_refl _))
          have MU2 := hid (mul_gives s p _ _ m cap ss zs (A ^ (n / 2 ^ t)) w3 (HB3.out.argT HS3.out) HA3.out (HB3.out.tsT HS3.out) HT.out (by rw [HB3.out.2.2.2.1, HVA.out]; exact HE.out))
          clear hb
          go_wp2_with fail
          refine MU2.out.mono ?_
          rintro e w4 ⟨h | h, hb4⟩
          · obtain ⟨hs4, s4, ss4, rfl, A4⟩ := h
            have HB4 := hid (A4.upT (B' := w.heap.size) D3.out.size)
            have HS4 := hid hs4
            have D4 := hid (chain D3.out hb4 (Nat.le_refl _))
            clear hs4 A4 hb4
            go_wp2_with fail
            go_roundw
            case rel => exact ⟨t, s4, ss4, by omega, by go_num, rfl, HB4, HS4, D4⟩
            case measure => simp [intOf]
          · obtain ⟨hs4, rfl⟩ := h
            have F : Hid (Gives (A ^ n) w (.returned (.tuple #[.slice none 0 0, .int .i64 2])) w4) :=
              ⟨.inr ⟨Int.le_trans hs4 (Pn.part_le HA1.out n t), rfl⟩, chain D3.out hb4 (Nat.le_refl _)⟩
            clear hs4 hb4
            go_wp2_with fail
            go_ret2
            exact F.out
      · obtain ⟨hs3, rfl⟩ := h
        have F : Hid (Gives (A ^ n) w (.returned (.tuple #[.slice none 0 0, .int .i64 2])) w3) :=
          ⟨.inr ⟨Int.le_trans hs3 (Pn.square_le HA1.out n t), rfl⟩, chain D.out hb3 (Nat.le_refl _)⟩
        clear hs3 hb3
        go_wp2_with fail
        go_ret2
        exact F.out
end Go.Proofs.YtjkefcikepnbpaaGreatDoor

namespace Go.Proofs.YtjkefcikepnbpaaGreatDoor
open Go.RowKit Go.Deep

/-- The k-th group lies from at on, up to en. -/
structure Grp (r W k at_ en : Nat) : Prop where
  e : en = r + k * W
  z : k = 0 → at_ = 0
  s : ∀ q, k = q + 1 → at_ = r + q * W

theorem Grp.next {r W k a b : Nat} (h : Grp r W k a b) : Grp r W (k + 1) b (b + W) :=
  ⟨by rw [h.e, Nat.add_mul]; omega, fun c => by omega, fun q hq => by obtain rfl : q = k := by omega
                                                                      exact h.e⟩

theorem Grp.le {r W k a b : Nat} (h : Grp r W k a b) (hr : r ≤ W) : a ≤ b ∧ b - a ≤ W ∧ (0 < k → b = a + W) := by
  cases k with
  | zero => have := h.z rfl; have := h.e; omega
  | succ q =>
    have h1 := h.s q rfl
    have h2 := h.e
    rw [Nat.add_mul] at h2
    omega

theorem Grp.in {r W k a b Q m : Nat} (h : Grp r W k a b) (hm : m = r + Q * W) (ha : a < m) : k ≤ Q ∧ b ≤ m := by
  have hk : k ≤ Q := by
    cases k with
    | zero => omega
    | succ q =>
      have h1 := h.s q rfl
      have : q * W < Q * W := by omega
      have := Nat.lt_of_mul_lt_mul_right this
      omega
  refine ⟨hk, ?_⟩
  have := Nat.mul_le_mul_right W hk
  have := h.e
  omega

theorem tv_group (B : Int) (ys : List Int) (a b : Nat) (hab : a ≤ b) : Dn.tv B 0 (ys.take b) = Dn.tv B 0 (ys.take a) * B ^ ((ys.drop a).take (b - a)).length + Dn.tv B 0 ((ys.drop a).take (b - a)) := by
  have e : ys.take b = ys.take a ++ (ys.drop a).take (b - a) := by
    rw [show b = a + (b - a) by omega, List.take_add]
    simp
  rw [e, Dn.tv_append, Dn.tv_acc]

theorem tv_grows {B : Int} (hB : 1 ≤ B) (ys : List Int) (hd : ∀ d ∈ ys, 0 ≤ d) (k : Nat) : Dn.tv B 0 (ys.take k) ≤ Dn.tv B 0 ys := by
  have e : Dn.tv B 0 ys = Dn.tv B 0 (ys.take k) * B ^ (ys.drop k).length + Dn.tv B 0 (ys.drop k) := by
    conv => lhs; rw [← List.take_append_drop k ys]
    rw [Dn.tv_append, Dn.tv_acc]
  have h0 := Dn.tv_nonneg (B := B) (by omega) 0 (ys.take k) (Int.le_refl _) (fun d h => hd d (List.mem_of_mem_take h))
  have h1 := Dn.tv_nonneg (B := B) (by omega) 0 (ys.drop k) (Int.le_refl _) (fun d h => hd d (List.mem_of_mem_drop h))
  have h2 : 1 ≤ B ^ (ys.drop k).length := by have : 0 < B ^ (ys.drop k).length := Int.pow_pos (by omega); omega
  have h3 := Int.mul_le_mul_of_nonneg_left h2 h0
  rw [Int.mul_one] at h3
  omega

theorem tv_zeros (B : Int) : ∀ (j : Nat) (ys : List Int), j ≤ ys.length → (∀ i, i < j → ys.getD i 0 = 0) → Dn.tv B 0 (ys.drop j) = Dn.tv B 0 ys
  | 0, ys, _, _ => by simp
  | j + 1, [], h, _ => by simp at h
  | j + 1, y :: ys, h, hz => by
    have h0 := hz 0 (by omega)
    simp at h0
    subst h0
    have ih := tv_zeros B j ys (by simpa using h) (fun i hi => by have := hz (i + 1) (by omega); simpa using this)
    simpa [Dn.tv] using ih

theorem getD_map_wv (xs : List Int) (i : Nat) (hi : i < xs.length) : (xs.map wv).getD i 0 = wv (xs.getD i 0) := by simp [List.getD, hi]

theorem digs_mem {xs : List Int} {B : Int} (hd : ∀ i, i < xs.length → wv (xs.getD i 0) < B) : ∀ d ∈ xs.map wv, 0 ≤ d ∧ d < B := by
  intro d hm
  obtain ⟨y, hy, rfl⟩ := List.mem_map.1 hm
  obtain ⟨i, hi, rfl⟩ := List.getElem_of_mem hy
  have := hd i hi
  simp only [List.getD, List.getElem?_eq_getElem hi, Option.getD_some] at this
  exact ⟨(wv_bd _).1, this⟩

set_option maxRecDepth 100000 in
set_option maxHeartbeats 4000000 in
theorem natural_any (s : ByteArray) (xs : List Int) (B : Int) (w : World) (hs : Str s xs) (hn : xs.length ≤ 140737488355328) (h2 : 2 ≤ B) (h36 : B ≤ 36) (hd : ∀ i, i < xs.length → wv (xs.getD i 0) < B) :
    Calls Tryz.prog 207 #[.string s, .int .u64 B] w fun e w' => Gives (Dn.tv B 0 (xs.map wv)) w e w' := by
  have ST := hid (strim_any s xs w hs (by omega))
  have GR := hid (group_any B w h2 h36)
  have HD := hid hd
  have HN := hid hn
  obtain ⟨T, HT0⟩ : ∃ T, ShutG (Dn.tv B 0 (xs.map wv) = T) := ⟨_, ⟨rfl⟩⟩
  rw [HT0.out]
  clear hs hd hn
  go_enter Tryz.func207, Tryz.ntmps207
  go_wp2_with fail
  refine ST.out.mono ?_
  rintro e w' ⟨⟨s', j, rfl, BA, -⟩, rfl⟩
  obtain ⟨ys, hys⟩ : ∃ ys, xs.drop j = ys := ⟨_, rfl⟩
  have SY : Hid (Str s' ys) := by rw [← hys]; exact BA.1
  have TV : Hid (Dn.tv B 0 (xs.map wv) = Dn.tv B 0 (ys.map wv)) := by
    show _ = _
    rw [← hys, List.map_drop, tv_zeros B j (xs.map wv) (by simpa using BA.2.1) (fun i hi => by
      rw [getD_map_wv xs i (by have := BA.2.1; omega), BA.2.2 i hi]
      rfl)]
  have DY : Hid (∀ i, i < ys.length → wv (ys.getD i 0) < B) := by
    intro i hi
    rw [← hys] at hi ⊢
    have := HD.out (j + i) (by simp at hi; omega)
    simpa [List.getD] using this
  obtain ⟨m, HM⟩ : ∃ m, Hid (ys.length = m) := ⟨_, rfl⟩
  have hm47 : (m : Int) ≤ 140737488355328 := by have := HM.out; rw [← hys] at this; have := HN.out; simp at *; omega
  have hsz : s'.size = m := by rw [SY.out.size, HM.out]
  have HT : ShutG (Dn.tv B 0 (ys.map wv) = T) := ⟨TV.out.symm.trans HT0.out⟩
  clear HT0 ST BA hys TV HD HN
  go_wp2_with fail
  refine GR.out.mono ?_
  rintro e w' ⟨⟨W, P, rfl, hP, hW1, hW63, hPl⟩, rfl⟩
  have HP := hid hP
  have HPL := hid hPl
  have hP0 : 0 ≤ P := by rw [hP]; exact Int.le_of_lt (Int.pow_pos (by omega))
  obtain ⟨r, HR⟩ : ∃ r, Hid (m % W = r) := ⟨_, rfl⟩
  obtain ⟨Q, HQ⟩ : ∃ Q, Hid (m / W = Q) := ⟨_, rfl⟩
  have MQ : Hid (m = r + Q * W) := by show _ = _; rw [← HR.out, ← HQ.out]; have := Nat.mod_add_div m W; rw [Nat.mul_comm] at this; omega
  have hrW : Hid (r < W) := by show _ < _; rw [← HR.out]; exact Nat.mod_lt _ (by omega)
  have q1 : (m : Int) % (W : Int) = (r : Int) := by rw [← HR.out]; simp
  have q2 : (m : Int).tmod (W : Int) = (r : Int) := by rw [Int.tmod_eq_emod_of_nonneg (by omega)]; exact q1
  have hW0 : ((W : Int) == 0) = false := by rw [beq_eq_false_iff_ne]; omega
  have hWi : (W : Int) ≤ 63 := by omega
  clear GR hP hPl
  go_upto_region 4 with fail
  go_cut [9, 10] from 19 to 22 (fun a b wx => a = .int .i64 0 ∧ b = .int .i64 (r : Int) ∧ Hid (Below w'.heap.size w' wx))
  case first =>
    go_region
    all_goals (go_wp2_with fail; go_meet; exact ⟨rfl, rfl, below_drewN (Below.refl _ _) _⟩)
  case rest =>
    clear q1 q2 HR HQ
    obtain ⟨rfl, rfl, D0⟩ := hcut
    have G0 : Hid (Grp r W 0 0 r) := ⟨by omega, fun _ => rfl, fun q h => by omega⟩
    have A0 : Hid (Ans w'.heap.size wc none [] (Dn.tv B 0 ((ys.map wv).take 0))) := ⟨Lies.nil _ _, Nm.Limbs.nil, rfl, rfl, fun a h => by cases h⟩
    go_wp2_with fail
    go_loopg [8, 9, 10, 11] (Q + 1) (fun x o a b _ wr => ∃ (k at_ en : Nat) (q : Option Addr) (os : List Int), o = .slice q (List.length os) (List.length os) ∧ a = .int .i64 (at_ : Int) ∧ b = .int .i64 (en : Int) ∧ Hid (x + k = Q + 1 ∧ Grp r W k at_ en ∧ at_ ≤ m) ∧ Hid (Ans w'.heap.size wr q os (Dn.tv B 0 ((ys.map wv).take at_)) ∧ Below w'.heap.size w' wr) ∧ ShutG (Dn.tv B 0 ((ys.map wv).take at_) < Nm.pw 4096))
    case atStart => exact ⟨0, 0, r, none, [], rfl, rfl, rfl, ⟨by omega, G0.out, Nat.zero_le _⟩, ⟨A0.out, D0.out⟩, ⟨by simp only [List.take_zero, Dn.tv]; exact Nm.pw_pos 4096⟩⟩
    case round =>
      clear A0 D0 G0
      obtain ⟨k, at_, en, q, os, rfl, rfl, rfl, GK, I, SM⟩ := hrel
      by_cases hlt : at_ < m
      · have hli : (at_ : Int) < (m : Int) := by omega
        have GI := GK.out.2.1.in MQ.out hlt
        have GL := GK.out.2.1.le (Nat.le_of_lt hrW.out)
        have hae : (at_ : Int) ≤ (en : Int) := by omega
        have hem : (en : Int) ≤ (m : Int) := by omega
        obtain ⟨zs, hzs⟩ : ∃ zs, (ys.drop at_).take (en - at_) = zs := ⟨_, rfl⟩
        have SZ : Str (s'.extract at_ en) zs := by rw [← hzs]; exact SY.out.extract at_ en
        have hzl : zs.length = en - at_ := by rw [← hzs]; have := HM.out; simp; omega
        have hzd : ∀ i, i < zs.length → wv (zs.getD i 0) < B := by
          intro i hi
          have := DY.out (at_ + i) (by have := HM.out; omega)
          rw [← hzs]
          simpa [List.getD, List.getElem?_take, show i < en - at_ by omega] using this
        have LB := hid (limb_any (s'.extract at_ en) zs zs.length W B wr SZ rfl (by omega) hW63 h2 h36 (by rw [← HP.out]; exact HPL.out) hzd)
        obtain ⟨v, HVv⟩ : ∃ v, Hid (Dn.tv B 0 (zs.map wv) = v) := ⟨_, rfl⟩
        rw [HVv.out] at LB
        have zdm := digs_mem hzd
        have hv0 : 0 ≤ v := by rw [← HVv.out]; exact Dn.tv_nonneg (by omega) 0 _ (Int.le_refl _) (fun d h => (zdm d h).1)
        have hv1 : v < 18446744073709551616 := by
          rw [← HVv.out]
          have h1 := Dn.tv_lt (show 0 < B by omega) (zs.map wv) zdm
          have h3 := Pn.pow_mono (show 1 ≤ B by omega) (show (zs.map wv).length ≤ W by simp; omega)
          have h4 := HPL.out
          rw [HP.out] at h4
          omega
        obtain ⟨O, HO⟩ : ∃ O, ShutG (Dn.tv B 0 ((ys.map wv).take at_) = O) := ⟨_, ⟨rfl⟩⟩
        have NX : ShutG (O * P + v = Dn.tv B 0 ((ys.map wv).take en)) := by
          refine ⟨?_⟩
          rw [tv_group B (ys.map wv) at_ en (by omega), HO.out]
          have e1 : ((ys.map wv).drop at_).take (en - at_) = zs.map wv := by rw [← hzs, List.map_take, List.map_drop]
          rw [e1, HVv.out]
          rcases Nat.eq_zero_or_pos k with c | c
          · have h0 := GK.out.2.1.z c
            have : O = 0 := by rw [← HO.out, h0]; rfl
            rw [this, Int.zero_mul, Int.zero_mul]
          · rw [HP.out, show (zs.map wv).length = W by rw [List.length_map, hzl]; have := GL.2.2 c; omega]
        rw [HO.out] at I SM
        have ydm := digs_mem DY.out
        have GROW : ShutG (Dn.tv B 0 ((ys.map wv).take en) ≤ T) := ⟨by rw [← HT.out]; exact tv_grows (by omega) _ (fun d h => (ydm d h).1) _⟩
        have D1 := hid I.out.2
        have AR := hid (I.out.1.argT SM.out)
        have TS := hid (I.out.1.tsT SM.out)
        have VO := hid I.out.1.2.2.2.1
        have GN := hid GK.out.2.1.next
        have hen : en ≤ m := by omega
        have hkQ : Hid (k ≤ Q) := GI.1
        have GKx := hid GK.out.1
        clear SZ hzl hzd zdm ydm hzs I GK GI GL
        go_wp2_with fail
        refine LB.out.mono ?_
        rintro e w1 ⟨rfl, d1⟩
        have MA := hid (mulAdd_any q _ _ os P v w1 (AR.out.below d1 (Nat.le_refl _)) TS.out hP0 HPL.out hv0 hv1)
        rw [VO.out, NX.out] at MA
        have D2 := hid (chain D1.out d1 (Nat.le_refl _))
        clear d1 LB D1 AR TS VO
        go_wp2_with fail
        refine MA.out.mono ?_
        rintro e w2 ⟨m1, m2, d2⟩
        have D3 := hid (chain D2.out d2 (Nat.le_refl _))
        by_cases hbig : Nm.pw 4096 ≤ Dn.tv B 0 ((ys.map wv).take en)
        · have e1 := m2 hbig
          subst e1
          have F : Hid (Gives T w' (.returned (.tuple #[.slice none 0 0, .int .i64 2])) w2) := ⟨.inr ⟨Int.le_trans hbig GROW.out, rfl⟩, D3.out⟩
          clear m1 m2 d2 hbig MA
          go_wp2_with fail
          go_ret2
          exact F.out
        · obtain ⟨q2, os2, he, A2⟩ := m1 (Int.not_le.1 hbig)
          subst he
          have SM2 : ShutG (Dn.tv B 0 ((ys.map wv).take en) < Nm.pw 4096) := ⟨Int.not_le.1 hbig⟩
          have A3 : Hid (Ans w'.heap.size w2 q2 os2 (Dn.tv B 0 ((ys.map wv).take en))) := A2.upT (by have := D2.out.size; exact this)
          clear m1 m2 d2 hbig MA A2
          go_wp2_with fail
          go_roundg (gk - 1)
          case measure => have := GKx.out; have := hkQ.out; omega
          case rel => exact ⟨k + 1, en, en + W, q2, os2, rfl, rfl, by go_num, ⟨by have := GKx.out; have := hkQ.out; omega, GN.out, hen⟩, ⟨A3.out, D3.out⟩, SM2⟩
      · have hle : (m : Int) ≤ (at_ : Int) := by omega
        have e1 : Dn.tv B 0 ((ys.map wv).take at_) = T := by rw [List.take_of_length_le (by have := HM.out; simp; omega), HT.out]
        rw [e1] at I SM
        have F : Hid (Gives T w' (.returned (.tuple #[.slice q (List.length os) (List.length os), .int .i64 0])) wr) := ⟨.inl ⟨SM.out, q, os, rfl, I.out.1⟩, I.out.2⟩
        clear I SM e1 GK
        go_wp2_with fail
        go_ret2
        exact F.out
end Go.Proofs.YtjkefcikepnbpaaGreatDoor
