/-
  Texts put together: MulOver, QGives, NSquares, NGroup, NBTrim, NWritten, NInBase, QPow, QPowG, QPow5, FDigits, IDec, FDec, FTrimR, TrailW.
-/
import Derived.Test.YtaoaniigbooihaaGreatDoorRA
import Derived.Test.YtaoaniigbooihaaGreatDoorNums
import Derived.Test.YtaoaniigbooihaaGreatDoorBlenIs
import Derived.Test.YtaoaniigbooihaaGreatDoorSmall
import Derived.OwnWalk
import Derived.Deep.LoopGhost
import Derived.Test.YtaoaniigbooihaaGreatDoorWalk1
import Derived.Test.YtaoaniigbooihaaGreatDoorNStr
import Derived.Test.YtaoaniigbooihaaGreatDoorFNum
import Derived.Test.YtaoaniigbooihaaGreatDoorFShl
import Derived.Test.YtaoaniigbooihaaGreatDoorIWalk1B
import Derived.Laws.Rows
import Derived.Shelf.Spec.TrailingZeros
import Derived.Laws.Bits64b
import Derived.Lib.ItoaNum
namespace Go.Proofs.YtaoaniigbooihaaGreatDoor
open Go.RowKit Go.Deep

set_option maxRecDepth 100000 in
set_option maxHeartbeats 1000000 in
theorem mul_over (p q : Option Addr) (n cap m cap' : Nat) (zs ys : List Int) (w : World) (ha : Arg w p n cap zs) (hb : Arg w q m cap' ys) (tz : Nm.tsize zs ≤ 4096) (ty : Nm.tsize ys ≤ 4096) (hs : Nm.pw 4096 ≤ Nm.val zs * Nm.val ys) :
    Calls Tryz.prog 104 #[.slice p n cap, .slice q m cap'] w fun e w' => e = .returned (.tuple #[.slice none 0 0, .int .i64 2]) ∧ Below w.heap.size w w' := by
  obtain ⟨a1, a2, a3, a4, a5⟩ := ha
  obtain ⟨b1, b2, b3, b4, b5⟩ := hb
  have HS := hid hs
  clear hs
  have hp := Nm.pw_pos 4096
  have h1 : Nm.tsize zs ≠ 0 := fun h => by
    have e := (Nm.tsize_zero_iff a5).1 h
    have := HS.out
    rw [e, Int.zero_mul] at this
    omega
  have h2 : Nm.tsize ys ≠ 0 := fun h => by
    have e := (Nm.tsize_zero_iff b5).1 h
    have := HS.out
    rw [e, Int.mul_zero] at this
    omega
  have h1' : ((Nm.tsize zs : Int) == 0) = false := by simp [h1]
  have h2' : ((Nm.tsize ys : Int) == 0) = false := by simp [h2]
  clear hp
  by_cases hearly : 4097 < Nm.tsize zs + Nm.tsize ys
  · have he : (4096 : Int) < (Nm.tsize zs : Int) + (Nm.tsize ys : Int) - 1 := by omega
    go_enter Tryz.func104, Tryz.ntmps104
    go_wp2_with fail
    refine (pair_ok p q n cap m cap' zs ys _ a1 a2 (by omega) a4 tz b1 b2 (by omega) b4 ty).mono ?_
    rintro e w' ⟨rfl, rfl⟩
    go_wp2_with fail
    go_ret2
    exact ⟨rfl, Below.refl _ _⟩
  have hsum' : (Nm.tsize zs : Int) + (Nm.tsize ys : Int) ≤ 4097 := by omega
  have hmk := make64 (Nm.tsize zs + Nm.tsize ys) (by omega) w
  have em : ((Nm.tsize zs + Nm.tsize ys : Nat) : Int) = (Nm.tsize zs : Int) + (Nm.tsize ys : Int) := by omega
  rw [em] at hmk
  clear em
  have ho : Own (w.alloc (.cells (madeCells #[.int .u64 0] (Nm.tsize zs + Nm.tsize ys)) 26)) w.heap.size (List.replicate (Nm.tsize zs + Nm.tsize ys) 0) := by
    rw [made_zero]; exact Own.alloc w _
  have hb0 : Below w.heap.size w (w.alloc (.cells (madeCells #[.int .u64 0] (Nm.tsize zs + Nm.tsize ys)) 26)) := (Below.refl _ _).alloc (Nat.le_refl _) _
  have I0 : ProdInv w.heap.size (Nm.tsize zs + Nm.tsize ys) w (Nm.trim zs) (Nm.trim ys) 0 (List.replicate (Nm.tsize zs + Nm.tsize ys) 0) (w.alloc (.cells (madeCells #[.int .u64 0] (Nm.tsize zs + Nm.tsize ys)) 26)) :=
    ⟨ho, by simp, Nm.Limbs.replicate _, by simp [Nm.val_replicate, Nm.val], hb0⟩
  clear ho hb0
  have hsum2 : decide (4096 < (Nm.tsize zs : Int) + (Nm.tsize ys : Int) - 1) = false := by simp; omega
  have A4 := hid a4.trim
  have B4 := hid b4.trim
  obtain ⟨b, off, rfl, hcell⟩ : ∃ b off, p = some ⟨b, off, none⟩ ∧ Hid (∀ i, i < Nm.tsize zs → w.cell? ⟨b, off + i, none⟩ = some (.int .u64 ((Nm.trim zs).getD i 0))) := by
    have hlen := Nm.trim_length zs
    rcases A4.out with h | ⟨b, off, hp, h⟩
    · exfalso
      rw [h] at hlen
      simp at hlen
      omega
    · exact ⟨b, off, hp, fun i hi => h i (by rw [hlen]; exact hi)⟩
  have hbg : b < w.heap.size := cell_lt (hcell.out 0 (by omega))
  have A5 := hid a5.trim
  have B5 := hid b5.trim
  go_enter Tryz.func104, Tryz.ntmps104
  go_wp2_with fail
  refine (pair_ok (some ⟨b, off, none⟩) q n cap m cap' zs ys _ a1 a2 (by omega) a4 tz b1 b2 (by omega) b4 ty).mono ?_
  rintro e w' ⟨rfl, rfl⟩
  clear a4 b4
  go_wp2_with fail
  go_loopw [43] (fun i wr => ∃ (j : Nat) (os : List Int), j ≤ Nm.tsize zs ∧ i = .int .i64 j ∧ ProdInv w'.heap.size (Nm.tsize zs + Nm.tsize ys) w' (Nm.trim zs) (Nm.trim ys) j os wr) (fun i _ => Nm.tsize zs - (intOf i).toNat)
  case atStart => exact ⟨0, _, Nat.zero_le _, rfl, I0⟩
  case round =>
    clear I0 hmk
    obtain ⟨j, os, hj, rfl, I⟩ := hrel
    by_cases hlt : j < Nm.tsize zs
    · obtain ⟨x, hx, X⟩ : ∃ x, wr.cell? ⟨b, off + j, none⟩ = some (.int .u64 x) ∧ Hid (x = (Nm.trim zs).getD j 0) := ⟨_, (I.2.2.2.2.cell (p := ⟨b, off + j, none⟩) hbg).trans (hcell.out j hlt), rfl⟩
      have hx0 := A5.out.at j
      rw [show (Nm.trim zs).getD j 0 = x from X.out.symm] at hx0
      obtain ⟨hx0, hx1⟩ := hx0
      go_wp2_with fail
      refine (addTimes_any w'.heap.size (Nm.tsize zs + Nm.tsize ys) j (Nm.tsize ys) _ os q _ (Nm.trim ys) x _ I.2.1 (by omega) I.1 I.2.2.1 (Nm.trim_length ys) (by omega) (B4.out.below I.2.2.2.2 (Nat.le_refl _)) B5.out (fun h0 => B4.out.lt h0) hx0 hx1).mono ?_
      rintro e w2 ⟨c, us, rfl, M⟩
      have I2 := I.step (Nm.trim_length ys) A5.out B5.out (by rw [Nm.trim_length]; exact hlt) (by omega) X.out M
      obtain ⟨y, hy⟩ : ∃ y, w2.cell? ⟨w'.heap.size, j + Nm.tsize ys, none⟩ = some (.int .u64 y) := ⟨_, M.1.1.cell _ (by have := M.1.2.1; omega)⟩
      have hfr := M.1.1.free (j + Nm.tsize ys)
      clear M
      go_wp2
      go_roundw
      case rel => exact ⟨j + 1, _, by omega, by go_num, I2⟩
      case measure => simp [intOf]; omega
    · have hjn : j = Nm.tsize zs := by omega
      subst hjn
      have E := I.2.2.2.1
      rw [List.take_of_length_le (by rw [Nm.trim_length]; omega), Nm.val_trim, Nm.val_trim] at E
      have EE := hid E
      clear E
      go_wp2_with fail
      refine (limited_own_big w'.heap.size (Nm.tsize zs + Nm.tsize ys) os _ I.2.1 (by omega) I.1 I.2.2.1 (by rw [EE.out]; exact HS.out)).mono ?_
      rintro e w3 ⟨rfl, rfl⟩
      have HB := hid I.2.2.2.2
      clear I
      go_wp2_with fail
      go_ret2
      exact ⟨rfl, HB.out⟩
end Go.Proofs.YtaoaniigbooihaaGreatDoor

namespace Go.Proofs.YtaoaniigbooihaaGreatDoor
open Go.RowKit Go.Deep

/-- A number, or that it is too big. -/
def Gives (T : Int) (w : World) (e : Ending) (w' : World) : Prop :=
  ((T < Nm.pw 4096 ∧ ∃ r os, e = .returned (.tuple #[.slice r (List.length os) (List.length os), .int .i64 0]) ∧ Ans w.heap.size w' r os T) ∨ (Nm.pw 4096 ≤ T ∧ e = .returned (.tuple #[.slice none 0 0, .int .i64 2]))) ∧ Below w.heap.size w w'

theorem Ans.argT {B : Nat} {w : World} {p : Option Addr} {ys : List Int} {n : Int} (h : Ans B w p ys n) (hn : n < Nm.pw 4096) : Arg w p ys.length ys.length ys :=
  h.arg (by have := h.small hn; omega)

theorem Ans.tsT {B : Nat} {w : World} {p : Option Addr} {ys : List Int} {n : Int} (h : Ans B w p ys n) (hn : n < Nm.pw 4096) : Nm.tsize ys ≤ 4096 := by
  rw [h.2.2.1]
  exact h.small hn

theorem Ans.upT {B B' : Nat} {w : World} {p : Option Addr} {ys : List Int} {n : Int} (h : Ans B w p ys n) (hB : B' ≤ B) : Ans B' w p ys n :=
  ⟨h.1, h.2.1, h.2.2.1, h.2.2.2.1, fun a ha => Nat.le_trans hB (h.2.2.2.2 a ha)⟩

theorem mul_gives (p q : Option Addr) (n cap m cap' : Nat) (zs ys : List Int) (T : Int) (w : World) (ha : Arg w p n cap zs) (hb : Arg w q m cap' ys) (tz : Nm.tsize zs ≤ 4096) (ty : Nm.tsize ys ≤ 4096) (hT : Nm.val zs * Nm.val ys = T) :
    Calls Tryz.prog 104 #[.slice p n cap, .slice q m cap'] w fun e w' => Gives T w e w' := by
  by_cases h : T < Nm.pw 4096
  · refine (mul_ok p q n cap m cap' zs ys w ha hb tz ty (by rw [hT]; exact h)).mono ?_
    rintro e w' ⟨r, os, rfl, A, hb⟩
    rw [hT] at A
    exact ⟨.inl ⟨h, r, os, rfl, A⟩, hb⟩
  · refine (mul_over p q n cap m cap' zs ys w ha hb tz ty (by rw [hT]; exact Int.not_lt.1 h)).mono ?_
    rintro e w' ⟨rfl, hb⟩
    exact ⟨.inr ⟨Int.not_lt.1 h, rfl⟩, hb⟩

theorem limbs_isT (p : Option Addr) (n cap : Nat) (zs : List Int) (N : Nat) (w : World) (ha : Arg w p n cap zs) (hN : Nm.tsize zs = N) :
    Calls Tryz.prog 156 #[.slice p n cap] w fun e w' => e = .returned (.int .i64 (N : Int)) ∧ w' = w := by
  rw [← hN]
  exact limbs_any p n cap zs w ha

theorem bitLen_isT (L : Nat) (p : Option Addr) (n cap : Nat) (zs : List Int) (w : World) (ha : Arg w p n cap zs) (hb : blen zs = (L : Int)) :
    Calls Tryz.prog 106 #[.slice p n cap] w fun e w' => e = .returned (.int .i64 (L : Int)) ∧ w' = w := by
  rw [← hb]
  exact bitLen_any p n cap zs w ha
end Go.Proofs.YtaoaniigbooihaaGreatDoor

namespace Go.Proofs.YtaoaniigbooihaaGreatDoor
open Go.RowKit Go.Deep

structure ShutL (p : Prop) : Prop where
  out : p

theorem wpList_append_l {ty : TypeId} {ops : Array Oper} {rest : List Oper} {o : Oper} {a : Act} {Q : Exit → Act → World → Prop} (hgd : o.guard = none) (s x : Operand)
    (ho : o.op = .call { callee := .builtin .append, args := #[s, x], argTypes := #[ty, ty] }) {v y v' : Value} {w w' : World} (hr : (Builtin.append_ #[ty, ty] o.type #[v, y]).run Tryz.prog w = .ok v' w') (hs : a.eval s = v) (hx : a.eval x = y)
    (h : wpList Tryz.prog ops Q rest (a.put o.dst v') w') : wpList Tryz.prog ops Q (o :: rest) a w := by
  refine wpList_plain hgd fun K hK => ?_
  unfold Oper.wp execOp
  simp only [ho, resolve, invoke, builtin, Sem.run_bind, Sem.run_pure, Result.andThen_ok, List.map_toArray, List.map_cons, List.map_nil, hs, hx, hr]
  exact hK _ _ h

/-- The rows b, b^2, b^4 .. that are at most A. -/
structure RowsIn (base : Nat) (b A : Int) (mv : Value) (l : List (Option Addr × List Int)) (w : World) : Prop where
  own : w.ownsRow base 113 1 mv l.length (l.map rowV)
  row : ∀ i e, l[i]? = some e → RowIn w mv e (b ^ (2 ^ i)) ∧ b ^ (2 ^ i) ≤ A

theorem RowsIn.below {base : Nat} {b A : Int} {mv : Value} {l : List (Option Addr × List Int)} {w w' : World} (h : RowsIn base b A mv l w) (hb : Below w.heap.size w w') : RowsIn base b A mv l w' :=
  ⟨h.own.kept (row := none) ⟨hb.os, hb.tape, hb.output, hb.size, fun j hj _ => hb.block j hj⟩ (by cases h : Value.ownBlock mv <;> simp), fun i e he => ⟨(h.row i e he).1.below hb, (h.row i e he).2⟩⟩

theorem pw_big : Nm.pw 4096 = 2 ^ 262144 := by rw [Nm.pw_two 4096, show 64 * 4096 = 262144 from rfl]

/-- The next row, or the error that says that it is too long. -/
inductive SqNext (b : Int) (k : Nat) (mv : Value) (r : Option Addr) (us : List Int) (w : World) : Int → Prop
  | go : b ^ (2 ^ k) < Nm.pw 4096 → RowIn w mv (r, us) (b ^ (2 ^ k)) → SqNext b k mv r us w 0
  | stop : Nm.pw 4096 ≤ b ^ (2 ^ k) → SqNext b k mv r us w 2

theorem RowsIn.few {base : Nat} {b A : Int} {mv : Value} {l : List (Option Addr × List Int)} {w : World} (h : RowsIn base b A mv l w) (hb : 2 ≤ b) (hA : A < Nm.pw 4096) : l.length ≤ 18 := by
  rcases Nat.eq_zero_or_pos l.length with c | c
  · omega
  · have he : l[l.length - 1]? = some l[l.length - 1] := List.getElem?_eq_getElem (by omega)
    have := Ln.few hb (h.row _ _ he).2 (by rw [← pw_big]; exact hA)
    omega

set_option maxRecDepth 100000 in
set_option maxHeartbeats 4000000 in
theorem nsquares_any (p q : Option Addr) (m cap' : Nat) (os za : List Int) (b A : Int) (B : Nat) (w : World) (hp : Ans B w p os b) (hb0 : 2 ≤ b) (hb1 : b < 18446744073709551616) (ha : Arg w q m cap' za) (hA : Nm.val za = A) (ts : Nm.tsize za ≤ 4096) :
    Calls Tryz.prog 161 #[.slice p (List.length os) (List.length os), .slice q m cap'] w fun e w' => ∃ mv l, e = .returned mv ∧ Hid (RowsIn w.heap.size b A mv l w' ∧ A < b ^ (2 ^ l.length) ∧ l.length ≤ 18 ∧ Below w.heap.size w w') := by
  have hAs : ShutL (A < Nm.pw 4096) := ⟨by rw [← hA]; exact (Nm.tsize_le_iff ha.2.2.2.2 4096).1 ts⟩
  have HV := hid hA
  have HA := hid ha
  have HB := hid hb0
  have P0 : Hid (RowIn w (.slice none 0 0) (p, os) (b ^ (2 ^ 0))) := by
    show RowIn _ _ _ _
    rw [Nat.pow_zero, Int.pow_succ, Int.pow_zero, Int.one_mul]
    refine ⟨hp.1, hp.2.1, hp.2.2.1, hp.2.2.2.1, fun a ha => ⟨hp.1.lt ?_ a ha, by simp [Value.ownBlock]⟩⟩
    rcases Nat.eq_zero_or_pos os.length with c | c
    · have := hp.2.2.2.1
      rw [List.eq_nil_of_length_eq_zero c] at this
      simp [Nm.val] at this
      omega
    · exact c
  have S0 : ShutL (b ^ (2 ^ 0) < Nm.pw 4096) := by
    refine ⟨?_⟩
    rw [Nat.pow_zero, Int.pow_succ, Int.pow_zero, Int.one_mul]
    have h := Nm.pw_mono (show 1 ≤ 4096 by omega)
    have e : Nm.pw 1 = 18446744073709551616 := by simp [Nm.pw]
    rw [e] at h
    exact Int.lt_of_lt_of_le hb1 h
  clear hp hb0 hb1 ha hA ts
  go_enter Tryz.func161, Tryz.ntmps161
  go_wp2_with fail
  go_loopg [0, 5, 6] 20 (fun x a c e wr => ∃ (mv : Value) (l : List (Option Addr × List Int)) (r : Option Addr) (us : List Int) (E : Int), a = .slice r (List.length us) (List.length us) ∧ c = mv ∧ e = .int .i64 E ∧ Hid (x + l.length = 20) ∧ Hid (RowsIn w.heap.size b A mv l wr) ∧ Hid (Below w.heap.size w wr) ∧ SqNext b l.length mv r us wr E)
  case atStart => exact ⟨.slice none 0 0, [], p, os, 0, rfl, rfl, rfl, rfl, ⟨World.ownsRow_nil _ _ _ _, fun i e h => by simp at h⟩, Below.refl _ _, .go S0.out P0.out⟩
  case round =>
    clear P0 S0
    obtain ⟨mv, l, r, us, E, rfl, hmv, rfl, GK, RI, D, W⟩ := hrel
    have hmv := hmv.symm
    subst hmv
    have L18 := hid (RI.out.few HB.out hAs.out)
    have W0 : (E = 0 ∧ b ^ (2 ^ l.length) < Nm.pw 4096 ∧ RowIn wr mv (r, us) (b ^ (2 ^ l.length))) ∨ (E = 2 ∧ Nm.pw 4096 ≤ b ^ (2 ^ l.length)) := by
      cases W with
      | go h1 h2 => exact .inl ⟨rfl, h1, h2⟩
      | stop h => exact .inr ⟨rfl, h⟩
    clear W
    rcases W0 with ⟨hE, hs, hr⟩ | ⟨hE, hs⟩
    · subst hE
      have HS : ShutL (b ^ (2 ^ l.length) < Nm.pw 4096) := ⟨hs⟩
      have HR := hid hr
      have lus : Hid (us.length ≤ 4096) := by
        show _ ≤ _
        have h1 := (Nm.tsize_le_iff hr.2.1 4096).2 (by rw [hr.2.2.2.1]; exact hs)
        have h2 := hr.2.2.1
        simp only at h1 h2
        omega
      have HAr := hid (HA.out.below D.out (Nat.le_refl _))
      obtain ⟨c, hc0⟩ : ∃ c, cmpI (b ^ (2 ^ l.length)) A = c := ⟨_, rfl⟩
      have HC := hid hc0
      clear hc0
      have CM := hid (cmp_is c r q _ _ m cap' us za wr (hr.arg (by have := lus.out; simp only; omega)) HAr.out (by rw [show Nm.val us = b ^ (2 ^ l.length) from hr.2.2.2.1, HV.out]; exact HC.out))
      clear hs hr HAr
      by_cases hgt : A < b ^ (2 ^ l.length)
      · have hc : c = 1 := by rw [← HC.out]; exact cmpI_gt hgt
        have HG := hid hgt
        subst hc
        clear hgt
        go_wp2_with fail
        refine CM.out.mono ?_
        rintro e w1 ⟨rfl, d1⟩
        have F : Hid (RowsIn w.heap.size b A mv l w1 ∧ A < b ^ (2 ^ l.length) ∧ l.length ≤ 18 ∧ Below w.heap.size w w1) := ⟨RI.out.below d1, HG.out, L18.out, chain D.out d1 (Nat.le_refl _)⟩
        clear d1
        go_wp2_with fail
        go_ret
        exact ⟨mv, l, rfl, F⟩
      · have hcle : c ≤ 0 := by
          rw [← HC.out]
          rcases (show b ^ (2 ^ l.length) = A ∨ b ^ (2 ^ l.length) < A by omega) with h | h
          · rw [cmpI_eq h]; omega
          · rw [cmpI_lt h]; omega
        have HLE : Hid (b ^ (2 ^ l.length) ≤ A) := by show _ ≤ _; omega
        clear hgt
        go_wp2_with fail
        refine CM.out.mono ?_
        rintro e w1 ⟨rfl, d1⟩
        have RI1 := RI.out.below d1
        have HR1 := HR.out.below d1
        have D1 := hid (chain D.out d1 (Nat.le_refl _))
        obtain ⟨mv', w2, ap, j1, j2, j3, j4, j5⟩ := pushRow w.heap.size l.length mv (l.map rowV) (rowV (r, us)) w1 (by have := L18.out; omega) rfl D1.out.size RI1.own
        have AP : Hid ((Builtin.append_ #[183, 183] 183 #[mv, .slice (some ⟨w1.heap.size, 0, none⟩) 1 1]).run Tryz.prog (w1.alloc (.cells #[.slice r (List.length us) (List.length us)] 113)) = .ok mv' w2) := ap
        have D2 := hid (D1.out.trans j2)
        have HR2 := hid (HR1.pushed j3 j4 j5)
        have RI2 : Hid (RowsIn w.heap.size b A mv' (l ++ [(r, us)]) w2) := by
          refine ⟨by simpa using j1, fun i e he => ?_⟩
          by_cases hi : i < l.length
          · rw [List.getElem?_append_left hi] at he
            exact ⟨(RI1.row i e he).1.pushed j3 j4 j5, (RI1.row i e he).2⟩
          · have hlt := (List.getElem?_eq_some_iff.1 he).1
            simp only [List.length_append, List.length_cons, List.length_nil] at hlt
            have hi2 : i = l.length := by omega
            subst hi2
            rw [List.getElem?_append_right (by omega), Nat.sub_self] at he
            simp at he
            subst he
            exact ⟨HR1.pushed j3 j4 j5, HLE.out⟩
        have MU := hid (mul_gives r r _ _ _ _ us us (b ^ (2 ^ (l.length + 1))) w2 (HR2.out.arg (by have := lus.out; simp only; omega)) (HR2.out.arg (by have := lus.out; simp only; omega)) (by rw [show Nm.tsize us = us.length from HR2.out.2.2.1]; exact lus.out) (by rw [show Nm.tsize us = us.length from HR2.out.2.2.1]; exact lus.out) (by rw [show Nm.val us = b ^ (2 ^ l.length) from HR2.out.2.2.2.1]; exact Ln.square b l.length))
        have BP := hid (show 0 < b ^ (2 ^ (l.length + 1)) from Int.pow_pos (by have := HB.out; omega))
        clear ap j1 j2 j3 j4 j5 RI1 HR1 d1 CM RI D HR
        go_wp2_with (at_builtin; refine wpList_append_l rfl _ _ rfl AP.out (by rfl) (by rfl) ?_; clear AP)
        refine MU.out.mono ?_
        rintro e w3 ⟨h | h, d3⟩
        · obtain ⟨h1, r3, us3, rfl, A3⟩ := h
          have N3 : SqNext b (l.length + 1) mv' r3 us3 w3 0 := .go h1 (A3.row rfl RI2.out.own BP.out)
          have RI3 := hid (RI2.out.below d3)
          have D3 := hid (chain D2.out d3 (Nat.le_refl _))
          clear h1 A3 d3 MU
          go_wp2_with fail
          go_roundg (19 - l.length)
          case measure => have := GK.out; have := L18.out; omega
          case rel => exact ⟨mv', l ++ [(r, us)], r3, us3, 0, rfl, rfl, rfl, by show _ = _; have := L18.out; rw [List.length_append]; simp only [List.length_cons, List.length_nil]; omega, RI3.out, D3.out, by rw [List.length_append]; exact N3⟩
        · obtain ⟨h1, rfl⟩ := h
          have N3 : SqNext b (l.length + 1) mv' none [] w3 2 := .stop h1
          have RI3 := hid (RI2.out.below d3)
          have D3 := hid (chain D2.out d3 (Nat.le_refl _))
          clear h1 d3 MU
          go_wp2_with fail
          go_roundg (19 - l.length)
          case measure => have := GK.out; have := L18.out; omega
          case rel => exact ⟨mv', l ++ [(r, us)], none, [], 2, rfl, rfl, rfl, by show _ = _; have := L18.out; rw [List.length_append]; simp only [List.length_cons, List.length_nil]; omega, RI3.out, D3.out, by rw [List.length_append]; exact N3⟩
    · subst hE
      have F : Hid (RowsIn w.heap.size b A mv l wr ∧ A < b ^ (2 ^ l.length) ∧ l.length ≤ 18 ∧ Below w.heap.size w wr) := ⟨RI.out, Int.lt_of_lt_of_le hAs.out hs, L18.out, D.out⟩
      clear hs
      go_wp2_with fail
      go_ret
      exact ⟨mv, rfl, l, F⟩
end Go.Proofs.YtaoaniigbooihaaGreatDoor

namespace Go.Proofs.YtaoaniigbooihaaGreatDoor
open Go.RowKit Go.Deep

structure ShutG (p : Prop) : Prop where
  out : p

/-- So many digits a limb holds. -/
theorem few64 {B : Int} {W : Nat} (hB : 2 ≤ B) (h : B ^ W < 18446744073709551616) : W ≤ 63 := by
  have := Ln.small (A := B ^ W) (L := 64) hB (Int.le_refl _) (by rw [show (2 : Int) ^ 64 = 18446744073709551616 by decide]; exact h)
  omega

set_option maxRecDepth 100000 in
set_option maxHeartbeats 1000000 in
theorem group_any (B : Int) (w : World) (h2 : 2 ≤ B) (h36 : B ≤ 36) :
    Calls Tryz.prog 160 #[.int .u64 B] w fun e w' => (∃ (W : Nat) (P : Int), e = .returned (.tuple #[.int .u64 P, .int .i64 (W : Int)]) ∧ P = B ^ W ∧ 1 ≤ W ∧ W ≤ 63 ∧ P < 18446744073709551616) ∧ w' = w := by
  have hB0 : (B == 0) = false := by rw [beq_eq_false_iff_ne]; omega
  go_enter Tryz.func160, Tryz.ntmps160
  go_wp2_with fail
  go_loop [4, 5] (fun p c => ∃ (P : Int) (W : Nat), p = .int .u64 P ∧ c = .int .i64 (W : Int) ∧ 1 ≤ P ∧ P ≤ 18446744073709551615 ∧ Hid (P = B ^ W ∧ 1 ≤ W ∧ W ≤ 63)) (fun _ c => 64 - (intOf c).toNat)
  case atStart => exact ⟨B, 1, rfl, rfl, by omega, by omega, by rw [Int.pow_succ, Int.pow_zero, Int.one_mul], by omega, by omega⟩
  case round =>
    obtain ⟨P, W, rfl, rfl, hP1, hP2, F⟩ := hrel
    have hW : (W : Int) ≤ 63 := by have := F.out.2.2; omega
    by_cases hle : P ≤ 18446744073709551615 / B
    · have hm : P * B ≤ 18446744073709551615 := (Int.le_ediv_iff_mul_le (by omega)).1 hle
      have hm0 : 0 ≤ P * B := Int.mul_nonneg (by omega) (by omega)
      have hm1 : 1 ≤ P * B := by have := Int.mul_le_mul (a := 1) (b := 1) hP1 (show 1 ≤ B by omega) (by omega) (by omega); omega
      have q1 : IntKind.u64.wrap (P * B) = P * B := by rw [IntKind.wrap_u64]; omega
      have W2 : Hid (W + 1 ≤ 63) := few64 h2 (by rw [Int.pow_succ, ← F.out.1]; omega)
      have HM := hid hm
      have HM1 := hid hm1
      clear hm hm0 hm1
      go_wp2_with fail
      go_round
      case rel => exact ⟨P * B, W + 1, rfl, by go_num, HM1.out, HM.out, by rw [Int.pow_succ, ← F.out.1], by omega, W2.out⟩
      case measure => simp [intOf]; have := F.out.2; omega
    · go_wp2_with fail
      go_ret2
      exact ⟨⟨W, P, rfl, F.out.1, F.out.2.1, F.out.2.2, by omega⟩, rfl⟩
end Go.Proofs.YtaoaniigbooihaaGreatDoor

namespace Go.Proofs.YtaoaniigbooihaaGreatDoor
open Go.RowKit Go.Deep

/-- j zeros stand at the head, and then another digit. -/
structure Lead (ds : List Int) (j : Nat) : Prop where
  zero : ∀ i, i < j → ds.getD i 0 = 0
  next : ds.getD j 0 ≠ 0

theorem Lead.strip : ∀ {ds : List Int} {j : Nat}, Lead ds j → Dn.strip ds = ds.drop j
  | [], j, h => absurd (by simp) h.next
  | d :: ds, 0, h => by
    have := h.next
    simp at this
    simp [Dn.strip, this]
  | d :: ds, j + 1, h => by
    have h0 := h.zero 0 (by omega)
    simp at h0
    subst h0
    have ih : Lead ds j := ⟨fun i hi => by have := h.zero (i + 1) (by omega); simpa using this, by have := h.next; simpa using this⟩
    have := Lead.strip ih
    simp only [Dn.strip, List.dropWhile_cons, decide_true, if_true, List.drop_succ_cons] at this ⊢
    exact this

theorem Lead.lt {ds : List Int} {j : Nat} (h : Lead ds j) : j < ds.length := by
  rcases Nat.lt_or_ge j ds.length with c | c
  · exact c
  · exact absurd (by simp [List.getD, List.getElem?_eq_none c]) h.next

theorem Lead.ex : ∀ {ds : List Int}, Dn.strip ds ≠ [] → ∃ j, Lead ds j
  | [], h => absurd rfl h
  | d :: ds, h => by
    by_cases c : d = 0
    · subst c
      have : Dn.strip ds ≠ [] := by simpa [Dn.strip] using h
      obtain ⟨j, hj⟩ := Lead.ex this
      refine ⟨j + 1, fun i hi => ?_, by simpa using hj.next⟩
      cases i with
      | zero => simp
      | succ i => simpa using hj.zero i (by omega)
    · exact ⟨0, fun i hi => by omega, by simpa using c⟩

set_option maxRecDepth 100000 in
set_option maxHeartbeats 1000000 in
theorem btrim1_any (g n J : Nat) (ds : List Int) (w : World) (hd : OwnB w g ds) (hn : ds.length = n) (hJ : Lead ds J) :
    Calls Tryz.prog 186 #[.slice (some ⟨g, 0, none⟩) n n, .int .u8 0] w fun e w' => e = .returned (.slice (some ⟨g, J, none⟩) (n - J) (n - J)) ∧ w' = w := by
  have HJ := hid hJ
  have HL : Hid (J < n) := by show _ < _; have := hJ.lt; omega
  have HO := hid hd
  have HN := hid hn
  clear hd hn hJ
  go_enter Tryz.func186, Tryz.ntmps186
  go_wp2_with fail
  go_loop [0] (fun s => ∃ j m : Nat, s = .slice (some ⟨g, j, none⟩) m m ∧ j ≤ J ∧ Hid (j + m = n)) (fun s => match s with | .slice _ m _ => m | _ => 0)
  case atStart => exact ⟨0, n, rfl, Nat.zero_le _, by show _ = _; omega⟩
  case round =>
    obtain ⟨j, m, rfl, hj, E⟩ := hrel
    have hm : 0 < m := by have := E.out; have := HL.out; omega
    have hmi : (0 : Int) < (m : Int) := by omega
    have hmz : ((m : Int) == 0) = false := by rw [beq_eq_false_iff_ne]; omega
    have hm1 : 1 ≤ m := by omega
    obtain ⟨x, hx, X⟩ : ∃ x, w.cell? ⟨g, j, none⟩ = some (.int .u8 x) ∧ Hid (x = ds.getD j 0) := ⟨_, HO.out.cell j (by have := E.out; have := HN.out; omega), rfl⟩
    by_cases hlt : j < J
    · have hx0 : x = 0 := by rw [X.out]; exact HJ.out.zero j hlt
      subst hx0
      go_wp2_with fail
      go_round
      case rel => exact ⟨j + 1, m - 1, by rw [if_neg (by have := E.out; have := HL.out; omega)], by omega, by show _ = _; have := E.out; omega⟩
      case measure => simp; omega
    · obtain rfl : j = J := by omega
      have hx0 : (x == 0) = false := by rw [beq_eq_false_iff_ne, X.out]; exact HJ.out.next
      obtain rfl : m = n - j := by have := E.out; omega
      go_wp2_with fail
      go_ret
      exact ⟨rfl, rfl⟩

set_option maxRecDepth 100000 in
theorem btrim_any (g n J : Nat) (ds : List Int) (w : World) (hd : OwnB w g ds) (hn : ds.length = n) (hJ : Lead ds J) :
    Calls Tryz.prog 163 #[.slice (some ⟨g, 0, none⟩) n n, .string ⟨#[0]⟩] w fun e w' => e = .returned (.slice (some ⟨g, J, none⟩) (n - J) (n - J)) ∧ w' = w := by
  have T := hid (btrim1_any g n J ds w hd hn hJ)
  have hz : ((n : Int) == 0) = false := by rw [beq_eq_false_iff_ne]; have := hJ.lt; omega
  clear hd hn hJ
  go_enter Tryz.func163, Tryz.ntmps163
  go_wp2_with fail
  refine T.out.mono ?_
  rintro e w' ⟨rfl, rfl⟩
  go_wp2_with fail
  go_ret
  exact ⟨rfl, rfl⟩
end Go.Proofs.YtaoaniigbooihaaGreatDoor

namespace Go.Proofs.YtaoaniigbooihaaGreatDoor
open Go.RowKit Go.Deep

/-- The letters of a row of digits. -/
def lets (lt ds : List Int) : List Int := ds.map (fun d => lt.getD d.toNat 0)

/-- The list of powers, as spread wants it. -/
theorem RowsIn.pows {base g : Nat} {b A : Int} {pm : Option Addr} {K cp : Nat} {l : List (Option Addr × List Int)} {w w' : World} (h : RowsIn base b A (.slice pm K cp) l w) (hl : l.length = K) (hg : w.heap.size ≤ g) (hb : Below w.heap.size w w') (hA : A < Nm.pw 4096) : Pows g b pm K w' := by
  intro s hs
  have he : l[s]? = some l[s] := List.getElem?_eq_getElem (by omega)
  obtain ⟨h1, h2⟩ := h.row s _ he
  rcases h.own.2 with ⟨_, h0⟩ | ⟨gm, cp', cur, hv, _⟩
  · omega
  · simp only [Value.slice.injEq] at hv
    obtain ⟨rfl, hK, rfl⟩ := hv
    have hc := h.own.cells (g := gm) rfl s (rowV l[s]) (by rw [List.getElem?_map, he]; rfl)
    rw [Go.WideShapes.add_plain, Nat.zero_add] at hc
    have ht : Nm.tsize (l[s]).2 ≤ 4096 := (Nm.tsize_le_iff h1.2.1 4096).2 (by rw [h1.2.2.2.1]; exact Int.lt_of_le_of_lt h2 hA)
    refine ⟨gm, (l[s]).1, (l[s]).2, rfl, Nat.lt_of_lt_of_le (cell_lt hc) hg, ?_, ?_, h1.2.2.2.1, ht, fun a ha => Nat.lt_of_lt_of_le (h1.2.2.2.2 a ha).1 hg⟩
    · rw [hb.cell (p := ⟨gm, s, none⟩) (cell_lt hc)]
      exact hc
    · exact (h1.arg (by have := h1.2.2.1; omega)).below hb (Nat.le_refl _)

/-- On the way: the first t digits behind the zeros are letters. -/
def Lett (g J : Nat) (ds lt : List Int) (t : Nat) (w0 wr : World) : Prop :=
  ∃ es, OwnB wr g es ∧ es.length = ds.length ∧ (∀ i, i < t → es.getD (J + i) 0 = lt.getD (ds.getD (J + i) 0).toNat 0) ∧ (∀ i, t ≤ i → es.getD (J + i) 0 = ds.getD (J + i) 0) ∧ Only g w0 wr

theorem Lett.step {g J : Nat} {ds lt : List Int} {t : Nat} {w0 wr : World} (h : Lett g J ds lt t w0 wr) (ht : J + t < ds.length) {x : Int} (hx : x = lt.getD (ds.getD (J + t) 0).toNat 0) : Lett g J ds lt (t + 1) w0 (wr.setCell ⟨g, J + t, none⟩ (.int .u8 x)) := by
  obtain ⟨es, h1, h2, h3, h4, h5⟩ := h
  refine ⟨es.set (J + t) x, h1.set _ _, by simpa using h2, fun i hi => ?_, fun i hi => ?_, h5.trans (Only.set _ _)⟩
  · by_cases e : i = t
    · subst e
      simp [List.getD, show J + i < es.length by omega, hx]
    · have := h3 i (by omega)
      simpa [List.getD, List.getElem?_set, show ¬ t = i by omega] using this
  · have := h4 i (by omega)
    simpa [List.getD, List.getElem?_set, show ¬ t = i by omega] using this

theorem chain' {B : Nat} {a b c : World} (h : Below B a b) (k : Below B b c) : Below B a c := h.trans k

set_option maxRecDepth 100000 in
set_option maxHeartbeats 4000000 in
theorem written_any (p : Option Addr) (n cap : Nat) (za lt : List Int) (V B : Int) (ls : ByteArray) (w : World) (ha : Arg w p n cap za) (hV : Nm.val za = V) (ht : Nm.tsize za ≤ 4096) (h0 : 0 < V) (h2 : 2 ≤ B) (h36 : B ≤ 36) (hls : Str ls lt) (hlt : lt.length = 36) :
    Calls Tryz.prog 136 #[.slice p n cap, .int .u64 B, .string ls] w fun e w' => (∃ s L, e = .returned (.string s) ∧ V < B ^ L ∧ Str s (lets lt (Dn.strip (Dn.dg B L V)))) ∧ Below w.heap.size w w' := by
  have hAs : ShutN (V < Nm.pw 4096) := ⟨by rw [← hV]; exact (Nm.tsize_le_iff ha.2.2.2.2 4096).1 ht⟩
  have HV := hid hV
  have HA := hid ha
  have HT := hid ht
  have HS := hid hls
  have hsz : ls.size = 36 := by rw [hls.size, hlt]
  have GR := hid (group_any B w h2 h36)
  clear ha hV ht hls
  go_enter Tryz.func136, Tryz.ntmps136
  go_wp2_with fail
  refine GR.out.mono ?_
  rintro e w' ⟨⟨W, P, rfl, hP, hW1, hW63, hPl⟩, rfl⟩
  have hP2 : 2 ≤ P := by
    rw [hP, show W = W - 1 + 1 by omega, Int.pow_succ]
    have h1 : 1 ≤ B ^ (W - 1) := by have : 0 < B ^ (W - 1) := Int.pow_pos (by omega); omega
    have h3 := Int.mul_le_mul h1 h2 (by omega) (by omega)
    omega
  have HP := hid hP
  have FU := hid (fromUint_any P w' (by omega) hPl)
  have HPL := hid hPl
  clear GR hP hPl
  go_wp2_with fail
  refine FU.out.mono ?_
  rintro e w1 ⟨r1, os1, rfl, A1, d1⟩
  have SQ := hid (nsquares_any r1 p n cap os1 za P V _ w1 A1 hP2 HPL.out (HA.out.below d1 (Nat.le_refl _)) HV.out HT.out)
  have D1 := hid d1
  clear A1 d1 FU
  go_wp2_with fail
  refine SQ.out.mono ?_
  rintro e w2 ⟨mv, l, rfl, F2⟩
  obtain ⟨pm, cp, hmv, hcp⟩ : ∃ pm cp, mv = .slice pm l.length cp ∧ l.length ≤ cp := by
    rcases F2.out.1.own.2 with ⟨rfl, h0⟩ | ⟨gm, cp, cur, rfl, _, _, h1, _⟩
    · exact ⟨none, 0, by rw [h0], by omega⟩
    · exact ⟨_, cp, rfl, h1⟩
  subst hmv
  obtain ⟨K, HK⟩ : ∃ K, Hid (l.length = K) := ⟨_, rfl⟩
  have hK18 : (K : Int) ≤ 18 := by have := HK.out; have := F2.out.2.2.1; omega
  obtain ⟨L, HL⟩ : ∃ L, Hid (W * 2 ^ K = L) := ⟨_, rfl⟩
  have VL : ShutN (V < B ^ L) := ⟨by
    have h := F2.out.2.1
    rw [HP.out, HK.out, ← Int.pow_mul, HL.out] at h
    exact h⟩
  have D2 := hid (chain D1.out F2.out.2.2.2 (Nat.le_refl _))
  rw [HK.out] at F2 hcp
  rw [HK.out]
  have hL63 : L ≤ 63 * 262144 := by
    have h1 : 2 ^ K ≤ 2 ^ 18 := Nat.pow_le_pow_right (by omega) (by omega)
    have h2 := Nat.mul_le_mul hW63 h1
    have := HL.out
    omega
  have q1 : IntKind.i64.wrap ((W : Int) * 2 ^ K) = (L : Int) := by
    have e : (W : Int) * 2 ^ K = (L : Int) := by rw [← HL.out]; simp
    rw [e, IntKind.wrap_i64]
    omega
  have mk := make8 L (by omega) w2
  have bm : Below w2.heap.size w2 (w2.alloc (.cells (madeCells #[.int .u8 0] L) 5)) := (Below.refl _ _).alloc (Nat.le_refl _) _
  have ob : OwnB (w2.alloc (.cells (madeCells #[.int .u8 0] L) 5)) w2.heap.size (List.replicate L 0) := by rw [made_zero8]; exact OwnB.alloc w2 _
  obtain ⟨w3, hw3⟩ : ∃ w3, w2.alloc (.cells (madeCells #[.int .u8 0] L) 5) = w3 := ⟨_, rfl⟩
  rw [hw3] at mk bm ob
  have D3 := hid (chain D2.out bm (Nat.le_refl _))
  have hzl : 0 < za.length := by
    rcases Nat.eq_zero_or_pos za.length with c | c
    · have := HV.out
      rw [List.eq_nil_of_length_eq_zero c] at this
      simp [Nm.val] at this
      omega
    · exact c
  obtain ⟨g, HG⟩ : ∃ g, Hid (w2.heap.size = g) := ⟨_, rfl⟩
  rw [HG.out] at mk ob
  have PO := F2.out.1.pows HK.out (Nat.le_of_eq HG.out) bm hAs.out
  rw [HP.out] at PO
  have hwg : w'.heap.size ≤ g := by have := D2.out.size; have := HG.out; omega
  have SP := hid (spread_any B W g K cp pm h2 h36 hW1 hW63 (by rw [← HP.out]; exact HPL.out) (by omega) K (Nat.le_refl _) hcp 0 L L n cap p za (List.replicate L 0) V w3 HL.out.symm ob (by simp) (Nat.le_refl _) (by omega) (HA.out.below D3.out (Nat.le_refl _)) (fun a ha => by have := HA.out.2.2.2.1.lt hzl a ha; omega) HV.out VL.out HT.out PO)
  have HWG := hid hwg
  have HW63 := hid hL63
  clear PO bm ob hw3 hcp F2 SQ D1 D2 hwg hL63
  go_wp2_with fail
  refine SP.out.mono ?_
  rintro e w4 ⟨rfl, s4⟩
  obtain ⟨D, hD⟩ : ∃ D, Dn.dg B L V = D := ⟨_, rfl⟩
  have hDl : D.length = L := by rw [← hD]; exact Dn.dg_length B L V
  have O4 : Hid (OwnB w4 g D) := by
    have := s4.1
    rw [hD] at this
    simp only [put, List.take_zero, List.nil_append, hDl, Nat.zero_add, List.drop_replicate, Nat.sub_self, List.replicate_zero, List.append_nil] at this
    exact this
  have N4 := hid s4.2
  have hB0 : 0 < B := by omega
  have DM : Hid (∀ t, 0 ≤ D.getD t 0 ∧ D.getD t 0 < 36) := by
    intro t
    by_cases c : t < D.length
    · have e : D.getD t 0 = D[t] := by simp [List.getD, c]
      have := Dn.dg_mem hB0 L V (D[t]) (by rw [hD]; exact List.getElem_mem c)
      rw [e]
      omega
    · rw [show D.getD t 0 = 0 by simp [List.getD, List.getElem?_eq_none (show D.length ≤ t by omega)]]
      omega
  obtain ⟨J, hJ⟩ : ∃ J, Lead D J := Lead.ex (by
    rw [← hD]
    apply Dn.strip_ne (B := B)
    rw [Dn.tv_dg hB0 L V (by omega) VL.out]
    omega)
  have BT := hid (btrim_any g L J D w4 O4.out hDl hJ)
  have FIN : ShutN (∀ s, Str s (lets lt (D.drop J)) → ∃ s' L, Ending.returned (.string s) = .returned (.string s') ∧ V < B ^ L ∧ Str s' (lets lt (Dn.strip (Dn.dg B L V)))) :=
    ⟨fun s hs => ⟨s, L, rfl, VL.out, by rw [hD, hJ.strip]; exact hs⟩⟩
  have HDL := hid hDl
  have HJL : Hid (J < L) := by show _ < _; have := hJ.lt; omega
  have LE0 : Hid (Lett g J D lt 0 w4 w4) := ⟨D, O4.out, rfl, fun i hi => by omega, fun i _ => rfl, Only.refl _ _⟩
  clear s4 hD hDl hJ SP mk q1 VL O4
  go_wp2_with fail
  refine BT.out.mono ?_
  rintro e w5 ⟨rfl, rfl⟩
  obtain ⟨M, HM⟩ : ∃ M, Hid (L - J = M) := ⟨_, rfl⟩
  rw [HM.out]
  have hM : (M : Int) ≤ 16515072 := by have := HM.out; have := HW63.out; omega
  clear BT
  go_wp2_with fail
  go_loopw [11, 12, 36] (fun _ _ t wr => ∃ j : Nat, t = .int .i64 (j : Int) ∧ j ≤ M ∧ Hid (Lett g J D lt j w5 wr)) (fun _ _ t _ => M - (intOf t).toNat)
  case atStart => exact ⟨0, rfl, Nat.zero_le _, LE0.out⟩
  case round =>
    clear LE0
    obtain ⟨j, rfl, hj, I⟩ := hrel
    by_cases hlt : j < M
    · have hji : (j : Int) < (M : Int) := by omega
      have hJj : J + j < D.length := by have := HDL.out; have := HM.out; omega
      obtain ⟨es, i1, i2, i3, i4, i5⟩ := I.out
      obtain ⟨d, hd, X⟩ : ∃ d, wr.cell? ⟨g, J + j, none⟩ = some (.int .u8 d) ∧ Hid (d = D.getD (J + j) 0) := ⟨_, i1.cell (J + j) (by omega), i4 j (Nat.le_refl _)⟩
      have hfr := i1.free (J + j)
      have hd0 : 0 ≤ d := by rw [X.out]; exact (DM.out _).1
      have hd1 : d < 36 := by rw [X.out]; exact (DM.out _).2
      have ST : Hid (∀ x, x = lt.getD d.toNat 0 → Lett g J D lt (j + 1) w5 (wr.setCell ⟨g, J + j, none⟩ (.int .u8 x))) := fun x hx => I.out.step hJj (by rw [hx, X.out])
      clear i1 i2 i3 i4 i5 I hJj
      go_wp2_with fail
      go_roundw
      case rel => exact ⟨j + 1, by go_num, by omega, ST.out _ (HS.out.at _ _)⟩
      case measure => simp [intOf]; omega
    · obtain rfl : j = M := by omega
      obtain ⟨es, i1, i2, i3, i4, i5⟩ := I.out
      have hxl : (lets lt (D.drop J)).length = j := by simp [lets]; have := HDL.out; have := HM.out; omega
      have CV := run_convert_bytes_arg (P := Tryz.prog) wr 47 5 Tryz.underlying47 Tryz.underlying5 g J j j (lets lt (D.drop J)) hxl (fun i hi => by
        rw [i1.cell (J + i) (by have := HDL.out; have := HM.out; omega), i3 i hi]
        simp [lets, List.getD, List.getElem?_eq_getElem (show J + i < D.length by have := HDL.out; have := HM.out; omega)]) 9 Tryz.underlying9
      have FS := FIN.out _ (Str.of_nums (xs := lets lt (D.drop J)) (fun x hx => by
        obtain ⟨d, _, rfl⟩ := List.mem_map.1 hx
        exact HS.out.atb _))
      have D6 : Hid (Below w'.heap.size w' wr) := chain' D3.out ((N4.out.trans i5).below HWG.out D3.out.size)
      have HFS := hid FS
      clear i1 i2 i3 i4 i5 I hxl FS
      go_wp2_with fail
      go_ret
      exact ⟨HFS.out, D6.out⟩
end Go.Proofs.YtaoaniigbooihaaGreatDoor

namespace Go.Proofs.YtaoaniigbooihaaGreatDoor
open Go.RowKit Go.Deep

def smallL : List Int := [48, 49, 50, 51, 52, 53, 54, 55, 56, 57, 97, 98, 99, 100, 101, 102, 103, 104, 105, 106, 107, 108, 109, 110, 111, 112, 113, 114, 115, 116, 117, 118, 119, 120, 121, 122]
def capL : List Int := [48, 49, 50, 51, 52, 53, 54, 55, 56, 57, 65, 66, 67, 68, 69, 70, 71, 72, 73, 74, 75, 76, 77, 78, 79, 80, 81, 82, 83, 84, 85, 86, 87, 88, 89, 90]
def lettersOf (up : Bool) : List Int := if up then capL else smallL

/-- What InBase tells. -/
inductive InIs (zs : List Int) (B : Int) (up : Bool) : List Int → Int → Prop
  | big : 4096 < Nm.tsize zs → InIs zs B up [] 2
  | base : Nm.tsize zs ≤ 4096 → (B < 2 ∨ 36 < B) → InIs zs B up [] 32
  | zero : Nm.tsize zs = 0 → 2 ≤ B → B ≤ 36 → InIs zs B up [48] 0
  | ok (L : Nat) : 0 < Nm.tsize zs → Nm.tsize zs ≤ 4096 → 2 ≤ B → B ≤ 36 → Nm.val zs < B ^ L → InIs zs B up (lets (lettersOf up) (Dn.strip (Dn.dg B L (Nm.val zs)))) 0

theorem blen_big {zs : List Int} (hl : Nm.Limbs zs) : ∃ L : Nat, blen zs = (L : Int) ∧ (262144 < (L : Int) ↔ 4096 < Nm.tsize zs) ∧ ((L : Int) = 0 ↔ Nm.tsize zs = 0) := by
  obtain ⟨L, l1, l2, l3, l4⟩ := blen_is zs hl
  refine ⟨L, l1, ?_, ?_⟩
  · by_cases h : 0 < Nm.tsize zs
    · have := l4 h
      omega
    · omega
  · by_cases h : 0 < Nm.tsize zs
    · have := l4 h
      omega
    · omega

set_option maxRecDepth 100000 in
set_option maxHeartbeats 4000000 in
theorem inBase_any (p : Option Addr) (n cap : Nat) (za : List Int) (B : Int) (up : Bool) (w : World) (ha : Arg w p n cap za) (hB0 : -9223372036854775808 ≤ B) (hB1 : B ≤ 9223372036854775807) :
    Calls Tryz.prog 108 #[.slice p n cap, .int .i64 B, .bool up] w fun e w' => ∃ s xs E, e = .returned (.tuple #[.string s, .int .i64 E]) ∧ Str s xs ∧ InIs za B up xs E ∧ Below w.heap.size w w' := by
  obtain ⟨L, hL, hbig, hzero⟩ := blen_big ha.2.2.2.2
  have BL := hid (bitLen_isT L p n cap za w ha hL)
  have Z : Hid (Str ⟨#[]⟩ []) := rfl
  by_cases h1 : 4096 < Nm.tsize za
  · have hLi : (262144 : Int) < (L : Int) := hbig.2 h1
    have F : Hid (InIs za B up [] 2) := .big h1
    clear ha hL hbig hzero h1
    go_enter Tryz.func108, Tryz.ntmps108
    go_wp2_with fail
    refine BL.out.mono ?_
    rintro e w' ⟨rfl, rfl⟩
    go_wp2_with fail
    go_ret2
    exact ⟨_, _, _, rfl, Z.out, F.out, Below.refl _ _⟩
  have hLi : (L : Int) ≤ 262144 := by have := hbig.1; omega
  by_cases h2 : B < 2 ∨ 36 < B
  · have F : Hid (InIs za B up [] 32) := .base (by omega) h2
    clear ha hL hbig hzero h1
    rcases h2 with h2 | h2
    · go_enter Tryz.func108, Tryz.ntmps108
      go_wp2_with fail
      refine BL.out.mono ?_
      rintro e w' ⟨rfl, rfl⟩
      go_wp2_with fail
      go_ret2
      exact ⟨_, _, _, rfl, Z.out, F.out, Below.refl _ _⟩
    · go_enter Tryz.func108, Tryz.ntmps108
      go_wp2_with fail
      refine BL.out.mono ?_
      rintro e w' ⟨rfl, rfl⟩
      go_wp2_with fail
      go_ret2
      exact ⟨_, _, _, rfl, Z.out, F.out, Below.refl _ _⟩
  have h3 : 2 ≤ B := by omega
  have h4 : B ≤ 36 := by omega
  by_cases h5 : Nm.tsize za = 0
  · have F : Hid (InIs za B up [48] 0) := .zero h5 h3 h4
    have Z2 : Hid (Str ⟨#[48]⟩ [48]) := rfl
    have hL0 : (L : Int) = 0 := hzero.2 h5
    obtain rfl : L = 0 := by omega
    clear ha hL hbig hzero h1 h2 h5
    go_enter Tryz.func108, Tryz.ntmps108
    go_wp2_with fail
    refine BL.out.mono ?_
    rintro e w' ⟨rfl, rfl⟩
    go_wp2_with fail
    refine BL.out.mono ?_
    rintro e w' ⟨rfl, rfl⟩
    go_wp2_with fail
    go_ret2
    exact ⟨_, _, _, rfl, Z2.out, F.out, Below.refl _ _⟩
  · have hL0 : ((L : Int) == 0) = false := by rw [beq_eq_false_iff_ne]; intro c; exact h5 (hzero.1 c)
    have hv : 0 < Nm.val za := by
      have e1 := Nm.tsize_zero_iff ha.2.2.2.2
      have e2 := (Nm.val_bd za ha.2.2.2.2).1
      omega
    have F : Hid (∀ s L, Nm.val za < B ^ L → Str s (lets (lettersOf up) (Dn.strip (Dn.dg B L (Nm.val za)))) → ∃ s' xs E, Ending.returned (.tuple #[.string s, .int .i64 0]) = .returned (.tuple #[.string s', .int .i64 E]) ∧ Str s' xs ∧ InIs za B up xs E) := fun s L hl hs => ⟨s, _, 0, rfl, hs, .ok L (by omega) (by omega) h3 h4 hl⟩
    have WR : Hid (∀ ls, Str ls (lettersOf up) → Calls Tryz.prog 136 #[.slice p n cap, .int .u64 B, .string ls] w fun e w' => (∃ s L, e = .returned (.string s) ∧ Nm.val za < B ^ L ∧ Str s (lets (lettersOf up) (Dn.strip (Dn.dg B L (Nm.val za))))) ∧ Below w.heap.size w w') :=
      fun ls hls => written_any p n cap za (lettersOf up) _ B ls w ha rfl (by omega) hv h3 h4 hls (by cases up <;> rfl)
    clear ha hL hbig hzero h1 h2 h5 hv
    cases up with
    | true =>
      have W2 := hid (WR.out ⟨#[48, 49, 50, 51, 52, 53, 54, 55, 56, 57, 65, 66, 67, 68, 69, 70, 71, 72, 73, 74, 75, 76, 77, 78, 79, 80, 81, 82, 83, 84, 85, 86, 87, 88, 89, 90]⟩ rfl)
      go_enter Tryz.func108, Tryz.ntmps108
      go_wp2_with fail
      refine BL.out.mono ?_
      rintro e w' ⟨rfl, rfl⟩
      go_wp2_with fail
      refine BL.out.mono ?_
      rintro e w' ⟨rfl, rfl⟩
      go_wp2_with fail
      refine W2.out.mono ?_
      rintro e w1 ⟨⟨s, M, rfl, hM, hs⟩, d1⟩
      have G := hid (F.out s M hM hs)
      have D := hid d1
      clear hM hs d1
      go_wp2_with fail
      go_ret2
      obtain ⟨s', xs, E, k1, k2, k3⟩ := G.out
      exact ⟨s', xs, E, k1, k2, k3, D.out⟩
    | false =>
      have W2 := hid (WR.out ⟨#[48, 49, 50, 51, 52, 53, 54, 55, 56, 57, 97, 98, 99, 100, 101, 102, 103, 104, 105, 106, 107, 108, 109, 110, 111, 112, 113, 114, 115, 116, 117, 118, 119, 120, 121, 122]⟩ rfl)
      go_enter Tryz.func108, Tryz.ntmps108
      go_wp2_with fail
      refine BL.out.mono ?_
      rintro e w' ⟨rfl, rfl⟩
      go_wp2_with fail
      refine BL.out.mono ?_
      rintro e w' ⟨rfl, rfl⟩
      go_wp2_with fail
      refine W2.out.mono ?_
      rintro e w1 ⟨⟨s, M, rfl, hM, hs⟩, d1⟩
      have G := hid (F.out s M hM hs)
      have D := hid d1
      clear hM hs d1
      go_wp2_with fail
      go_ret2
      obtain ⟨s', xs, E, k1, k2, k3⟩ := G.out
      exact ⟨s', xs, E, k1, k2, k3, D.out⟩
end Go.Proofs.YtaoaniigbooihaaGreatDoor

namespace Go.Proofs.YtaoaniigbooihaaGreatDoor
open Go.RowKit Go.Deep

theorem len_any (x : Int) (l : Nat) (w : World) (h0 : 0 ≤ x) (h1 : x < 18446744073709551616) (hl : Lib.bitLen x.toNat = l) :
    Calls Tryz.prog 182 #[.int .u64 x] w fun e w' => e = .returned (.int .i64 (l : Int)) ∧ w' = w := by
  have L := len64 x w h0 h1
  rw [hl] at L
  have HL := hid L
  clear L hl
  go_enter Tryz.func182, Tryz.ntmps182
  go_wp2_with fail
  refine HL.out.mono ?_
  rintro e w' ⟨rfl, rfl⟩
  go_wp2_with fail
  go_ret
  exact ⟨rfl, rfl⟩

theorem one_bit_i64 (x : Nat) (h1 : x < 9223372036854775808) : bits .and .i64 (x : Int) 1 = ((x % 2 : Nat) : Int) := by
  have h : x &&& 1 = x % 2 := Nat.and_two_pow_sub_one_eq_mod x 1
  have e1 : (BitVec.ofInt 64 (x : Int)).toNat = x := by
    rw [BitVec.ofInt_natCast, BitVec.toNat_ofNat]; exact Nat.mod_eq_of_lt (by omega)
  have e2 : (BitVec.ofInt 64 (1 : Int)).toNat = 1 := by decide
  show IntKind.i64.wrap ((BitVec.ofInt 64 (x : Int) &&& BitVec.ofInt 64 (1 : Int)).toNat : Int) = _
  rw [BitVec.toNat_and, e1, e2, h]
  have : x % 2 < 2 := Nat.mod_lt _ (by omega)
  rw [IntKind.wrap_i64]
  omega

/-- The length of an exponent. -/
theorem exp_len (n : Nat) (h1 : 1 ≤ n) (h2 : n < 18446744073709551616) : ∃ j, Lib.bitLen n = j + 1 ∧ n / 2 ^ j = 1 ∧ j ≤ 63 := by
  have hb := Lib.bitLenAux_bounds 64 n (by simpa using h2) (by omega)
  rw [show Lib.bitLenAux 64 n = Lib.bitLen n from rfl] at hb
  have hs := bitLen_small n h2
  obtain ⟨j, hj⟩ : ∃ j, Lib.bitLen n = j + 1 := ⟨Lib.bitLen n - 1, by omega⟩
  rw [hj, Nat.add_sub_cancel] at hb
  refine ⟨j, hj, ?_, by omega⟩
  have p1 : 0 < 2 ^ j := Nat.pow_pos (by omega)
  rw [Nat.pow_succ] at hb
  exact Nat.div_eq_of_lt_le (by omega) (by omega)

set_option maxRecDepth 100000 in
set_option maxHeartbeats 2000000 in
theorem power_any (p : Option Addr) (m cap : Nat) (zs : List Int) (A : Int) (n : Nat) (w : World) (ha : Arg w p m cap zs) (tz : Nm.tsize zs ≤ 4096) (hA : Nm.val zs = A) (hA1 : 1 ≤ A) (h1 : 1 ≤ n) (h2 : n < 4611686018427387904) :
    Calls Tryz.prog 158 #[.slice p m cap, .int .i64 (n : Int)] w fun e w' => Gives (A ^ n) w e w' := by
  obtain ⟨j0, hj0, hj1, hj63⟩ := exp_len n h1 (by omega)
  have TR := hid (trim_any p m cap zs w ha)
  have HA := hid ha
  have HAs : Hid (A < Nm.pw 4096) := by show _ < _; rw [← hA]; exact (Nm.tsize_le_iff ha.2.2.2.2 4096).1 tz
  have HVA := hid hA
  have HT := hid tz
  have HA1 := hid hA1
  have HJ1 := hid hj1
  have hn0 : (0 : Int) ≤ (n : Int) := by omega
  have hn1 : (n : Int) < 4611686018427387904 := by omega
  have HL := hid hj0
  obtain ⟨l, hl⟩ : ∃ l, l = j0 + 1 := ⟨_, rfl⟩
  have rl : (l : Int) - 2 = (j0 : Int) - 1 := by omega
  have HLL := hid hl
  have hl64 : (l : Int) ≤ 64 := by omega
  have hl1 : (1 : Int) ≤ (l : Int) := by omega
  clear ha hA tz hA1 hj0 hj1 hl h1 h2
  go_enter Tryz.func158, Tryz.ntmps158
  go_wp2_with fail
  refine TR.out.mono ?_
  rintro e w1 ⟨r, os, rfl, -, A1, hb1⟩
  rw [HVA.out] at A1
  have HB1 := hid A1
  have D1 := hid hb1
  clear A1 hb1 TR
  go_wp2_with fail
  refine (len_any (n : Int) l _ hn0 (by omega) (by rw [Int.toNat_natCast, HL.out, HLL.out])).mono ?_
  rintro e w2 ⟨rfl, rfl⟩
  go_wp2_with fail
  go_loopw [6, 7] (fun o i wr => ∃ (j : Nat) (r : Option Addr) (os : List Int), j ≤ j0 ∧ i = .int .i64 ((j : Int) - 1) ∧ o = .slice r (List.length os) (List.length os) ∧ Hid (Ans w.heap.size wr r os (A ^ (n / 2 ^ j))) ∧ Hid (A ^ (n / 2 ^ j) < Nm.pw 4096) ∧ Hid (Below w.heap.size w wr)) (fun _ i _ => (intOf i + 1).toNat)
  case atStart => exact ⟨j0, r, os, Nat.le_refl _, by first | rfl | rw [rl], rfl, by rw [HJ1.out, Int.pow_succ, Int.pow_zero, Int.one_mul]; exact HB1.out, by rw [HJ1.out, Int.pow_succ, Int.pow_zero, Int.one_mul]; exact HAs.out, D1.out⟩
  case round =>
    clear HB1 D1 rl
    obtain ⟨j, r, os, hj, rfl, rfl, HO, HS, D⟩ := hrel
    by_cases hj0' : j = 0
    · subst hj0'
      have F : Hid (Gives (A ^ n) w (.returned (.tuple #[.slice r (List.length os) (List.length os), .int .i64 0])) wr) := by
        have h1 := HO.out
        have h2 := HS.out
        rw [Nat.pow_zero, Nat.div_one] at h1 h2
        exact ⟨.inl ⟨h2, r, os, rfl, h1⟩, D.out⟩
      go_wp2_with fail
      go_ret2
      exact F.out
    · obtain ⟨t, rfl⟩ : ∃ t, j = t + 1 := ⟨j - 1, by omega⟩
      have MU := hid (mul_gives r r _ _ _ _ os os (A ^ (n / 2 ^ (t + 1)) * A ^ (n / 2 ^ (t + 1))) wr (HO.out.argT HS.out) (HO.out.argT HS.out) (HO.out.tsT HS.out) (HO.out.tsT HS.out) (by rw [HO.out.2.2.2.1]))
      go_wp2_with fail
      refine MU.out.mono ?_
      rintro e w3 ⟨h | h, hb3⟩
      · obtain ⟨hs3, s, ss, rfl, A3⟩ := h
        have HB3 := hid (A3.upT (B' := w.heap.size) D.out.size)
        have HS3 := hid hs3
        have D3 := hid (chain D.out hb3 (Nat.le_refl _))
        obtain ⟨x, hx⟩ : ∃ x, n / 2 ^ t = x := ⟨_, rfl⟩
        have hx63 : x < 9223372036854775808 := by have : n / 2 ^ t ≤ n := Nat.div_le_self _ _; omega
        have r1 : (n : Int) / 2 ^ t = (x : Int) := by rw [← hx]; simp
        have r2 := one_bit_i64 x hx63
        have HX := hid hx
        clear hs3 A3 hb3 hx
        rcases (show x % 2 = 0 ∨ x % 2 = 1 by omega) with hb | hb
        · rw [hb] at r2
          have HE := hid (Pn.square A n t (by rw [HX.out]; exact hb))
          rw [HE.out] at HB3 HS3
          clear hb
          go_wp2_with fail
          go_roundw
          case rel => exact ⟨t, s, ss, by omega, by go_num, rfl, HB3, HS3, D3⟩
          case measure => simp [intOf]
        · rw [hb] at r2
          have HE := hid (Pn.square_odd A n t (by rw [HX.out]; exact hb))
          have HA3 := hid (HA.out.below D3.out (Nat.le_refl _))
          have MU2 := hid (mul_gives s p _ _ m cap ss zs (A ^ (n / 2 ^ t)) w3 (HB3.out.argT HS3.out) HA3.out (HB3.out.tsT HS3.out) HT.out (by rw [HB3.out.2.2.2.1, HVA.out]; exact HE.out))
          clear hb
          go_wp2_with fail
          refine MU2.out.mono ?_
          rintro e w4 ⟨h | h, hb4⟩
          · obtain ⟨hs4, s4, ss4, rfl, A4⟩ := h
            have HB4 := hid (A4.upT (B' := w.heap.size) D3.out.size)
            have HS4 := hid hs4
            have D4 := hid (chain D3.out hb4 (Nat.le_refl _))
            clear hs4 A4 hb4
            go_wp2_with fail
            go_roundw
            case rel => exact ⟨t, s4, ss4, by omega, by go_num, rfl, HB4, HS4, D4⟩
            case measure => simp [intOf]
          · obtain ⟨hs4, rfl⟩ := h
            have F : Hid (Gives (A ^ n) w (.returned (.tuple #[.slice none 0 0, .int .i64 2])) w4) :=
              ⟨.inr ⟨Int.le_trans hs4 (Pn.part_le HA1.out n t), rfl⟩, chain D3.out hb4 (Nat.le_refl _)⟩
            clear hs4 hb4
            go_wp2_with fail
            go_ret2
            exact F.out
      · obtain ⟨hs3, rfl⟩ := h
        have F : Hid (Gives (A ^ n) w (.returned (.tuple #[.slice none 0 0, .int .i64 2])) w3) :=
          ⟨.inr ⟨Int.le_trans hs3 (Pn.square_le HA1.out n t), rfl⟩, chain D.out hb3 (Nat.le_refl _)⟩
        clear hs3 hb3
        go_wp2_with fail
        go_ret2
        exact F.out
end Go.Proofs.YtaoaniigbooihaaGreatDoor

namespace Go.Proofs.YtaoaniigbooihaaGreatDoor
open Go.RowKit Go.Deep

theorem pow_big (p : Option Addr) (m cap : Nat) (zs : List Int) (k : Int) (w : World) (ha : Arg w p m cap zs) (tz : 4096 < Nm.tsize zs) :
    Calls Tryz.prog 131 #[.slice p m cap, .int .i64 k] w fun e w' => e = .returned (.tuple #[.slice none 0 0, .int .i64 2]) ∧ w' = w := by
  obtain ⟨L, l1, _, _, _⟩ := blen_is zs ha.2.2.2.2
  obtain ⟨N, HN⟩ : ∃ N, Hid (Nm.tsize zs = N) := ⟨_, rfl⟩
  have hN : (4096 : Int) < (N : Int) := by have := HN.out; omega
  have HB := hid (bitLen_isT L p m cap zs w ha l1)
  have HL := hid (limbs_isT p m cap zs N w ha HN.out)
  clear ha tz l1
  go_enter Tryz.func131, Tryz.ntmps131
  go_wp2_with fail
  refine HB.out.mono ?_
  rintro e w' ⟨rfl, rfl⟩
  go_wp2_with fail
  refine HL.out.mono ?_
  rintro e w' ⟨rfl, rfl⟩
  go_wp2_with fail
  go_ret2
  exact ⟨rfl, rfl⟩

theorem pow_neg (p : Option Addr) (m cap : Nat) (zs : List Int) (k : Int) (w : World) (ha : Arg w p m cap zs) (tz : Nm.tsize zs ≤ 4096) (hk : k < 0) :
    Calls Tryz.prog 131 #[.slice p m cap, .int .i64 k] w fun e w' => e = .returned (.tuple #[.slice none 0 0, .int .i64 1]) ∧ w' = w := by
  obtain ⟨L, l1, _, _, _⟩ := blen_is zs ha.2.2.2.2
  obtain ⟨N, HN⟩ : ∃ N, Hid (Nm.tsize zs = N) := ⟨_, rfl⟩
  have hN : (N : Int) ≤ 4096 := by have := HN.out; omega
  have HB := hid (bitLen_isT L p m cap zs w ha l1)
  have HL := hid (limbs_isT p m cap zs N w ha HN.out)
  clear ha tz l1
  go_enter Tryz.func131, Tryz.ntmps131
  go_wp2_with fail
  refine HB.out.mono ?_
  rintro e w' ⟨rfl, rfl⟩
  go_wp2_with fail
  refine HL.out.mono ?_
  rintro e w' ⟨rfl, rfl⟩
  go_wp2_with fail
  go_ret2
  exact ⟨rfl, rfl⟩

theorem one_lt_pw : (1 : Int) < Nm.pw 4096 := by
  have h := Nm.pw_mono (show 1 ≤ 4096 by omega)
  have e : Nm.pw 1 = 18446744073709551616 := by simp [Nm.pw]
  rw [e] at h
  generalize Nm.pw 4096 = x at *
  omega

set_option maxRecDepth 100000 in
set_option maxHeartbeats 1000000 in
theorem pow_gives (p : Option Addr) (m cap : Nat) (zs : List Int) (A k : Int) (n : Nat) (w : World) (ha : Arg w p m cap zs) (tz : Nm.tsize zs ≤ 4096) (hA : Nm.val zs = A) (hk : k = (n : Int)) (hk1 : k ≤ 9223372036854775807) :
    Calls Tryz.prog 131 #[.slice p m cap, .int .i64 k] w fun e w' => Gives (A ^ n) w e w' := by
  obtain ⟨L, l1, l2, l3, _⟩ := blen_is zs ha.2.2.2.2
  obtain ⟨N, HN⟩ : ∃ N, Hid (Nm.tsize zs = N) := ⟨_, rfl⟩
  have hN : (N : Int) ≤ 4096 := by have := HN.out; omega
  have HB := hid (bitLen_isT L p m cap zs w ha l1)
  have HL := hid (limbs_isT p m cap zs N w ha HN.out)
  have hL : (L : Int) ≤ 262144 := by omega
  have A0 := (Nm.val_bd zs ha.2.2.2.2).1
  rw [hA] at A0 l2
  have HAs : Hid (A < Nm.pw 4096) := by show _ < _; rw [← hA]; exact (Nm.tsize_le_iff ha.2.2.2.2 4096).1 tz
  have HA := hid ha
  have HT := hid tz
  have HVA := hid hA
  have HL2 := hid l2
  clear ha tz l1 l2 l3 hA
  subst hk
  by_cases h0 : n = 0
  · subst h0
    have F := hid (fromUint_any 1 w (by omega) (by omega))
    go_enter Tryz.func131, Tryz.ntmps131
    go_wp2_with fail
    refine HB.out.mono ?_
    rintro e w' ⟨rfl, rfl⟩
    go_wp2_with fail
    refine HL.out.mono ?_
    rintro e w' ⟨rfl, rfl⟩
    go_wp2_with fail
    refine F.out.mono ?_
    rintro e w1 ⟨r, os, rfl, A1, hb1⟩
    have G : Hid (Gives (A ^ 0) w' (.returned (.tuple #[.slice r (List.length os) (List.length os), .int .i64 0])) w1) :=
      ⟨.inl ⟨by rw [Int.pow_zero]; exact one_lt_pw, r, os, rfl, by rw [Int.pow_zero]; exact A1⟩, hb1⟩
    clear A1 hb1
    go_wp2_with fail
    go_ret2
    exact G.out
  have hn0 : ((n : Int) == 0) = false := by rw [beq_eq_false_iff_ne]; omega
  by_cases hL2 : L < 2
  · have hL2' : (L : Int) < 2 := by omega
    have E : Hid (A ^ n = A) := by
      have h := HL2.out.1
      have hA2 : A < 2 := by
        have := Nm.two_mono (show L ≤ 1 by omega)
        omega
      show _ = _
      obtain ⟨n', rfl⟩ : ∃ n', n = n' + 1 := ⟨n - 1, by omega⟩
      rcases (show A = 0 ∨ A = 1 by omega) with rfl | rfl
      · rw [Int.pow_succ, Int.mul_zero]
      · rw [Int.one_pow]
    have TR := hid (trim_any p m cap zs w HA.out)
    go_enter Tryz.func131, Tryz.ntmps131
    go_wp2_with fail
    refine HB.out.mono ?_
    rintro e w' ⟨rfl, rfl⟩
    go_wp2_with fail
    refine HL.out.mono ?_
    rintro e w' ⟨rfl, rfl⟩
    go_wp2_with fail
    refine TR.out.mono ?_
    rintro e w1 ⟨r, os, rfl, -, A1, hb1⟩
    rw [HVA.out] at A1
    have G : Hid (Gives (A ^ n) w' (.returned (.tuple #[.slice r (List.length os) (List.length os), .int .i64 0])) w1) := by
      rw [E.out]
      exact ⟨.inl ⟨HAs.out, r, os, rfl, A1⟩, hb1⟩
    clear A1 hb1
    go_wp2_with fail
    go_ret2
    exact G.out
  have hL2' : (2 : Int) ≤ (L : Int) := by omega
  have hA2 : Hid (2 ^ (L - 1) ≤ A) := by
    have h1 := HL2.out.2.2
    have h2 : 0 < A := by
      rcases (show A = 0 ∨ 0 < A by omega) with h | h
      · have := HL2.out.2.1 h; omega
      · exact h
    exact (h1 h2).2
  have hA1 : Hid (1 ≤ A) := by
    have := Nm.two_pos (L - 1)
    have := hA2.out
    show _ ≤ _
    omega
  obtain ⟨c, hc⟩ : ∃ c, 262143 / ((L : Int) - 1) = c := ⟨_, rfl⟩
  have d1 := Int.emod_add_mul_ediv 262143 ((L : Int) - 1)
  have d2 := Int.emod_nonneg 262143 (show (L : Int) - 1 ≠ 0 by omega)
  have d3 := Int.emod_lt_of_pos 262143 (show 0 < (L : Int) - 1 by omega)
  have d4 : 0 ≤ c := by rw [← hc]; exact Int.ediv_nonneg (by omega) (by omega)
  rw [hc] at d1
  have hc2 : (262143 : Int).tdiv ((L : Int) - 1) = c := by rw [Int.tdiv_eq_ediv_of_nonneg (by omega)]; exact hc
  have hz : (((L : Int) - 1) == 0) = false := by rw [beq_eq_false_iff_ne]; omega
  have hc3 : c ≤ 262143 := by
    have e1 : 1 * c ≤ ((L : Int) - 1) * c := Int.mul_le_mul_of_nonneg_right (by omega) d4
    omega
  by_cases hb : c < (n : Int)
  · have G : Hid (Gives (A ^ n) w (.returned (.tuple #[.slice none 0 0, .int .i64 2])) w) := by
      refine ⟨.inr ⟨Pn.early hA2.out ?_, rfl⟩, Below.refl _ _⟩
      have e1 : ((L : Int) - 1) * (c + 1) ≤ ((L : Int) - 1) * (n : Int) := Int.mul_le_mul_of_nonneg_left (by omega) (by omega)
      rw [Int.mul_add, Int.mul_one] at e1
      have e2 : (((L - 1) * n : Nat) : Int) = ((L : Int) - 1) * (n : Int) := by rw [Int.natCast_mul, show ((L - 1 : Nat) : Int) = (L : Int) - 1 by omega]
      omega
    clear d1 d2 d3
    go_enter Tryz.func131, Tryz.ntmps131
    go_wp2_with fail
    refine HB.out.mono ?_
    rintro e w' ⟨rfl, rfl⟩
    go_wp2_with fail
    refine HL.out.mono ?_
    rintro e w' ⟨rfl, rfl⟩
    go_wp2_with fail
    go_ret2
    exact G.out
  · have hb' : (n : Int) ≤ c := by omega
    have P := hid (power_any p m cap zs A n w HA.out HT.out HVA.out hA1.out (by omega) (by omega))
    clear d1 d2 d3 hb
    go_enter Tryz.func131, Tryz.ntmps131
    go_wp2_with fail
    refine HB.out.mono ?_
    rintro e w' ⟨rfl, rfl⟩
    go_wp2_with fail
    refine HL.out.mono ?_
    rintro e w' ⟨rfl, rfl⟩
    go_wp2_with fail
    refine P.out.mono ?_
    rintro e w1 ⟨h | h, hb1⟩
    · obtain ⟨h1, r, os, rfl, A1⟩ := h
      have G : Hid (Gives (A ^ n) w' (.returned (.tuple #[.slice r (List.length os) (List.length os), .int .i64 0])) w1) := ⟨.inl ⟨h1, r, os, rfl, A1⟩, hb1⟩
      clear h1 A1 hb1
      go_wp2_with fail
      go_ret2
      exact G.out
    · obtain ⟨h1, rfl⟩ := h
      have G : Hid (Gives (A ^ n) w' (.returned (.tuple #[.slice none 0 0, .int .i64 2])) w1) := ⟨.inr ⟨h1, rfl⟩, hb1⟩
      clear h1 hb1
      go_wp2_with fail
      go_ret2
      exact G.out
end Go.Proofs.YtaoaniigbooihaaGreatDoor

namespace Go.Proofs.YtaoaniigbooihaaGreatDoor
open Go.RowKit Go.Deep

theorem pow5_gives (k : Int) (n : Nat) (w : World) (hk : k = (n : Int)) (hk1 : k ≤ 9223372036854775807) :
    Calls Tryz.prog 103 #[.int .i64 k] w fun e w' => Gives (5 ^ n) w e w' := by
  have hb : Below w.heap.size w (w.alloc (.cells #[.int .u64 5] 26)) := (Below.refl _ _).alloc (Nat.le_refl _) _
  have A : Arg (w.alloc (.cells #[.int .u64 5] 26)) (some ⟨w.heap.size, 0, none⟩) 1 1 [5] := ⟨rfl, Nat.le_refl _, by omega, (Own.alloc w [5]).lies, limb_one (by omega)⟩
  have P := hid (pow_gives _ 1 1 [5] 5 k n _ A (by simp [Nm.tsize]) (by simp [Nm.val]) hk hk1)
  have HB := hid hb
  clear hb A hk
  go_enter Tryz.func103, Tryz.ntmps103
  go_wp2_with fail
  refine P.out.mono ?_
  rintro e w1 ⟨h | h, hb1⟩
  · obtain ⟨h1, r, os, rfl, A1⟩ := h
    have G : Hid (Gives (5 ^ n) w (.returned (.tuple #[.slice r (List.length os) (List.length os), .int .i64 0])) w1) := ⟨.inl ⟨h1, r, os, rfl, A1.upT HB.out.size⟩, chain HB.out hb1 (Nat.le_refl _)⟩
    clear h1 A1 hb1
    go_wp2_with fail
    go_ret2
    exact G.out
  · obtain ⟨h1, rfl⟩ := h
    have G : Hid (Gives (5 ^ n) w (.returned (.tuple #[.slice none 0 0, .int .i64 2])) w1) := ⟨.inr ⟨h1, rfl⟩, chain HB.out hb1 (Nat.le_refl _)⟩
    clear h1 hb1
    go_wp2_with fail
    go_ret2
    exact G.out
end Go.Proofs.YtaoaniigbooihaaGreatDoor

namespace Go.Proofs.YtaoaniigbooihaaGreatDoor
open Go Go.RowKit Go.Deep

theorem fp10_pw {j : Nat} (h : j ≤ 20000) : (10 : Int) ^ j < Nm.pw 4096 := by
  have h1 := Nat.pow_le_pow_left (show 10 ≤ 2 ^ 4 by decide) j
  rw [← Nat.pow_mul] at h1
  have e1 : ((10 ^ j : Nat) : Int) = 10 ^ j := by simp
  have e2 : ((2 ^ (4 * j) : Nat) : Int) = 2 ^ (4 * j) := by simp
  have h3 : (2 : Int) ^ (4 * j) < 2 ^ 262144 := by
    have h4 := Nm.two_mono (show 4 * j + 1 ≤ 262144 by omega)
    have h5 : (2 : Int) ^ (4 * j + 1) = 2 ^ (4 * j) * 2 := Int.pow_succ _ _
    have h6 : (0 : Int) < 2 ^ (4 * j) := Int.pow_pos (by omega)
    generalize (2 : Int) ^ 262144 = a at *
    omega
  rw [fpw_4096]
  omega

theorem f5_10 (n : Nat) : (5 : Int) ^ n ≤ 10 ^ n := by
  have h1 := Nat.pow_le_pow_left (show 5 ≤ 10 by decide) n
  have e1 : ((10 ^ n : Nat) : Int) = 10 ^ n := by simp
  have e2 : ((5 ^ n : Nat) : Int) = 5 ^ n := by simp
  omega
theorem f2_10 (n : Nat) : (2 : Int) ^ n ≤ 10 ^ n := by
  have h1 := Nat.pow_le_pow_left (show 2 ≤ 10 by decide) n
  have e1 : ((10 ^ n : Nat) : Int) = 10 ^ n := by simp
  have e2 : ((2 ^ n : Nat) : Int) = 2 ^ n := by simp
  omega

theorem fpow5_ok (k : Int) (n : Nat) (w : World) (hk : k = (n : Int)) (hn : n ≤ 20000) :
    Calls Tryz.prog 103 #[.int .i64 k] w fun e w' => ∃ r os, e = .returned (.tuple #[.slice r (List.length os) (List.length os), .int .i64 0]) ∧ Ans w.heap.size w' r os (5 ^ n) ∧ Below w.heap.size w w' := by
  refine (pow5_gives k n w hk (by omega)).mono ?_
  rintro e w' ⟨⟨_, r, os, rfl, A⟩ | ⟨h, _⟩, hB⟩
  · exact ⟨r, os, rfl, A, hB⟩
  · exact absurd (Int.lt_of_le_of_lt (f5_10 n) (fp10_pw hn)) (Int.not_lt.2 h)

/-- s writes T in base 10. -/
structure DigT (T : Int) (s : ByteArray) (xs : List Int) : Prop where
  str : Str s xs
  digs : Digs xs
  val : dv xs = T
  head : xs.getD 0 0 ≠ 48
  ne : xs ≠ []
  len : xs.length ≤ 3000

theorem small_dig : ∀ d : Int, 0 ≤ d → d < 10 → (lettersOf false).getD d.toNat 0 = d + 48 := by
  intro d h0 h1
  obtain ⟨n, rfl⟩ := Int.eq_ofNat_of_zero_le h0
  have : n < 10 := by omega
  match n, this with
  | 0, _ => rfl
  | 1, _ => rfl
  | 2, _ => rfl
  | 3, _ => rfl
  | 4, _ => rfl
  | 5, _ => rfl
  | 6, _ => rfl
  | 7, _ => rfl
  | 8, _ => rfl
  | 9, _ => rfl

theorem dig_lets {T : Int} {L K : Nat} {s : ByteArray} (h0 : 0 < T) (hL : T < 10 ^ L) (hK : K ≤ 2000) (hb : T < 10 ^ K) (hs : Str s (lets (lettersOf false) (Dn.strip (Dn.dg 10 L T)))) : DigT T s (lets (lettersOf false) (Dn.strip (Dn.dg 10 L T))) := by
  have mem : ∀ d ∈ Dn.strip (Dn.dg 10 L T), 0 ≤ d ∧ d < 10 := fun d hd => Dn.dg_mem (by omega) L T d (Dn.strip_mem hd)
  have e : lets (lettersOf false) (Dn.strip (Dn.dg 10 L T)) = (Dn.strip (Dn.dg 10 L T)).map (fun d => d + 48) := List.map_congr_left fun d hd => small_dig d (mem d hd).1 (mem d hd).2
  have v : Dn.tv 10 0 (Dn.strip (Dn.dg 10 L T)) = T := by rw [Dn.tv_strip]; exact Dn.tv_dg (by omega) L T (by omega) hL
  have ne : Dn.strip (Dn.dg 10 L T) ≠ [] := by
    intro c
    rw [c] at v
    simp [Dn.tv] at v
    omega
  have dg : Digs (lets (lettersOf false) (Dn.strip (Dn.dg 10 L T))) := by
    rw [e]
    intro d hd
    obtain ⟨x, hx, rfl⟩ := List.mem_map.1 hd
    have := mem x hx
    omega
  have dvT : dv (lets (lettersOf false) (Dn.strip (Dn.dg 10 L T))) = T := by
    rw [e]
    unfold dv
    rw [List.map_map, show ((fun d : Int => d - 48) ∘ fun d => d + 48) = id from funext fun d => by simp, List.map_id]
    exact v
  have hd : (lets (lettersOf false) (Dn.strip (Dn.dg 10 L T))).getD 0 0 ≠ 48 := by
    rw [e]
    match hm : Dn.strip (Dn.dg 10 L T), ne with
    | x :: ys, _ =>
      have := Dn.strip_head hm
      simp
      omega
  have nn : lets (lettersOf false) (Dn.strip (Dn.dg 10 L T)) ≠ [] := by rw [e]; simpa using ne
  refine ⟨hs, dg, dvT, hd, nn, ?_⟩
  obtain ⟨n, hn⟩ : ∃ n, (lets (lettersOf false) (Dn.strip (Dn.dg 10 L T))).length = n + 1 := ⟨(lets (lettersOf false) (Dn.strip (Dn.dg 10 L T))).length - 1, by have := List.length_pos_iff.2 nn; omega⟩
  have := Fx.head_low dg hn hd
  rw [dvT] at this
  have := Fx.p_lt (a := n) (b := K) (Int.lt_of_le_of_lt this hb)
  omega

set_option maxRecDepth 100000 in
theorem fdigits_any (p : Option Addr) (os : List Int) (B : Nat) (T : Int) (w : World) (K : Nat) (A : Ans B w p os T) (h0 : 0 < T) (hK : K ≤ 2000) (hb : T < 10 ^ K) :
    Calls Tryz.prog 76 #[.slice p (List.length os) (List.length os)] w fun e w' => ∃ s xs, e = .returned (.tuple #[.string s, .int .i64 0]) ∧ DigT T s xs ∧ Below w.heap.size w w' := by
  have hp : T < Nm.pw 4096 := Int.lt_trans hb (fp10_pw (by omega))
  have IB : Hid (Calls Tryz.prog 108 #[.slice p (List.length os) (List.length os), .int .i64 10, .bool false] w fun e w' => ∃ s xs, e = .returned (.tuple #[.string s, .int .i64 0]) ∧ DigT T s xs ∧ Below w.heap.size w w') := by
    refine (inBase_any p _ _ os 10 false w (A.argT hp) (by omega) (by omega)).mono ?_
    rintro e w' ⟨s, xs, E, rfl, hs, h, hB⟩
    have ts := A.tsT hp
    have hv : Nm.val os = T := A.2.2.2.1
    cases h with
    | big c => omega
    | base _ c => omega
    | zero c _ _ =>
      have := (Nm.tsize_zero_iff A.2.1).1 c
      omega
    | ok L c1 c2 c3 c4 c5 =>
      rw [hv] at c5 hs
      exact ⟨s, _, rfl, dig_lets h0 c5 hK hb hs, hB⟩
  clear A h0 hb hp hK
  go_enter Tryz.func76, Tryz.ntmps76
  go_wp2_with fail
  refine IB.out.mono ?_
  rintro e w' ⟨s, xs, rfl, D, hB⟩
  have HD := hid (And.intro D hB)
  clear D hB IB
  go_wp2_with fail
  go_ret2
  exact ⟨s, xs, rfl, HD.out.1, HD.out.2⟩
end Go.Proofs.YtaoaniigbooihaaGreatDoor

/-
  ieee: Decode (made by mkdec.py).
-/
namespace Go.Proofs.YtaoaniigbooihaaGreatDoor
open Go Go.RowKit Go.Deep

namespace Ie
/-- The mantissa that Decode tells. -/
def dm (d : Int) : Int := if cls d = 2 then 4503599627370496 + d % 4503599627370496 else if cls d = 1 ∨ cls d = 4 then d % 4503599627370496 else 0
/-- The exponent that Decode tells. -/
def de (d : Int) : Int := if cls d = 2 then fld d - 1075 else if cls d = 1 then -1074 else 0
theorem cls_cases (d : Int) : cls d = 0 ∨ cls d = 1 ∨ cls d = 2 ∨ cls d = 3 ∨ cls d = 4 := by
  simp only [cls]; split <;> split <;> (try split) <;> omega
theorem fld_bd (d : Int) : 0 ≤ fld d ∧ fld d < 2048 := by simp only [fld]; omega
end Ie

/-- A double taken apart, as Go has it. -/
def partsOf (neg : Bool) (c m e : Int) : Value := .agg #[.bool neg, .int .i64 c, .int .u64 m, .int .i64 e]

theorem ret_parts {n n' : Bool} {c c' m m' e e' : Int} (h0 : n = n') (h1 : c = c') (h2 : m = m') (h3 : e = e') : Ending.returned (partsOf n c m e) = .returned (partsOf n' c' m' e') := by rw [h0, h1, h2, h3]

theorem twice_alloc (w : World) (A B : Obj) : Below w.heap.size w ((w.alloc A).alloc B) := by
  have h1 := Below.alloc (w := w) (Below.refl w.heap.size w) (Nat.le_refl _) A
  exact Below.alloc h1 (by have := h1.size; omega) B

set_option maxRecDepth 100000 in
set_option maxHeartbeats 4000000 in
theorem decode_any (d : Int) (w : World) (h0 : 0 ≤ d) (h1 : d < 18446744073709551616) :
    Calls Tryz.prog 58 #[.int .u64 d] w fun e w' => e = .returned (partsOf (decide (9223372036854775808 ≤ d)) (Ie.cls d) (Ie.dm d) (Ie.de d)) ∧ Below w.heap.size w w' := by
  have B := Ib.sign_and d h0 h1
  have F := Ib.frac_and d h0 h1
  have CL := hid (fun (wx : World) => class_any d wx h0 h1)
  have FL := hid (fun (wx : World) => field_any d wx h0 h1)
  obtain ⟨sv, hsv⟩ : ∃ sv, d / 9223372036854775808 * 9223372036854775808 = sv := ⟨_, rfl⟩
  rw [hsv] at B
  obtain ⟨f, hf⟩ : ∃ f, Ie.fld d = f := ⟨_, rfl⟩
  have fb := Ie.fld_bd d
  obtain ⟨y, hy⟩ : ∃ y, d % 4503599627370496 = y := ⟨_, rfl⟩
  have y0 : 0 ≤ y := by omega
  have y1 : y < 4503599627370496 := by omega
  rw [hf] at FL fb
  rw [hy] at F
  have O := Ib.hidden_or y y0 y1
  obtain ⟨fb0, fb1⟩ := fb
  have DM : Hid (Ie.dm d = if Ie.cls d = 2 then 4503599627370496 + y else if Ie.cls d = 1 ∨ Ie.cls d = 4 then y else 0) := by rw [Hid, Ie.dm, hy]
  have DE : Hid (Ie.de d = if Ie.cls d = 2 then f - 1075 else if Ie.cls d = 1 then -1074 else 0) := by rw [Hid, Ie.de, hf]
  have cc := Ie.cls_cases d
  have sc : (sv = 0 ∧ decide (9223372036854775808 ≤ d) = false) ∨ (sv = 9223372036854775808 ∧ decide (9223372036854775808 ≤ d) = true) := by
    rcases (show d < 9223372036854775808 ∨ 9223372036854775808 ≤ d by omega) with h | h
    · left; exact ⟨by omega, by simp; omega⟩
    · right; exact ⟨by omega, by simp; omega⟩
  rcases sc with ⟨rfl, sn⟩ | ⟨rfl, sn⟩ <;> rw [sn] <;> rcases cc with hc | hc | hc | hc | hc <;> rw [hc] at CL DM DE ⊢ <;> clear hsv hf hy hc sn
  · go_enter Tryz.func58, Tryz.ntmps58
    go_wp2_with fail
    refine (CL.out _).mono ?_
    rintro e w' ⟨rfl, rfl⟩
    go_wp2_with fail
    (try simp only [Exit.inBlock, Exit.then])
    refine bodyPost_ret (results_cell_row rfl _ _ w.heap.size 95 _ (0, 0) _ rfl (heap_alloc2_old _ _ _) Tryz.underlying95 rfl (by kernel_rfl)) rfl ?_
    exact ⟨ret_parts rfl rfl (by rw [DM.out]; rfl) (by rw [DE.out]; first | rfl | (show _ = f - 1075; omega)), twice_alloc _ _ _⟩
  · go_enter Tryz.func58, Tryz.ntmps58
    go_wp2_with fail
    refine (CL.out _).mono ?_
    rintro e w' ⟨rfl, rfl⟩
    go_wp2_with fail
    (try simp only [Exit.inBlock, Exit.then])
    refine bodyPost_ret (results_cell_row rfl _ _ w.heap.size 95 _ (0, 0) _ rfl (heap_alloc2_old _ _ _) Tryz.underlying95 rfl (by kernel_rfl)) rfl ?_
    exact ⟨ret_parts rfl rfl (by rw [DM.out]; rfl) (by rw [DE.out]; first | rfl | (show _ = f - 1075; omega)), twice_alloc _ _ _⟩
  · go_enter Tryz.func58, Tryz.ntmps58
    go_wp2_with fail
    refine (CL.out _).mono ?_
    rintro e w' ⟨rfl, rfl⟩
    go_wp2_with fail
    refine (FL.out _).mono ?_
    rintro e w' ⟨rfl, rfl⟩
    go_wp2_with fail
    (try simp only [Exit.inBlock, Exit.then])
    refine bodyPost_ret (results_cell_row rfl _ _ w.heap.size 95 _ (0, 0) _ rfl (heap_alloc2_old _ _ _) Tryz.underlying95 rfl (by kernel_rfl)) rfl ?_
    exact ⟨ret_parts rfl rfl (by rw [DM.out]; rfl) (by rw [DE.out]; first | rfl | (show _ = f - 1075; omega)), twice_alloc _ _ _⟩
  · go_enter Tryz.func58, Tryz.ntmps58
    go_wp2_with fail
    refine (CL.out _).mono ?_
    rintro e w' ⟨rfl, rfl⟩
    go_wp2_with fail
    (try simp only [Exit.inBlock, Exit.then])
    refine bodyPost_ret (results_cell_row rfl _ _ w.heap.size 95 _ (0, 0) _ rfl (heap_alloc2_old _ _ _) Tryz.underlying95 rfl (by kernel_rfl)) rfl ?_
    exact ⟨ret_parts rfl rfl (by rw [DM.out]; rfl) (by rw [DE.out]; first | rfl | (show _ = f - 1075; omega)), twice_alloc _ _ _⟩
  · go_enter Tryz.func58, Tryz.ntmps58
    go_wp2_with fail
    refine (CL.out _).mono ?_
    rintro e w' ⟨rfl, rfl⟩
    go_wp2_with fail
    (try simp only [Exit.inBlock, Exit.then])
    refine bodyPost_ret (results_cell_row rfl _ _ w.heap.size 95 _ (0, 0) _ rfl (heap_alloc2_old _ _ _) Tryz.underlying95 rfl (by kernel_rfl)) rfl ?_
    exact ⟨ret_parts rfl rfl (by rw [DM.out]; rfl) (by rw [DE.out]; first | rfl | (show _ = f - 1075; omega)), twice_alloc _ _ _⟩
  · go_enter Tryz.func58, Tryz.ntmps58
    go_wp2_with fail
    refine (CL.out _).mono ?_
    rintro e w' ⟨rfl, rfl⟩
    go_wp2_with fail
    (try simp only [Exit.inBlock, Exit.then])
    refine bodyPost_ret (results_cell_row rfl _ _ w.heap.size 95 _ (0, 0) _ rfl (heap_alloc2_old _ _ _) Tryz.underlying95 rfl (by kernel_rfl)) rfl ?_
    exact ⟨ret_parts rfl rfl (by rw [DM.out]; rfl) (by rw [DE.out]; first | rfl | (show _ = f - 1075; omega)), twice_alloc _ _ _⟩
  · go_enter Tryz.func58, Tryz.ntmps58
    go_wp2_with fail
    refine (CL.out _).mono ?_
    rintro e w' ⟨rfl, rfl⟩
    go_wp2_with fail
    (try simp only [Exit.inBlock, Exit.then])
    refine bodyPost_ret (results_cell_row rfl _ _ w.heap.size 95 _ (0, 0) _ rfl (heap_alloc2_old _ _ _) Tryz.underlying95 rfl (by kernel_rfl)) rfl ?_
    exact ⟨ret_parts rfl rfl (by rw [DM.out]; rfl) (by rw [DE.out]; first | rfl | (show _ = f - 1075; omega)), twice_alloc _ _ _⟩
  · go_enter Tryz.func58, Tryz.ntmps58
    go_wp2_with fail
    refine (CL.out _).mono ?_
    rintro e w' ⟨rfl, rfl⟩
    go_wp2_with fail
    refine (FL.out _).mono ?_
    rintro e w' ⟨rfl, rfl⟩
    go_wp2_with fail
    (try simp only [Exit.inBlock, Exit.then])
    refine bodyPost_ret (results_cell_row rfl _ _ w.heap.size 95 _ (0, 0) _ rfl (heap_alloc2_old _ _ _) Tryz.underlying95 rfl (by kernel_rfl)) rfl ?_
    exact ⟨ret_parts rfl rfl (by rw [DM.out]; rfl) (by rw [DE.out]; first | rfl | (show _ = f - 1075; omega)), twice_alloc _ _ _⟩
  · go_enter Tryz.func58, Tryz.ntmps58
    go_wp2_with fail
    refine (CL.out _).mono ?_
    rintro e w' ⟨rfl, rfl⟩
    go_wp2_with fail
    (try simp only [Exit.inBlock, Exit.then])
    refine bodyPost_ret (results_cell_row rfl _ _ w.heap.size 95 _ (0, 0) _ rfl (heap_alloc2_old _ _ _) Tryz.underlying95 rfl (by kernel_rfl)) rfl ?_
    exact ⟨ret_parts rfl rfl (by rw [DM.out]; rfl) (by rw [DE.out]; first | rfl | (show _ = f - 1075; omega)), twice_alloc _ _ _⟩
  · go_enter Tryz.func58, Tryz.ntmps58
    go_wp2_with fail
    refine (CL.out _).mono ?_
    rintro e w' ⟨rfl, rfl⟩
    go_wp2_with fail
    (try simp only [Exit.inBlock, Exit.then])
    refine bodyPost_ret (results_cell_row rfl _ _ w.heap.size 95 _ (0, 0) _ rfl (heap_alloc2_old _ _ _) Tryz.underlying95 rfl (by kernel_rfl)) rfl ?_
    exact ⟨ret_parts rfl rfl (by rw [DM.out]; rfl) (by rw [DE.out]; first | rfl | (show _ = f - 1075; omega)), twice_alloc _ _ _⟩
end Go.Proofs.YtaoaniigbooihaaGreatDoor

namespace Go.Proofs.YtaoaniigbooihaaGreatDoor
open Go Go.RowKit Go.Deep

theorem Ie.fdec (d : Int) (h : Ie.cls d < 3) : 0 ≤ Ie.dm d ∧ Ie.dm d < 9007199254740992 ∧ -1074 ≤ Ie.de d ∧ Ie.de d ≤ 971 ∧ (Ie.cls d = 0 ↔ Ie.dm d = 0) := by
  have fb := Ie.fld_bd d
  unfold Ie.dm Ie.de
  unfold Ie.cls at *
  by_cases a : Ie.fld d = 0
  · rw [if_pos a] at *
    by_cases b : d % 4503599627370496 = 0
    · simp only [if_pos b]
      simp
    · simp only [if_neg b]
      simp
      omega
  · rw [if_neg a] at *
    by_cases b : Ie.fld d = 2047
    · rw [if_pos b] at *
      by_cases c : d % 4503599627370496 = 0
      · rw [if_pos c] at h; omega
      · rw [if_neg c] at h; omega
    · simp only [if_neg b]
      simp
      omega

theorem fretB {a b : Bool} (h : a = b) : Ending.returned (.bool a) = .returned (.bool b) := by rw [h]

/-- No NaN and no infinity. -/
def Ie.fnt (d : Int) : Bool := decide (Ie.cls d < 3)

set_option maxRecDepth 100000 in
theorem ffinite_any (d : Int) (w : World) (h0 : 0 ≤ d) (h1 : d < 18446744073709551616) :
    Calls Tryz.prog 40 #[.int .u64 d] w fun e w' => e = .returned (.bool (Ie.fnt d)) ∧ w' = w := by
  have C := hid (class_any d w h0 h1)
  have E : Hid (Ie.fnt d = decide (Ie.cls d < 3)) := rfl
  generalize Ie.cls d = c at *
  go_enter Tryz.func40, Tryz.ntmps40
  go_wp2_with fail
  refine C.out.mono ?_
  rintro e w' ⟨rfl, rfl⟩
  go_wp2_with fail
  go_ret
  exact ⟨fretB E.out.symm, rfl⟩
end Go.Proofs.YtaoaniigbooihaaGreatDoor

namespace Go.Proofs.YtaoaniigbooihaaGreatDoor
open Go.RowKit Go.Deep

/-- s' is s without some zeros at its end, and ends with none. -/
def FTail (xs : List Int) (e : Ending) : Prop := ∃ s' k, e = .returned (.string s') ∧ Str s' (xs.take k) ∧ k ≤ xs.length ∧ (∀ i, k ≤ i → i < xs.length → xs.getD i 0 = 48) ∧ (0 < k → xs.getD (k - 1) 0 ≠ 48)

set_option maxRecDepth 100000 in
set_option maxHeartbeats 1000000 in
theorem frtrim_any (s : ByteArray) (xs : List Int) (w : World) (hs : Str s xs) (hn1 : xs.length ≤ 562949953421312) :
    Calls Tryz.prog 97 #[.string s, .int .u8 48] w fun e w' => FTail xs e ∧ w' = w := by
  have HS := hid hs
  have HN := hid hn1
  clear hs hn1
  go_enter Tryz.func97, Tryz.ntmps97
  go_wp2_with fail
  go_loop [0] (fun c => ∃ s' m, c = .string s' ∧ Hid (Str s' (xs.take m) ∧ m ≤ xs.length ∧ s'.size = m ∧ (∀ i, m ≤ i → i < xs.length → xs.getD i 0 = 48))) (fun c => match c with | .string s' => s'.size | _ => 0)
  case atStart => exact ⟨s, xs.length, rfl, by rw [List.take_length]; exact HS.out, Nat.le_refl _, HS.out.size, fun i h1 h2 => by omega⟩
  case round =>
    obtain ⟨s', m, rfl, I⟩ := hrel
    have hsz : s'.size = m := I.out.2.2.1
    have hmb : (m : Int) ≤ 562949953421312 := by have := HN.out; have := I.out.2.1; omega
    by_cases h0 : m = 0
    · subst h0
      have F : Hid (FTail xs (.returned (.string s'))) := ⟨s', 0, rfl, I.out.1, Nat.zero_le _, I.out.2.2.2, fun h => by omega⟩
      clear I
      go_wp2_with fail
      go_ret
      exact ⟨F.out, rfl⟩
    · obtain ⟨u, hu⟩ : ∃ u, m = u + 1 := ⟨m - 1, by omega⟩
      have hmi : (0 : Int) < (m : Int) := by omega
      have hmu : (m : Int) - 1 = (u : Int) := by omega
      have hum : (u : Int) < (m : Int) := by omega
      obtain ⟨x, X⟩ : ∃ x, Hid (xs.getD u 0 = x) := ⟨_, rfl⟩
      have hx : ∀ h : u < s'.size, ((s'[u]'h).toNat : Int) = x := fun h => by
        rw [I.out.1.at u h, ← X.out]
        simp [List.getD, show u < m by omega]
      have HU := hid hu
      by_cases hd : x = 48
      · subst hd
        have F : Hid (Str (s'.extract 0 u) (xs.take u) ∧ u ≤ xs.length ∧ (s'.extract 0 u).size = u ∧ (∀ i, u ≤ i → i < xs.length → xs.getD i 0 = 48)) := by
          have e := I.out.1.extract 0 u
          rw [List.drop_zero, Nat.sub_zero, List.take_take, show min u m = u by omega] at e
          refine ⟨e, by have := I.out.2.1; omega, by rw [e.size]; have := I.out.2.1; simp; omega, fun i h1 h2 => ?_⟩
          by_cases c : i = u
          · subst c; exact X.out
          · exact I.out.2.2.2 i (by omega) h2
        have SZ : Hid ((s'.extract 0 u).size < s'.size) := by show _ < _; rw [F.out.2.2.1, hsz]; omega
        clear I hu h0
        go_wp2_with fail
        go_round
        case rel => exact ⟨_, _, rfl, F.out⟩
        case measure => exact SZ.out
      · have hd2 : (x == 48) = false := by rw [beq_eq_false_iff_ne]; exact hd
        have F : Hid (FTail xs (.returned (.string s'))) := ⟨s', m, rfl, I.out.1, I.out.2.1, I.out.2.2.2, fun _ => by rw [show m - 1 = u by omega, X.out]; exact hd⟩
        clear I hu h0
        go_wp2_with fail
        go_ret
        exact ⟨F.out, rfl⟩


set_option maxRecDepth 100000 in
theorem frtrim0_any (s : ByteArray) (xs : List Int) (w : World) (hs : Str s xs) (hn1 : xs.length ≤ 562949953421312) :
    Calls Tryz.prog 63 #[.string s, .string ⟨#[48]⟩] w fun e w' => FTail xs e ∧ w' = w := by
  have T := hid (frtrim_any s xs w hs hn1)
  by_cases h : xs = []
  · have F : Hid (FTail xs (.returned (.string s))) := ⟨s, 0, rfl, by rw [h] at hs ⊢; exact hs, Nat.zero_le _, fun i _ hi => by rw [h] at hi; simp at hi, fun hlt => by omega⟩
    have hs0 : s = ⟨#[]⟩ := hs.inj (by rw [h]; rfl)
    subst hs0
    clear hs hn1 h
    go_enter Tryz.func63, Tryz.ntmps63
    go_wp2_with fail
    go_ret
    exact ⟨F.out, rfl⟩
  · have e1 : s.toList ≠ [] := by
      intro c
      apply h
      rw [ByteArray.toList_eq] at c
      rw [← hs, c]
      rfl
    have e2 : (s.toList == []) = false := by rw [beq_eq_false_iff_ne]; exact e1
    have e3 : s.toList.isEmpty = false := by rw [List.isEmpty_eq_false_iff]; exact e1
    clear hs hn1 h
    go_enter Tryz.func63, Tryz.ntmps63
    go_wp2_with fail
    refine T.out.mono ?_
    rintro e w' ⟨h1, rfl⟩
    obtain ⟨s', j, rfl, h2⟩ := h1
    have F : Hid (FTail xs (.returned (.string s'))) := ⟨s', j, rfl, h2⟩
    clear h2 T
    go_wp2_with fail
    go_ret
    exact ⟨F.out, rfl⟩
end Go.Proofs.YtaoaniigbooihaaGreatDoor

namespace Go.Proofs.YtaoaniigbooihaaGreatDoor
open Go.RowKit Go.Deep

/-- The kit's contract for TrailingZeros64, laid at this program. -/
def tzRen : Go.Shelf.Ren := ⟨fun _ => 72, fun t => if t = 22 then 26 else if t = 25 then 120 else if t = 54 then 139 else if t = 5 then 5 else if t = 4 then 4 else if t = 0 then 0 else 3, fun _ => 0⟩
theorem tzLays : Lays7.n29 Tryz.prog tzRen where
  mixed := by kernel_rfl
  f29 := by kernel_rfl
  t0 := by kernel_rfl
  a0 := fun _ => by kernel_rfl
  z0 := fun _ => by kernel_rfl
  v0 := fun _ => by kernel_rfl
  i0 := by kernel_rfl
  t3 := by kernel_rfl
  a3 := fun _ => by kernel_rfl
  z3 := fun _ => by kernel_rfl
  v3 := fun _ => by kernel_rfl
  i3 := by kernel_rfl
  t4 := by kernel_rfl
  a4 := fun _ => by kernel_rfl
  z4 := fun _ => by kernel_rfl
  v4 := fun _ => by kernel_rfl
  i4 := by kernel_rfl
  t5 := by kernel_rfl
  a5 := fun _ => by kernel_rfl
  z5 := fun _ => by kernel_rfl
  v5 := fun _ => by kernel_rfl
  i5 := by kernel_rfl
  t22 := by kernel_rfl
  a22 := fun _ => by kernel_rfl
  z22 := fun _ => by kernel_rfl
  v22 := fun _ => by kernel_rfl
  i22 := by kernel_rfl
  t25 := by kernel_rfl
  a25 := fun _ => by kernel_rfl
  z25 := fun _ => by kernel_rfl
  v25 := fun _ => by kernel_rfl
  i25 := by kernel_rfl
  t54 := by kernel_rfl
  a54 := fun _ => by kernel_rfl
  z54 := fun _ => by kernel_rfl
  g1 := by kernel_rfl

/-- The table that TrailingZeros64 reads. -/
def Tab (w : World) : Prop := TabAt 0 Lib.deBruijn64tab w

theorem Tab.below {w w' : World} (h : Tab w) (hb : Below w.heap.size w w') : Tab w' := by
  intro j hj
  have hc := h j hj
  rw [hb.cell (p := ⟨0, j, none⟩) (cell_lt hc)]
  exact hc

theorem tz64 (x : Int) (w : World) (h0 : 0 < x) (h1 : x < 18446744073709551616) (hT : Tab w) :
    Calls Tryz.prog 72 #[.int .u64 x] w fun e w' => ∃ (t : Nat) (m : Int), e = .returned (.int .i64 t) ∧ t ≤ 63 ∧ Hid (x = 2 ^ t * (2 * m + 1)) ∧ w' = w := by
  obtain ⟨n, rfl⟩ := Int.eq_ofNat_of_zero_le (show 0 ≤ x by omega)
  refine (Any7.bits_TrailingZeros64 tzLays n (by omega) w (fun _ => hT)).mono ?_
  rintro e w' ⟨rfl, rfl⟩
  obtain ⟨m, hm, hlt⟩ := Lib.ctzFrom_spec 64 n (by omega) (by simpa using (show n < 18446744073709551616 by omega))
  refine ⟨Lib.ctzFrom 64 n, m, by rw [Lib.ctz, if_neg (by omega)], by omega, ?_, rfl⟩
  show (n : Int) = _
  have e : ((2 ^ Lib.ctzFrom 64 n * (2 * m + 1) : Nat) : Int) = 2 ^ Lib.ctzFrom 64 n * (2 * (m : Int) + 1) := by simp
  rw [← e, ← hm]

set_option maxHeartbeats 1000000 in
theorem trail_any (p : Option Addr) (n cap : Nat) (zs : List Int) (w : World) (ha : Arg w p n cap zs) (hT : Tab w) :
    Calls Tryz.prog 280 #[.slice p n cap] w fun e w' => ∃ t : Nat, e = .returned (.int .i64 t) ∧ Nm.Trl (Nm.val zs) t ∧ w' = w := by
  obtain ⟨a1, a2, a3, a4, a5⟩ := ha
  rcases a4 with rfl | ⟨b, off, rfl, hcell⟩
  · have hn0 : n = 0 := by simpa using a1.symm
    subst hn0
    go_enter Tryz.func280, Tryz.ntmps280
    go_wp2
    refine wp_loop_rounds 1 ?_
    rw [rounds_succ]
    go_wp2
    go_ret
    exact ⟨0, rfl, .inl ⟨rfl, rfl⟩, rfl⟩
  · have H := hid a1
    have HC := hid hcell
    have HT := hid hT
    clear a1 hcell hT
    go_enter Tryz.func280, Tryz.ntmps280
    go_wp2
    go_loop [7] (fun t => ∃ k : Nat, k ≤ n ∧ t = .int .i64 k ∧ Hid (∀ j, j < k → zs.getD j 0 = 0)) (fun t => n - (intOf t).toNat)
    case atStart => exact ⟨0, Nat.zero_le _, rfl, fun j hj => by omega⟩
    case round =>
      obtain ⟨k, hk, rfl, hz⟩ := hrel
      by_cases hlt : k < n
      · obtain ⟨x, hx, X⟩ : ∃ x, w.cell? ⟨b, off + k, none⟩ = some (.int .u64 x) ∧ Hid (x = zs.getD k 0) := ⟨_, HC.out k (by have := H.out; omega), rfl⟩
        by_cases hx0 : x = 0
        · have hx0' : (x != 0) = false := by simp [hx0]
          have X0 := hid hx0
          clear hx0
          go_wp2
          go_round
          case rel =>
            refine ⟨k + 1, by omega, by go_num, fun i hi => ?_⟩
            by_cases e : i = k
            · subst e; rw [← X.out]; exact X0.out
            · exact hz.out i (by omega)
          case measure => simp [intOf]; omega
        · have hx0' : (x != 0) = true := by simp [hx0]
          have hxb := a5.at k
          rw [← X.out] at hxb
          have hx1 : 0 < x := by omega
          obtain ⟨hxa, hxb⟩ := hxb
          go_wp2_with fail
          refine (tz64 x _ hx1 hxb HT.out).mono ?_
          rintro e w' ⟨t, m, rfl, ht, E, rfl⟩
          go_wp2_with fail
          go_ret
          refine ⟨64 * k + t, retI (by omega), Nm.trl_at zs k t m (by have := H.out; omega) hz.out (by rw [← X.out]; exact E.out) ht, rfl⟩
      · have E : Hid (Nm.val zs = 0) := by
          have h0 : Nm.tsize zs = 0 := Nm.tsize_unique zs 0 (fun j _ => by
            by_cases hj : j < k
            · exact hz.out j hj
            · simp [List.getD, List.getElem?_eq_none (show zs.length ≤ j by have := H.out; omega)]) (.inl rfl)
          exact (Nm.tsize_zero_iff a5).1 h0
        go_wp2
        go_ret
        exact ⟨0, rfl, .inl ⟨E.out, rfl⟩, rfl⟩

end Go.Proofs.YtaoaniigbooihaaGreatDoor
