/-
  Texts put together: NSquares, NBTrim, NWritten, NInBase, SInN, NPush, SIn, FShl, QPow5, FDigits, TnD, VTrimL, VTrimR, VClone, VDec, VOwn, VDig.
-/
import Derived.Test.YtonnlimmjelldaaGreatDoorRD
import Derived.Test.YtonnlimmjelldaaGreatDoorNums
import Derived.Test.YtonnlimmjelldaaGreatDoorRC
import Derived.Test.YtonnlimmjelldaaGreatDoorSmall
import Derived.OwnWalk
import Derived.Deep.LoopGhost
import Derived.Test.YtonnlimmjelldaaGreatDoorNStr
import Derived.Test.YtonnlimmjelldaaGreatDoorRB
import Derived.Test.YtonnlimmjelldaaGreatDoorRA
import Derived.Test.YtonnlimmjelldaaGreatDoorNMem
import Derived.Laws.AppendOwn
import Derived.Laws.OwnMore
import Derived.Deep.CutRange
import Derived.Deep.CutBlock
import Derived.Test.YtonnlimmjelldaaGreatDoorFNum
import Derived.Test.YtonnlimmjelldaaGreatDoorVStr
import Derived.Shelf.Pu.Clone
import Derived.Test.YtonnlimmjelldaaGreatDoorVNum2
import Derived.Laws.ResultCell
namespace Go.Proofs.YtonnlimmjelldaaGreatDoor
open Go.RowKit Go.Deep

structure ShutL (p : Prop) : Prop where
  out : p

theorem wpList_append_l {ty : TypeId} {ops : Array Oper} {rest : List Oper} {o : Oper} {a : Act} {Q : Exit → Act → World → Prop} (hgd : o.guard = none) (s x : Operand)
    (ho : o.op = .call { callee := .builtin .append, args := #[s, x], argTypes := #[ty, ty] }) {v y v' : Value} {w w' : World} (hr : (Builtin.append_ #[ty, ty] o.type #[v, y]).run Tryz.prog w = .ok v' w') (hs : a.eval s = v) (hx : a.eval x = y)
    (h : wpList Tryz.prog ops Q rest (a.put o.dst v') w') : wpList Tryz.prog ops Q (o :: rest) a w := by
  refine wpList_plain hgd fun K hK => ?_
  unfold Oper.wp execOp
  simp only [ho, resolve, invoke, builtin, Sem.run_bind, Sem.run_pure, Result.andThen_ok, List.map_toArray, List.map_cons, List.map_nil, hs, hx, hr]
  exact hK _ _ h

/-- The rows b, b^2, b^4 .. that are at most A. -/
structure RowsIn (base : Nat) (b A : Int) (mv : Value) (l : List (Option Addr × List Int)) (w : World) : Prop where
  own : w.ownsRow base 59 1 mv l.length (l.map rowV)
  row : ∀ i e, l[i]? = some e → RowIn w mv e (b ^ (2 ^ i)) ∧ b ^ (2 ^ i) ≤ A

theorem RowsIn.below {base : Nat} {b A : Int} {mv : Value} {l : List (Option Addr × List Int)} {w w' : World} (h : RowsIn base b A mv l w) (hb : Below w.heap.size w w') : RowsIn base b A mv l w' :=
  ⟨h.own.kept (row := none) ⟨hb.os, hb.tape, hb.output, hb.size, fun j hj _ => hb.block j hj⟩ (by cases h : Value.ownBlock mv <;> simp), fun i e he => ⟨(h.row i e he).1.below hb, (h.row i e he).2⟩⟩

theorem pw_big : Nm.pw 4096 = 2 ^ 262144 := by rw [Nm.pw_two 4096, show 64 * 4096 = 262144 from rfl]

/-- The next row, or the error that says that it is too long. -/
inductive SqNext (b : Int) (k : Nat) (mv : Value) (r : Option Addr) (us : List Int) (w : World) : Int → Prop
  | go : b ^ (2 ^ k) < Nm.pw 4096 → RowIn w mv (r, us) (b ^ (2 ^ k)) → SqNext b k mv r us w 0
  | stop : Nm.pw 4096 ≤ b ^ (2 ^ k) → SqNext b k mv r us w 2

theorem RowsIn.few {base : Nat} {b A : Int} {mv : Value} {l : List (Option Addr × List Int)} {w : World} (h : RowsIn base b A mv l w) (hb : 2 ≤ b) (hA : A < Nm.pw 4096) : l.length ≤ 18 := by
  rcases Nat.eq_zero_or_pos l.length with c | c
  · omega
  · have he : l[l.length - 1]? = some l[l.length - 1] := List.getElem?_eq_getElem (by omega)
    have := Ln.few hb (h.row _ _ he).2 (by rw [← pw_big]; exact hA)
    omega

set_option maxRecDepth 100000 in
set_option maxHeartbeats 4000000 in
theorem nsquares_any (p q : Option Addr) (m cap' : Nat) (os za : List Int) (b A : Int) (B : Nat) (w : World) (hp : Ans B w p os b) (hb0 : 2 ≤ b) (hb1 : b < 18446744073709551616) (ha : Arg w q m cap' za) (hA : Nm.val za = A) (ts : Nm.tsize za ≤ 4096) :
    Calls Tryz.prog 169 #[.slice p (List.length os) (List.length os), .slice q m cap'] w fun e w' => ∃ mv l, e = .returned mv ∧ Hid (RowsIn w.heap.size b A mv l w' ∧ A < b ^ (2 ^ l.length) ∧ l.length ≤ 18 ∧ Below w.heap.size w w') := by
  have hAs : ShutL (A < Nm.pw 4096) := ⟨by rw [← hA]; exact (Nm.tsize_le_iff ha.2.2.2.2 4096).1 ts⟩
  have HV := hid hA
  have HA := hid ha
  have HB := hid hb0
  have P0 : Hid (RowIn w (.slice none 0 0) (p, os) (b ^ (2 ^ 0))) := by
    show RowIn _ _ _ _
    rw [Nat.pow_zero, Int.pow_succ, Int.pow_zero, Int.one_mul]
    refine ⟨hp.1, hp.2.1, hp.2.2.1, hp.2.2.2.1, fun a ha => ⟨hp.1.lt ?_ a ha, by simp [Value.ownBlock]⟩⟩
    rcases Nat.eq_zero_or_pos os.length with c | c
    · have := hp.2.2.2.1
      rw [List.eq_nil_of_length_eq_zero c] at this
      simp [Nm.val] at this
      omega
    · exact c
  have S0 : ShutL (b ^ (2 ^ 0) < Nm.pw 4096) := by
    refine ⟨?_⟩
    rw [Nat.pow_zero, Int.pow_succ, Int.pow_zero, Int.one_mul]
    have h := Nm.pw_mono (show 1 ≤ 4096 by omega)
    have e : Nm.pw 1 = 18446744073709551616 := by simp [Nm.pw]
    rw [e] at h
    exact Int.lt_of_lt_of_le hb1 h
  clear hp hb0 hb1 ha hA ts
  go_enter Tryz.func169, Tryz.ntmps169
  go_wp2_with fail
  go_loopg [0, 5, 6] 20 (fun x a c e wr => ∃ (mv : Value) (l : List (Option Addr × List Int)) (r : Option Addr) (us : List Int) (E : Int), a = .slice r (List.length us) (List.length us) ∧ c = mv ∧ e = .int .i64 E ∧ Hid (x + l.length = 20) ∧ Hid (RowsIn w.heap.size b A mv l wr) ∧ Hid (Below w.heap.size w wr) ∧ SqNext b l.length mv r us wr E)
  case atStart => exact ⟨.slice none 0 0, [], p, os, 0, rfl, rfl, rfl, rfl, ⟨World.ownsRow_nil _ _ _ _, fun i e h => by simp at h⟩, Below.refl _ _, .go S0.out P0.out⟩
  case round =>
    clear P0 S0
    obtain ⟨mv, l, r, us, E, rfl, hmv, rfl, GK, RI, D, W⟩ := hrel
    have hmv := hmv.symm
    subst hmv
    have L18 := hid (RI.out.few HB.out hAs.out)
    have W0 : (E = 0 ∧ b ^ (2 ^ l.length) < Nm.pw 4096 ∧ RowIn wr mv (r, us) (b ^ (2 ^ l.length))) ∨ (E = 2 ∧ Nm.pw 4096 ≤ b ^ (2 ^ l.length)) := by
      cases W with
      | go h1 h2 => exact .inl ⟨rfl, h1, h2⟩
      | stop h => exact .inr ⟨rfl, h⟩
    clear W
    rcases W0 with ⟨hE, hs, hr⟩ | ⟨hE, hs⟩
    · subst hE
      have HS : ShutL (b ^ (2 ^ l.length) < Nm.pw 4096) := ⟨hs⟩
      have HR := hid hr
      have lus : Hid (us.length ≤ 4096) := by
        show _ ≤ _
        have h1 := (Nm.tsize_le_iff hr.2.1 4096).2 (by rw [hr.2.2.2.1]; exact hs)
        have h2 := hr.2.2.1
        simp only at h1 h2
        omega
      have HAr := hid (HA.out.below D.out (Nat.le_refl _))
      obtain ⟨c, hc0⟩ : ∃ c, cmpI (b ^ (2 ^ l.length)) A = c := ⟨_, rfl⟩
      have HC := hid hc0
      clear hc0
      have CM := hid (cmp_is c r q _ _ m cap' us za wr (hr.arg (by have := lus.out; simp only; omega)) HAr.out (by rw [show Nm.val us = b ^ (2 ^ l.length) from hr.2.2.2.1, HV.out]; exact HC.out))
      clear hs hr HAr
      by_cases hgt : A < b ^ (2 ^ l.length)
      · have hc : c = 1 := by rw [← HC.out]; exact cmpI_gt hgt
        have HG := hid hgt
        subst hc
        clear hgt
        go_wp2_with fail
        refine CM.out.mono ?_
        rintro e w1 ⟨rfl, d1⟩
        have F : Hid (RowsIn w.heap.size b A mv l w1 ∧ A < b ^ (2 ^ l.length) ∧ l.length ≤ 18 ∧ Below w.heap.size w w1) := ⟨RI.out.below d1, HG.out, L18.out, chain D.out d1 (Nat.le_refl _)⟩
        clear d1
        go_wp2_with fail
        go_ret
        exact ⟨mv, l, rfl, F⟩
      · have hcle : c ≤ 0 := by
          rw [← HC.out]
          rcases (show b ^ (2 ^ l.length) = A ∨ b ^ (2 ^ l.length) < A by omega) with h | h
          · rw [cmpI_eq h]; omega
          · rw [cmpI_lt h]; omega
        have HLE : Hid (b ^ (2 ^ l.length) ≤ A) := by show _ ≤ _; omega
        clear hgt
        go_wp2_with fail
        refine CM.out.mono ?_
        rintro e w1 ⟨rfl, d1⟩
        have RI1 := RI.out.below d1
        have HR1 := HR.out.below d1
        have D1 := hid (chain D.out d1 (Nat.le_refl _))
        obtain ⟨mv', w2, ap, j1, j2, j3, j4, j5⟩ := pushRow w.heap.size l.length mv (l.map rowV) (rowV (r, us)) w1 (by have := L18.out; omega) rfl D1.out.size RI1.own
        have AP : Hid ((Builtin.append_ #[105, 105] 105 #[mv, .slice (some ⟨w1.heap.size, 0, none⟩) 1 1]).run Tryz.prog (w1.alloc (.cells #[.slice r (List.length us) (List.length us)] 59)) = .ok mv' w2) := ap
        have D2 := hid (D1.out.trans j2)
        have HR2 := hid (HR1.pushed j3 j4 j5)
        have RI2 : Hid (RowsIn w.heap.size b A mv' (l ++ [(r, us)]) w2) := by
          refine ⟨by simpa using j1, fun i e he => ?_⟩
          by_cases hi : i < l.length
          · rw [List.getElem?_append_left hi] at he
            exact ⟨(RI1.row i e he).1.pushed j3 j4 j5, (RI1.row i e he).2⟩
          · have hlt := (List.getElem?_eq_some_iff.1 he).1
            simp only [List.length_append, List.length_cons, List.length_nil] at hlt
            have hi2 : i = l.length := by omega
            subst hi2
            rw [List.getElem?_append_right (by omega), Nat.sub_self] at he
            simp at he
            subst he
            exact ⟨HR1.pushed j3 j4 j5, HLE.out⟩
        have MU := hid (mul_gives r r _ _ _ _ us us (b ^ (2 ^ (l.length + 1))) w2 (HR2.out.arg (by have := lus.out; simp only; omega)) (HR2.out.arg (by have := lus.out; simp only; omega)) (by rw [show Nm.tsize us = us.length from HR2.out.2.2.1]; exact lus.out) (by rw [show Nm.tsize us = us.length from HR2.out.2.2.1]; exact lus.out) (by rw [show Nm.val us = b ^ (2 ^ l.length) from HR2.out.2.2.2.1]; exact Ln.square b l.length))
        have BP := hid (show 0 < b ^ (2 ^ (l.length + 1)) from Int.pow_pos (by have := HB.out; omega))
        clear ap j1 j2 j3 j4 j5 RI1 HR1 d1 CM RI D HR
        go_wp2_with (at_builtin; refine wpList_append_l rfl _ _ rfl AP.out (by rfl) (by rfl) ?_; clear AP)
        refine MU.out.mono ?_
        rintro e w3 ⟨h | h, d3⟩
        · obtain ⟨h1, r3, us3, rfl, A3⟩ := h
          have N3 : SqNext b (l.length + 1) mv' r3 us3 w3 0 := .go h1 (A3.row rfl RI2.out.own BP.out)
          have RI3 := hid (RI2.out.below d3)
          have D3 := hid (chain D2.out d3 (Nat.le_refl _))
          clear h1 A3 d3 MU
          go_wp2_with fail
          go_roundg (19 - l.length)
          case measure => have := GK.out; have := L18.out; omega
          case rel => exact ⟨mv', l ++ [(r, us)], r3, us3, 0, rfl, rfl, rfl, by show _ = _; have := L18.out; rw [List.length_append]; simp only [List.length_cons, List.length_nil]; omega, RI3.out, D3.out, by rw [List.length_append]; exact N3⟩
        · obtain ⟨h1, rfl⟩ := h
          have N3 : SqNext b (l.length + 1) mv' none [] w3 2 := .stop h1
          have RI3 := hid (RI2.out.below d3)
          have D3 := hid (chain D2.out d3 (Nat.le_refl _))
          clear h1 d3 MU
          go_wp2_with fail
          go_roundg (19 - l.length)
          case measure => have := GK.out; have := L18.out; omega
          case rel => exact ⟨mv', l ++ [(r, us)], none, [], 2, rfl, rfl, rfl, by show _ = _; have := L18.out; rw [List.length_append]; simp only [List.length_cons, List.length_nil]; omega, RI3.out, D3.out, by rw [List.length_append]; exact N3⟩
    · subst hE
      have F : Hid (RowsIn w.heap.size b A mv l wr ∧ A < b ^ (2 ^ l.length) ∧ l.length ≤ 18 ∧ Below w.heap.size w wr) := ⟨RI.out, Int.lt_of_lt_of_le hAs.out hs, L18.out, D.out⟩
      clear hs
      go_wp2_with fail
      go_ret
      exact ⟨mv, rfl, l, F⟩
end Go.Proofs.YtonnlimmjelldaaGreatDoor

namespace Go.Proofs.YtonnlimmjelldaaGreatDoor
open Go.RowKit Go.Deep

/-- j zeros stand at the head, and then another digit. -/
structure Lead (ds : List Int) (j : Nat) : Prop where
  zero : ∀ i, i < j → ds.getD i 0 = 0
  next : ds.getD j 0 ≠ 0

theorem Lead.strip : ∀ {ds : List Int} {j : Nat}, Lead ds j → Dn.strip ds = ds.drop j
  | [], j, h => absurd (by simp) h.next
  | d :: ds, 0, h => by
    have := h.next
    simp at this
    simp [Dn.strip, this]
  | d :: ds, j + 1, h => by
    have h0 := h.zero 0 (by omega)
    simp at h0
    subst h0
    have ih : Lead ds j := ⟨fun i hi => by have := h.zero (i + 1) (by omega); simpa using this, by have := h.next; simpa using this⟩
    have := Lead.strip ih
    simp only [Dn.strip, List.dropWhile_cons, decide_true, if_true, List.drop_succ_cons] at this ⊢
    exact this

theorem Lead.lt {ds : List Int} {j : Nat} (h : Lead ds j) : j < ds.length := by
  rcases Nat.lt_or_ge j ds.length with c | c
  · exact c
  · exact absurd (by simp [List.getD, List.getElem?_eq_none c]) h.next

theorem Lead.ex : ∀ {ds : List Int}, Dn.strip ds ≠ [] → ∃ j, Lead ds j
  | [], h => absurd rfl h
  | d :: ds, h => by
    by_cases c : d = 0
    · subst c
      have : Dn.strip ds ≠ [] := by simpa [Dn.strip] using h
      obtain ⟨j, hj⟩ := Lead.ex this
      refine ⟨j + 1, fun i hi => ?_, by simpa using hj.next⟩
      cases i with
      | zero => simp
      | succ i => simpa using hj.zero i (by omega)
    · exact ⟨0, fun i hi => by omega, by simpa using c⟩

set_option maxRecDepth 100000 in
set_option maxHeartbeats 1000000 in
theorem btrim1_any (g n J : Nat) (ds : List Int) (w : World) (hd : OwnB w g ds) (hn : ds.length = n) (hJ : Lead ds J) :
    Calls Tryz.prog 186 #[.slice (some ⟨g, 0, none⟩) n n, .int .u8 0] w fun e w' => e = .returned (.slice (some ⟨g, J, none⟩) (n - J) (n - J)) ∧ w' = w := by
  have HJ := hid hJ
  have HL : Hid (J < n) := by show _ < _; have := hJ.lt; omega
  have HO := hid hd
  have HN := hid hn
  clear hd hn hJ
  go_enter Tryz.func186, Tryz.ntmps186
  go_wp2_with fail
  go_loop [0] (fun s => ∃ j m : Nat, s = .slice (some ⟨g, j, none⟩) m m ∧ j ≤ J ∧ Hid (j + m = n)) (fun s => match s with | .slice _ m _ => m | _ => 0)
  case atStart => exact ⟨0, n, rfl, Nat.zero_le _, by show _ = _; omega⟩
  case round =>
    obtain ⟨j, m, rfl, hj, E⟩ := hrel
    have hm : 0 < m := by have := E.out; have := HL.out; omega
    have hmi : (0 : Int) < (m : Int) := by omega
    have hmz : ((m : Int) == 0) = false := by rw [beq_eq_false_iff_ne]; omega
    have hm1 : 1 ≤ m := by omega
    obtain ⟨x, hx, X⟩ : ∃ x, w.cell? ⟨g, j, none⟩ = some (.int .u8 x) ∧ Hid (x = ds.getD j 0) := ⟨_, HO.out.cell j (by have := E.out; have := HN.out; omega), rfl⟩
    by_cases hlt : j < J
    · have hx0 : x = 0 := by rw [X.out]; exact HJ.out.zero j hlt
      subst hx0
      go_wp2_with fail
      go_round
      case rel => exact ⟨j + 1, m - 1, by rw [if_neg (by have := E.out; have := HL.out; omega)], by omega, by show _ = _; have := E.out; omega⟩
      case measure => simp; omega
    · obtain rfl : j = J := by omega
      have hx0 : (x == 0) = false := by rw [beq_eq_false_iff_ne, X.out]; exact HJ.out.next
      obtain rfl : m = n - j := by have := E.out; omega
      go_wp2_with fail
      go_ret
      exact ⟨rfl, rfl⟩

set_option maxRecDepth 100000 in
theorem btrim_any (g n J : Nat) (ds : List Int) (w : World) (hd : OwnB w g ds) (hn : ds.length = n) (hJ : Lead ds J) :
    Calls Tryz.prog 171 #[.slice (some ⟨g, 0, none⟩) n n, .string ⟨#[0]⟩] w fun e w' => e = .returned (.slice (some ⟨g, J, none⟩) (n - J) (n - J)) ∧ w' = w := by
  have T := hid (btrim1_any g n J ds w hd hn hJ)
  have hz : ((n : Int) == 0) = false := by rw [beq_eq_false_iff_ne]; have := hJ.lt; omega
  clear hd hn hJ
  go_enter Tryz.func171, Tryz.ntmps171
  go_wp2_with fail
  refine T.out.mono ?_
  rintro e w' ⟨rfl, rfl⟩
  go_wp2_with fail
  go_ret
  exact ⟨rfl, rfl⟩
end Go.Proofs.YtonnlimmjelldaaGreatDoor

namespace Go.Proofs.YtonnlimmjelldaaGreatDoor
open Go.RowKit Go.Deep

/-- The letters of a row of digits. -/
def lets (lt ds : List Int) : List Int := ds.map (fun d => lt.getD d.toNat 0)

/-- The list of powers, as spread wants it. -/
theorem RowsIn.pows {base g : Nat} {b A : Int} {pm : Option Addr} {K cp : Nat} {l : List (Option Addr × List Int)} {w w' : World} (h : RowsIn base b A (.slice pm K cp) l w) (hl : l.length = K) (hg : w.heap.size ≤ g) (hb : Below w.heap.size w w') (hA : A < Nm.pw 4096) : Pows g b pm K w' := by
  intro s hs
  have he : l[s]? = some l[s] := List.getElem?_eq_getElem (by omega)
  obtain ⟨h1, h2⟩ := h.row s _ he
  rcases h.own.2 with ⟨_, h0⟩ | ⟨gm, cp', cur, hv, _⟩
  · omega
  · simp only [Value.slice.injEq] at hv
    obtain ⟨rfl, hK, rfl⟩ := hv
    have hc := h.own.cells (g := gm) rfl s (rowV l[s]) (by rw [List.getElem?_map, he]; rfl)
    rw [Go.WideShapes.add_plain, Nat.zero_add] at hc
    have ht : Nm.tsize (l[s]).2 ≤ 4096 := (Nm.tsize_le_iff h1.2.1 4096).2 (by rw [h1.2.2.2.1]; exact Int.lt_of_le_of_lt h2 hA)
    refine ⟨gm, (l[s]).1, (l[s]).2, rfl, Nat.lt_of_lt_of_le (cell_lt hc) hg, ?_, ?_, h1.2.2.2.1, ht, fun a ha => Nat.lt_of_lt_of_le (h1.2.2.2.2 a ha).1 hg⟩
    · rw [hb.cell (p := ⟨gm, s, none⟩) (cell_lt hc)]
      exact hc
    · exact (h1.arg (by have := h1.2.2.1; omega)).below hb (Nat.le_refl _)

/-- On the way: the first t digits behind the zeros are letters. -/
def Lett (g J : Nat) (ds lt : List Int) (t : Nat) (w0 wr : World) : Prop :=
  ∃ es, OwnB wr g es ∧ es.length = ds.length ∧ (∀ i, i < t → es.getD (J + i) 0 = lt.getD (ds.getD (J + i) 0).toNat 0) ∧ (∀ i, t ≤ i → es.getD (J + i) 0 = ds.getD (J + i) 0) ∧ Only g w0 wr

theorem Lett.step {g J : Nat} {ds lt : List Int} {t : Nat} {w0 wr : World} (h : Lett g J ds lt t w0 wr) (ht : J + t < ds.length) {x : Int} (hx : x = lt.getD (ds.getD (J + t) 0).toNat 0) : Lett g J ds lt (t + 1) w0 (wr.setCell ⟨g, J + t, none⟩ (.int .u8 x)) := by
  obtain ⟨es, h1, h2, h3, h4, h5⟩ := h
  refine ⟨es.set (J + t) x, h1.set _ _, by simpa using h2, fun i hi => ?_, fun i hi => ?_, h5.trans (Only.set _ _)⟩
  · by_cases e : i = t
    · subst e
      simp [List.getD, show J + i < es.length by omega, hx]
    · have := h3 i (by omega)
      simpa [List.getD, List.getElem?_set, show ¬ t = i by omega] using this
  · have := h4 i (by omega)
    simpa [List.getD, List.getElem?_set, show ¬ t = i by omega] using this

theorem chain' {B : Nat} {a b c : World} (h : Below B a b) (k : Below B b c) : Below B a c := h.trans k

set_option maxRecDepth 100000 in
set_option maxHeartbeats 4000000 in
theorem written_any (p : Option Addr) (n cap : Nat) (za lt : List Int) (V B : Int) (ls : ByteArray) (w : World) (ha : Arg w p n cap za) (hV : Nm.val za = V) (ht : Nm.tsize za ≤ 4096) (h0 : 0 < V) (h2 : 2 ≤ B) (h36 : B ≤ 36) (hls : Str ls lt) (hlt : lt.length = 36) :
    Calls Tryz.prog 146 #[.slice p n cap, .int .u64 B, .string ls] w fun e w' => (∃ s L, e = .returned (.string s) ∧ V < B ^ L ∧ Str s (lets lt (Dn.strip (Dn.dg B L V)))) ∧ Below w.heap.size w w' := by
  have hAs : ShutN (V < Nm.pw 4096) := ⟨by rw [← hV]; exact (Nm.tsize_le_iff ha.2.2.2.2 4096).1 ht⟩
  have HV := hid hV
  have HA := hid ha
  have HT := hid ht
  have HS := hid hls
  have hsz : ls.size = 36 := by rw [hls.size, hlt]
  have GR := hid (group_any B w h2 h36)
  clear ha hV ht hls
  go_enter Tryz.func146, Tryz.ntmps146
  go_wp2_with fail
  refine GR.out.mono ?_
  rintro e w' ⟨⟨W, P, rfl, hP, hW1, hW63, hPl⟩, rfl⟩
  have hP2 : 2 ≤ P := by
    rw [hP, show W = W - 1 + 1 by omega, Int.pow_succ]
    have h1 : 1 ≤ B ^ (W - 1) := by have : 0 < B ^ (W - 1) := Int.pow_pos (by omega); omega
    have h3 := Int.mul_le_mul h1 h2 (by omega) (by omega)
    omega
  have HP := hid hP
  have FU := hid (fromUint_any P w' (by omega) hPl)
  have HPL := hid hPl
  clear GR hP hPl
  go_wp2_with fail
  refine FU.out.mono ?_
  rintro e w1 ⟨r1, os1, rfl, A1, d1⟩
  have SQ := hid (nsquares_any r1 p n cap os1 za P V _ w1 A1 hP2 HPL.out (HA.out.below d1 (Nat.le_refl _)) HV.out HT.out)
  have D1 := hid d1
  clear A1 d1 FU
  go_wp2_with fail
  refine SQ.out.mono ?_
  rintro e w2 ⟨mv, l, rfl, F2⟩
  obtain ⟨pm, cp, hmv, hcp⟩ : ∃ pm cp, mv = .slice pm l.length cp ∧ l.length ≤ cp := by
    rcases F2.out.1.own.2 with ⟨rfl, h0⟩ | ⟨gm, cp, cur, rfl, _, _, h1, _⟩
    · exact ⟨none, 0, by rw [h0], by omega⟩
    · exact ⟨_, cp, rfl, h1⟩
  subst hmv
  obtain ⟨K, HK⟩ : ∃ K, Hid (l.length = K) := ⟨_, rfl⟩
  have hK18 : (K : Int) ≤ 18 := by have := HK.out; have := F2.out.2.2.1; omega
  obtain ⟨L, HL⟩ : ∃ L, Hid (W * 2 ^ K = L) := ⟨_, rfl⟩
  have VL : ShutN (V < B ^ L) := ⟨by
    have h := F2.out.2.1
    rw [HP.out, HK.out, ← Int.pow_mul, HL.out] at h
    exact h⟩
  have D2 := hid (chain D1.out F2.out.2.2.2 (Nat.le_refl _))
  rw [HK.out] at F2 hcp
  rw [HK.out]
  have hL63 : L ≤ 63 * 262144 := by
    have h1 : 2 ^ K ≤ 2 ^ 18 := Nat.pow_le_pow_right (by omega) (by omega)
    have h2 := Nat.mul_le_mul hW63 h1
    have := HL.out
    omega
  have q1 : IntKind.i64.wrap ((W : Int) * 2 ^ K) = (L : Int) := by
    have e : (W : Int) * 2 ^ K = (L : Int) := by rw [← HL.out]; simp
    rw [e, IntKind.wrap_i64]
    omega
  have mk := make8 L (by omega) w2
  have bm : Below w2.heap.size w2 (w2.alloc (.cells (madeCells #[.int .u8 0] L) 5)) := (Below.refl _ _).alloc (Nat.le_refl _) _
  have ob : OwnB (w2.alloc (.cells (madeCells #[.int .u8 0] L) 5)) w2.heap.size (List.replicate L 0) := by rw [made_zero8]; exact OwnB.alloc w2 _
  obtain ⟨w3, hw3⟩ : ∃ w3, w2.alloc (.cells (madeCells #[.int .u8 0] L) 5) = w3 := ⟨_, rfl⟩
  rw [hw3] at mk bm ob
  have D3 := hid (chain D2.out bm (Nat.le_refl _))
  have hzl : 0 < za.length := by
    rcases Nat.eq_zero_or_pos za.length with c | c
    · have := HV.out
      rw [List.eq_nil_of_length_eq_zero c] at this
      simp [Nm.val] at this
      omega
    · exact c
  obtain ⟨g, HG⟩ : ∃ g, Hid (w2.heap.size = g) := ⟨_, rfl⟩
  rw [HG.out] at mk ob
  have PO := F2.out.1.pows HK.out (Nat.le_of_eq HG.out) bm hAs.out
  rw [HP.out] at PO
  have hwg : w'.heap.size ≤ g := by have := D2.out.size; have := HG.out; omega
  have SP := hid (spread_any B W g K cp pm h2 h36 hW1 hW63 (by rw [← HP.out]; exact HPL.out) (by omega) K (Nat.le_refl _) hcp 0 L L n cap p za (List.replicate L 0) V w3 HL.out.symm ob (by simp) (Nat.le_refl _) (by omega) (HA.out.below D3.out (Nat.le_refl _)) (fun a ha => by have := HA.out.2.2.2.1.lt hzl a ha; omega) HV.out VL.out HT.out PO)
  have HWG := hid hwg
  have HW63 := hid hL63
  clear PO bm ob hw3 hcp F2 SQ D1 D2 hwg hL63
  go_wp2_with fail
  refine SP.out.mono ?_
  rintro e w4 ⟨rfl, s4⟩
  obtain ⟨D, hD⟩ : ∃ D, Dn.dg B L V = D := ⟨_, rfl⟩
  have hDl : D.length = L := by rw [← hD]; exact Dn.dg_length B L V
  have O4 : Hid (OwnB w4 g D) := by
    have := s4.1
    rw [hD] at this
    simp only [put, List.take_zero, List.nil_append, hDl, Nat.zero_add, List.drop_replicate, Nat.sub_self, List.replicate_zero, List.append_nil] at this
    exact this
  have N4 := hid s4.2
  have hB0 : 0 < B := by omega
  have DM : Hid (∀ t, 0 ≤ D.getD t 0 ∧ D.getD t 0 < 36) := by
    intro t
    by_cases c : t < D.length
    · have e : D.getD t 0 = D[t] := by simp [List.getD, c]
      have := Dn.dg_mem hB0 L V (D[t]) (by rw [hD]; exact List.getElem_mem c)
      rw [e]
      omega
    · rw [show D.getD t 0 = 0 by simp [List.getD, List.getElem?_eq_none (show D.length ≤ t by omega)]]
      omega
  obtain ⟨J, hJ⟩ : ∃ J, Lead D J := Lead.ex (by
    rw [← hD]
    apply Dn.strip_ne (B := B)
    rw [Dn.tv_dg hB0 L V (by omega) VL.out]
    omega)
  have BT := hid (btrim_any g L J D w4 O4.out hDl hJ)
  have FIN : ShutN (∀ s, Str s (lets lt (D.drop J)) → ∃ s' L, Ending.returned (.string s) = .returned (.string s') ∧ V < B ^ L ∧ Str s' (lets lt (Dn.strip (Dn.dg B L V)))) :=
    ⟨fun s hs => ⟨s, L, rfl, VL.out, by rw [hD, hJ.strip]; exact hs⟩⟩
  have HDL := hid hDl
  have HJL : Hid (J < L) := by show _ < _; have := hJ.lt; omega
  have LE0 : Hid (Lett g J D lt 0 w4 w4) := ⟨D, O4.out, rfl, fun i hi => by omega, fun i _ => rfl, Only.refl _ _⟩
  clear s4 hD hDl hJ SP mk q1 VL O4
  go_wp2_with fail
  refine BT.out.mono ?_
  rintro e w5 ⟨rfl, rfl⟩
  obtain ⟨M, HM⟩ : ∃ M, Hid (L - J = M) := ⟨_, rfl⟩
  rw [HM.out]
  have hM : (M : Int) ≤ 16515072 := by have := HM.out; have := HW63.out; omega
  clear BT
  go_wp2_with fail
  go_loopw [11, 12, 36] (fun _ _ t wr => ∃ j : Nat, t = .int .i64 (j : Int) ∧ j ≤ M ∧ Hid (Lett g J D lt j w5 wr)) (fun _ _ t _ => M - (intOf t).toNat)
  case atStart => exact ⟨0, rfl, Nat.zero_le _, LE0.out⟩
  case round =>
    clear LE0
    obtain ⟨j, rfl, hj, I⟩ := hrel
    by_cases hlt : j < M
    · have hji : (j : Int) < (M : Int) := by omega
      have hJj : J + j < D.length := by have := HDL.out; have := HM.out; omega
      obtain ⟨es, i1, i2, i3, i4, i5⟩ := I.out
      obtain ⟨d, hd, X⟩ : ∃ d, wr.cell? ⟨g, J + j, none⟩ = some (.int .u8 d) ∧ Hid (d = D.getD (J + j) 0) := ⟨_, i1.cell (J + j) (by omega), i4 j (Nat.le_refl _)⟩
      have hfr := i1.free (J + j)
      have hd0 : 0 ≤ d := by rw [X.out]; exact (DM.out _).1
      have hd1 : d < 36 := by rw [X.out]; exact (DM.out _).2
      have ST : Hid (∀ x, x = lt.getD d.toNat 0 → Lett g J D lt (j + 1) w5 (wr.setCell ⟨g, J + j, none⟩ (.int .u8 x))) := fun x hx => I.out.step hJj (by rw [hx, X.out])
      clear i1 i2 i3 i4 i5 I hJj
      go_wp2_with fail
      go_roundw
      case rel => exact ⟨j + 1, by go_num, by omega, ST.out _ (HS.out.at _ _)⟩
      case measure => simp [intOf]; omega
    · obtain rfl : j = M := by omega
      obtain ⟨es, i1, i2, i3, i4, i5⟩ := I.out
      have hxl : (lets lt (D.drop J)).length = j := by simp [lets]; have := HDL.out; have := HM.out; omega
      have CV := run_convert_bytes_arg (P := Tryz.prog) wr 117 5 Tryz.underlying117 Tryz.underlying5 g J j j (lets lt (D.drop J)) hxl (fun i hi => by
        rw [i1.cell (J + i) (by have := HDL.out; have := HM.out; omega), i3 i hi]
        simp [lets, List.getD, List.getElem?_eq_getElem (show J + i < D.length by have := HDL.out; have := HM.out; omega)]) 9 Tryz.underlying9
      have FS := FIN.out _ (Str.of_nums (xs := lets lt (D.drop J)) (fun x hx => by
        obtain ⟨d, _, rfl⟩ := List.mem_map.1 hx
        exact HS.out.atb _))
      have D6 : Hid (Below w'.heap.size w' wr) := chain' D3.out ((N4.out.trans i5).below HWG.out D3.out.size)
      have HFS := hid FS
      clear i1 i2 i3 i4 i5 I hxl FS
      go_wp2_with fail
      go_ret
      exact ⟨HFS.out, D6.out⟩
end Go.Proofs.YtonnlimmjelldaaGreatDoor

namespace Go.Proofs.YtonnlimmjelldaaGreatDoor
open Go.RowKit Go.Deep

def smallL : List Int := [48, 49, 50, 51, 52, 53, 54, 55, 56, 57, 97, 98, 99, 100, 101, 102, 103, 104, 105, 106, 107, 108, 109, 110, 111, 112, 113, 114, 115, 116, 117, 118, 119, 120, 121, 122]
def capL : List Int := [48, 49, 50, 51, 52, 53, 54, 55, 56, 57, 65, 66, 67, 68, 69, 70, 71, 72, 73, 74, 75, 76, 77, 78, 79, 80, 81, 82, 83, 84, 85, 86, 87, 88, 89, 90]
def lettersOf (up : Bool) : List Int := if up then capL else smallL

/-- What InBase tells. -/
inductive InIs (zs : List Int) (B : Int) (up : Bool) : List Int → Int → Prop
  | big : 4096 < Nm.tsize zs → InIs zs B up [] 2
  | base : Nm.tsize zs ≤ 4096 → (B < 2 ∨ 36 < B) → InIs zs B up [] 32
  | zero : Nm.tsize zs = 0 → 2 ≤ B → B ≤ 36 → InIs zs B up [48] 0
  | ok (L : Nat) : 0 < Nm.tsize zs → Nm.tsize zs ≤ 4096 → 2 ≤ B → B ≤ 36 → Nm.val zs < B ^ L → InIs zs B up (lets (lettersOf up) (Dn.strip (Dn.dg B L (Nm.val zs)))) 0

theorem blen_big {zs : List Int} (hl : Nm.Limbs zs) : ∃ L : Nat, blen zs = (L : Int) ∧ (262144 < (L : Int) ↔ 4096 < Nm.tsize zs) ∧ ((L : Int) = 0 ↔ Nm.tsize zs = 0) := by
  obtain ⟨L, l1, l2, l3, l4⟩ := blen_is zs hl
  refine ⟨L, l1, ?_, ?_⟩
  · by_cases h : 0 < Nm.tsize zs
    · have := l4 h
      omega
    · omega
  · by_cases h : 0 < Nm.tsize zs
    · have := l4 h
      omega
    · omega

set_option maxRecDepth 100000 in
set_option maxHeartbeats 4000000 in
theorem inBase_any (p : Option Addr) (n cap : Nat) (za : List Int) (B : Int) (up : Bool) (w : World) (ha : Arg w p n cap za) (hB0 : -9223372036854775808 ≤ B) (hB1 : B ≤ 9223372036854775807) :
    Calls Tryz.prog 107 #[.slice p n cap, .int .i64 B, .bool up] w fun e w' => ∃ s xs E, e = .returned (.tuple #[.string s, .int .i64 E]) ∧ Str s xs ∧ InIs za B up xs E ∧ Below w.heap.size w w' := by
  obtain ⟨L, hL, hbig, hzero⟩ := blen_big ha.2.2.2.2
  have BL := hid (bitLen_isT L p n cap za w ha hL)
  have Z : Hid (Str ⟨#[]⟩ []) := rfl
  by_cases h1 : 4096 < Nm.tsize za
  · have hLi : (262144 : Int) < (L : Int) := hbig.2 h1
    have F : Hid (InIs za B up [] 2) := .big h1
    clear ha hL hbig hzero h1
    go_enter Tryz.func107, Tryz.ntmps107
    go_wp2_with fail
    refine BL.out.mono ?_
    rintro e w' ⟨rfl, rfl⟩
    go_wp2_with fail
    go_ret2
    exact ⟨_, _, _, rfl, Z.out, F.out, Below.refl _ _⟩
  have hLi : (L : Int) ≤ 262144 := by have := hbig.1; omega
  by_cases h2 : B < 2 ∨ 36 < B
  · have F : Hid (InIs za B up [] 32) := .base (by omega) h2
    clear ha hL hbig hzero h1
    rcases h2 with h2 | h2
    · go_enter Tryz.func107, Tryz.ntmps107
      go_wp2_with fail
      refine BL.out.mono ?_
      rintro e w' ⟨rfl, rfl⟩
      go_wp2_with fail
      go_ret2
      exact ⟨_, _, _, rfl, Z.out, F.out, Below.refl _ _⟩
    · go_enter Tryz.func107, Tryz.ntmps107
      go_wp2_with fail
      refine BL.out.mono ?_
      rintro e w' ⟨rfl, rfl⟩
      go_wp2_with fail
      go_ret2
      exact ⟨_, _, _, rfl, Z.out, F.out, Below.refl _ _⟩
  have h3 : 2 ≤ B := by omega
  have h4 : B ≤ 36 := by omega
  by_cases h5 : Nm.tsize za = 0
  · have F : Hid (InIs za B up [48] 0) := .zero h5 h3 h4
    have Z2 : Hid (Str ⟨#[48]⟩ [48]) := rfl
    have hL0 : (L : Int) = 0 := hzero.2 h5
    obtain rfl : L = 0 := by omega
    clear ha hL hbig hzero h1 h2 h5
    go_enter Tryz.func107, Tryz.ntmps107
    go_wp2_with fail
    refine BL.out.mono ?_
    rintro e w' ⟨rfl, rfl⟩
    go_wp2_with fail
    refine BL.out.mono ?_
    rintro e w' ⟨rfl, rfl⟩
    go_wp2_with fail
    go_ret2
    exact ⟨_, _, _, rfl, Z2.out, F.out, Below.refl _ _⟩
  · have hL0 : ((L : Int) == 0) = false := by rw [beq_eq_false_iff_ne]; intro c; exact h5 (hzero.1 c)
    have hv : 0 < Nm.val za := by
      have e1 := Nm.tsize_zero_iff ha.2.2.2.2
      have e2 := (Nm.val_bd za ha.2.2.2.2).1
      omega
    have F : Hid (∀ s L, Nm.val za < B ^ L → Str s (lets (lettersOf up) (Dn.strip (Dn.dg B L (Nm.val za)))) → ∃ s' xs E, Ending.returned (.tuple #[.string s, .int .i64 0]) = .returned (.tuple #[.string s', .int .i64 E]) ∧ Str s' xs ∧ InIs za B up xs E) := fun s L hl hs => ⟨s, _, 0, rfl, hs, .ok L (by omega) (by omega) h3 h4 hl⟩
    have WR : Hid (∀ ls, Str ls (lettersOf up) → Calls Tryz.prog 146 #[.slice p n cap, .int .u64 B, .string ls] w fun e w' => (∃ s L, e = .returned (.string s) ∧ Nm.val za < B ^ L ∧ Str s (lets (lettersOf up) (Dn.strip (Dn.dg B L (Nm.val za))))) ∧ Below w.heap.size w w') :=
      fun ls hls => written_any p n cap za (lettersOf up) _ B ls w ha rfl (by omega) hv h3 h4 hls (by cases up <;> rfl)
    clear ha hL hbig hzero h1 h2 h5 hv
    cases up with
    | true =>
      have W2 := hid (WR.out ⟨#[48, 49, 50, 51, 52, 53, 54, 55, 56, 57, 65, 66, 67, 68, 69, 70, 71, 72, 73, 74, 75, 76, 77, 78, 79, 80, 81, 82, 83, 84, 85, 86, 87, 88, 89, 90]⟩ rfl)
      go_enter Tryz.func107, Tryz.ntmps107
      go_wp2_with fail
      refine BL.out.mono ?_
      rintro e w' ⟨rfl, rfl⟩
      go_wp2_with fail
      refine BL.out.mono ?_
      rintro e w' ⟨rfl, rfl⟩
      go_wp2_with fail
      refine W2.out.mono ?_
      rintro e w1 ⟨⟨s, M, rfl, hM, hs⟩, d1⟩
      have G := hid (F.out s M hM hs)
      have D := hid d1
      clear hM hs d1
      go_wp2_with fail
      go_ret2
      obtain ⟨s', xs, E, k1, k2, k3⟩ := G.out
      exact ⟨s', xs, E, k1, k2, k3, D.out⟩
    | false =>
      have W2 := hid (WR.out ⟨#[48, 49, 50, 51, 52, 53, 54, 55, 56, 57, 97, 98, 99, 100, 101, 102, 103, 104, 105, 106, 107, 108, 109, 110, 111, 112, 113, 114, 115, 116, 117, 118, 119, 120, 121, 122]⟩ rfl)
      go_enter Tryz.func107, Tryz.ntmps107
      go_wp2_with fail
      refine BL.out.mono ?_
      rintro e w' ⟨rfl, rfl⟩
      go_wp2_with fail
      refine BL.out.mono ?_
      rintro e w' ⟨rfl, rfl⟩
      go_wp2_with fail
      refine W2.out.mono ?_
      rintro e w1 ⟨⟨s, M, rfl, hM, hs⟩, d1⟩
      have G := hid (F.out s M hM hs)
      have D := hid d1
      clear hM hs d1
      go_wp2_with fail
      go_ret2
      obtain ⟨s', xs, E, k1, k2, k3⟩ := G.out
      exact ⟨s', xs, E, k1, k2, k3, D.out⟩
end Go.Proofs.YtonnlimmjelldaaGreatDoor

namespace Go.Proofs.YtonnlimmjelldaaGreatDoor
open Go.RowKit Go.Deep
namespace Gn

theorem pb_pow (B : Int) : ∀ n, pb B n = B ^ n
  | 0 => by simp [pb]
  | n + 1 => by
    have : pb B (n + 1) = B * pb B n := by first | rfl | (simp only [pb]; omega)
    rw [this, pb_pow B n, Int.pow_succ, Int.mul_comm]
theorem gv_lt {B : Int} (hB : 0 < B) : ∀ (zs : List Int), Digs B zs → 0 ≤ gv B zs ∧ gv B zs < B ^ zs.length
  | [], _ => by simp [gv]
  | z :: zs, h => by
    have hz := h z (by simp)
    have ih := gv_lt hB zs (fun y hy => h y (by simp [hy]))
    have e : gv B (z :: zs) = z + B * gv B zs := by first | rfl | (simp only [gv]; omega)
    rw [e, List.length_cons, Int.pow_succ]
    have m1 : 0 ≤ B * gv B zs := Int.mul_nonneg (by omega) ih.1
    have m2 : B * (gv B zs + 1) ≤ B * B ^ zs.length := Int.mul_le_mul_of_nonneg_left (by omega) (by omega)
    rw [Int.mul_add] at m2
    rw [Int.mul_comm (B ^ zs.length) B]
    omega
theorem gv_at {B : Int} (hB : 0 < B) : ∀ (zs : List Int) (i : Nat), Digs B zs → i < zs.length → gv B zs / B ^ i % B = zs.getD i 0
  | [], i, _, hi => by simp at hi
  | z :: zs, 0, h, _ => by
    have hz := h z (by simp)
    have e : gv B (z :: zs) = z + B * gv B zs := by first | rfl | (simp only [gv]; omega)
    rw [e, Int.pow_zero, Int.ediv_one, Int.add_mul_emod_self_left, Int.emod_eq_of_lt hz.1 hz.2]
    rfl
  | z :: zs, i + 1, h, hi => by
    have hz := h z (by simp)
    have e : gv B (z :: zs) = z + B * gv B zs := by first | rfl | (simp only [gv]; omega)
    have ih := gv_at hB zs i (fun y hy => h y (by simp [hy])) (by simpa using hi)
    have p : (z + B * gv B zs) / B ^ (i + 1) = gv B zs / B ^ i := by
      rw [Int.pow_succ, Int.mul_comm (B ^ i) B, ← Int.ediv_ediv_of_nonneg (by omega), Int.add_mul_ediv_left _ _ (by omega), Int.ediv_eq_zero_of_lt hz.1 hz.2, Int.zero_add]
    rw [e, p, ih]
    rfl
/-- A digit of a group is a digit of the number. -/
theorem mod_div {B : Int} (hB : 0 < B) (X : Int) (m : Nat) : ∀ j : Nat, X % B ^ (j + m) / B ^ j = X / B ^ j % B ^ m
  | 0 => by simp
  | j + 1 => by
    have e := Dn.split_mod hB (j + m) X
    have ih := mod_div hB (X / B) m j
    have q : X % B ^ (j + 1 + m) / B ^ (j + 1) = X % B ^ (j + m + 1) / B / B ^ j := by
      rw [show j + 1 + m = j + m + 1 by omega, Int.pow_succ B j, Int.mul_comm (B ^ j) B, ← Int.ediv_ediv_of_nonneg (by omega)]
    rw [q, e.2.1, ih]
    rw [Int.pow_succ, Int.mul_comm (B ^ j) B, ← Int.ediv_ediv_of_nonneg (by omega)]
theorem dig_at {B P : Int} {k : Nat} (hB : 0 < B) (hP : P = B ^ k) (zs : List Int) (h : Digs P zs) (i j : Nat) (hi : i < zs.length) (hj : j < k) : zs.getD i 0 / B ^ j % B = gv P zs / B ^ (i * k + j) % B := by
  have p0 : 0 < P := by rw [hP]; exact Int.pow_pos hB
  rw [← gv_at p0 zs i h hi]
  obtain ⟨r, hr⟩ : ∃ r, k = j + (r + 1) := ⟨k - j - 1, by omega⟩
  have e1 : gv P zs / P ^ i % P / B ^ j = gv P zs / P ^ i / B ^ j % B ^ (r + 1) := by
    conv => lhs; rw [show (gv P zs / P ^ i % P) = gv P zs / P ^ i % B ^ (j + (r + 1)) by rw [hP, ← hr]]
    exact mod_div hB _ _ _
  rw [e1, Int.emod_emod_of_dvd _ (by rw [Int.pow_succ]; exact Int.dvd_mul_left _ _)]
  have e2 : gv P zs / P ^ i / B ^ j = gv P zs / B ^ (i * k + j) := by
    rw [Int.ediv_ediv_of_nonneg (Int.le_of_lt (Int.pow_pos p0)), Int.pow_add, hP, ← Int.pow_mul, Nat.mul_comm k i]
  rw [e2]

/-- The letters of the low digits, lowest first. -/
def bk (B V : Int) (up : Bool) : Nat → List Int
  | 0 => []
  | t + 1 => bk B V up t ++ [dgt (V / B ^ t % B) up]
theorem bk_len (B V : Int) (up : Bool) : ∀ t, (bk B V up t).length = t
  | 0 => rfl
  | t + 1 => by rw [bk, List.length_append, bk_len B V up t]; rfl
theorem bk_at (B V : Int) (up : Bool) : ∀ t s, s < t → (bk B V up t).getD s 0 = dgt (V / B ^ s % B) up
  | 0, s, h => by omega
  | t + 1, s, h => by
    rw [bk, List.getD_eq_getElem?_getD]
    rcases Nat.lt_or_ge s t with q | q
    · rw [List.getElem?_append_left (by rw [bk_len]; exact q), ← List.getD_eq_getElem?_getD, bk_at B V up t s q]
    · have : s = t := by omega
      subst this
      rw [List.getElem?_append_right (by rw [bk_len]; omega), bk_len, Nat.sub_self]
      rfl
theorem dg_next {B : Int} (hB : 0 < B) (n : Nat) (V : Int) : Dn.dg B (n + 1) V = V / B ^ n % B :: Dn.dg B n V := by
  rw [Dn.dg_head hB, Dn.dg_mod hB]
theorem bk_rev {B : Int} (hB : 0 < B) (V : Int) (up : Bool) : ∀ t, (bk B V up t).reverse = (Dn.dg B t V).map (fun d => dgt d up)
  | 0 => rfl
  | t + 1 => by rw [bk, List.reverse_append, bk_rev hB V up t, dg_next hB]; rfl

theorem dgt_letter : ∀ k : Fin 36, ∀ up : Bool, dgt (k.val : Int) up = (lettersOf up).getD k.val 0 ∧ (dgt (k.val : Int) up = 48 ↔ k.val = 0) ∧ (0 ≤ dgt (k.val : Int) up ∧ dgt (k.val : Int) up < 256) := by decide
theorem dgt_is {d : Int} (h0 : 0 ≤ d) (h1 : d < 36) (up : Bool) : dgt d up = (lettersOf up).getD d.toNat 0 ∧ (dgt d up = 48 ↔ d = 0) ∧ (0 ≤ dgt d up ∧ dgt d up < 256) := by
  have := dgt_letter ⟨d.toNat, by omega⟩ up
  simp only at this
  rw [show ((d.toNat : Nat) : Int) = d by omega] at this
  exact ⟨this.1, ⟨fun q => by have := this.2.1.1 q; omega, fun q => this.2.1.2 (by omega)⟩, this.2.2⟩
theorem dig_bd {B : Int} (hB : 0 < B) (V : Int) (s : Nat) : 0 ≤ V / B ^ s % B ∧ V / B ^ s % B < B := ⟨Int.emod_nonneg _ (by omega), Int.emod_lt_of_pos _ hB⟩
theorem map_lets {B : Int} (hB : 0 < B) (h36 : B ≤ 36) (up : Bool) (m : Nat) (V : Int) : (Dn.dg B m V).map (fun d => dgt d up) = lets (lettersOf up) (Dn.dg B m V) := by
  unfold lets
  apply List.map_congr_left
  intro d hd
  have := Dn.dg_mem hB m V d hd
  exact (dgt_is this.1 (by omega) up).1

/-- Zeros at the head of a number's digits. -/
theorem low_of {B : Int} (hB : 0 < B) {V : Int} (h0 : 0 ≤ V) (m : Nat) : ∀ T, m ≤ T → V < B ^ T → (∀ s, m ≤ s → s < T → V / B ^ s % B = 0) → V < B ^ m := by
  intro T
  induction T with
  | zero => intro h1 h2 _; rw [show m = 0 by omega]; exact h2
  | succ T ih =>
    intro h1 h2 h3
    rcases Nat.lt_or_ge T m with q | q
    · rw [show m = T + 1 by omega]; exact h2
    · refine ih q ?_ (fun s a b => h3 s a (by omega))
      have z := h3 T q (by omega)
      have p : 0 < B ^ T := Int.pow_pos hB
      have l : V / B ^ T < B := by
        apply Int.ediv_lt_of_lt_mul p
        rw [Int.pow_succ, Int.mul_comm] at h2
        exact h2
      have n : 0 ≤ V / B ^ T := Int.ediv_nonneg h0 (Int.le_of_lt p)
      rw [Int.emod_eq_of_lt n l] at z
      by_cases c : V < B ^ T
      · exact c
      · have : 1 ≤ V / B ^ T := (Int.le_ediv_iff_mul_le p).2 (by omega)
        omega
theorem strip_is {B : Int} (hB : 0 < B) {V : Int} (h0 : 0 < V) {m T : Nat} (hm : m ≤ T) (hT : V < B ^ T) (hz : ∀ s, m ≤ s → s < T → V / B ^ s % B = 0) (ht : m ≤ 1 ∨ V / B ^ (m - 1) % B ≠ 0) : Dn.strip (Dn.dg B T V) = Dn.dg B m V := by
  have lm := low_of hB (by omega) m T hm hT hz
  rw [Dn.strip_dg hB (by omega) hT lm]
  cases m with
  | zero => rw [Int.pow_zero] at lm; omega
  | succ m =>
    have nz : V / B ^ m % B ≠ 0 := by
      rcases ht with q | q
      · have : m = 0 := by omega
        subst this
        rw [Int.pow_zero, Int.ediv_one]
        rw [show B ^ (0 + 1) = B by rw [Nat.zero_add, Int.pow_one]] at lm
        rw [Int.emod_eq_of_lt (by omega) lm]; omega
      · simpa using q
    rw [dg_next hB]
    unfold Dn.strip
    rw [List.dropWhile_cons_of_neg (by simpa using nz)]
end Gn
end Go.Proofs.YtonnlimmjelldaaGreatDoor

namespace Go.Proofs.YtonnlimmjelldaaGreatDoor
open Go.RowKit Go.Deep

theorem wpList_append_b {ty : TypeId} {ops : Array Oper} {rest : List Oper} {o : Oper} {a : Act} {Q : Exit → Act → World → Prop} (hgd : o.guard = none) (s x : Operand)
    (ho : o.op = .call { callee := .builtin .append, args := #[s, x], argTypes := #[ty, ty] }) {v y v' : Value} {w w' : World} (hr : (Builtin.append_ #[ty, ty] o.type #[v, y]).run Tryz.prog w = .ok v' w') (hs : a.eval s = v) (hx : a.eval x = y)
    (h : wpList Tryz.prog ops Q rest (a.put o.dst v') w') : wpList Tryz.prog ops Q (o :: rest) a w := by
  refine wpList_plain hgd fun K hK => ?_
  unfold Oper.wp execOp
  simp only [ho, resolve, invoke, builtin, Sem.run_bind, Sem.run_pure, Result.andThen_ok, List.map_toArray, List.map_cons, List.map_nil, hs, hx, hr]
  exact hK _ _ h

/-- The bytes, in a block of our own from base on. -/
def Row8 (base : Nat) (w : World) (mv : Value) (xs : List Int) : Prop := w.ownsRow base 5 1 mv xs.length (xs.map (Value.int .u8))

theorem Row8.below {base : Nat} {w w' : World} {mv : Value} {xs : List Int} (h : Row8 base w mv xs) (hb : Below w.heap.size w w') : Row8 base w' mv xs :=
  World.ownsRow.kept (row := none) h ⟨hb.os, hb.tape, hb.output, hb.size, fun j hj _ => hb.block j hj⟩ (by cases h : Value.ownBlock mv <;> simp)

theorem Row8.push {base : Nat} {w : World} {mv : Value} {xs : List Int} (ho : Row8 base w mv xs) (x : Int) (hn : xs.length < 140737488351232) (hb : base ≤ w.heap.size) :
    ∃ mv' w', (Builtin.append_ #[117, 117] 117 #[mv, .slice (some ⟨w.heap.size, 0, none⟩) 1 1]).run Tryz.prog (w.alloc (.cells #[.int .u8 x] 5)) = .ok mv' w' ∧ Row8 base w' mv' (xs ++ [x]) ∧ w.heap.size ≤ w'.heap.size ∧
      Below base w w' ∧ (∀ j, j < w.heap.size → some j ≠ mv.ownBlock → w'.heap[j]? = w.heap[j]?) := by
  obtain ⟨i, hi, hz⟩ := Option.map_eq_some_iff.1 info8
  simp only [Prod.mk.injEq] at hz
  obtain ⟨z1, z2, z3⟩ := hz
  have bm : Below w.heap.size w (w.alloc (.cells #[.int .u8 x] 5)) := (Below.refl _ _).alloc (Nat.le_refl _) _
  have hs : (w.alloc (.cells #[.int .u8 x] 5)).heap.size = w.heap.size + 1 := World.size_alloc _ _
  have ho' := World.ownsRow.alloc ho (.cells #[.int .u8 x] 5)
  have hcell : (w.alloc (.cells #[.int .u8 x] 5)).cell? ⟨w.heap.size, 0, none⟩ = some (.int .u8 x) :=
    (OwnB.alloc w [x]).cell 0 (by simp)
  obtain ⟨v', w', hr, h1, h2, _⟩ := run_append_own (P := Tryz.prog) (w.alloc (.cells #[.int .u8 x] 5)) base 117 117 5 i (.int .u8 0) 1 1 Tryz.underlying117 hi z1 z2 z3 rfl (by omega) mv xs.length (xs.map (Value.int .u8)) ho'
    ⟨w.heap.size, 0, none⟩ 1 1 [.int .u8 x] rfl (fun j u hu => by
      cases j with
      | zero =>
        simp at hu
        subst hu
        rw [Go.WideShapes.add_plain]
        exact hcell
      | succ j => simp at hu) (fun u hu => by simp at hu; subst hu; rfl) (by simp only [maxLen]; omega) (by omega) (by rw [hs]; omega)
  refine ⟨v', w', hr, by simpa [Row8] using h1, by have := h2.size; omega, ?_, fun j hj hne => ?_⟩
  · have hb2 : Below base (w.alloc (.cells #[.int .u8 x] 5)) w' := by
      refine ⟨h2.os, h2.tape, h2.output, h2.size, fun j hj => h2.block j (by rw [hs]; omega) ?_⟩
      intro hk
      have := (ho'.lt j hk.symm).1
      omega
    exact (bm.mono hb).trans hb2
  · rw [h2.block j (by rw [hs]; omega) hne]
    exact bm.block j hj

/-- The row's shape. -/
theorem Row8.shape {base : Nat} {w : World} {mv : Value} {xs : List Int} (h : Row8 base w mv xs) : ∃ pm cp, mv = .slice pm xs.length cp := by
  rcases h.2 with ⟨rfl, h0⟩ | ⟨g, cp, cur, rfl, _⟩
  · exact ⟨none, 0, by rw [h0]⟩
  · exact ⟨_, cp, rfl⟩

/-- string(b) of such a row that has an address. -/
theorem Row8.cells {base : Nat} {w : World} {mv : Value} {xs : List Int} (h : Row8 base w mv xs) (h0 : xs ≠ []) : ∃ g cp, mv = .slice (some ⟨g, 0, none⟩) xs.length cp ∧ ∀ i, i < xs.length → w.cell? ⟨g, 0 + i, none⟩ = some (.int .u8 (xs.getD i 0)) := by
  rcases h.2 with ⟨rfl, hn⟩ | ⟨g, cp, cur, rfl, _⟩
  · exact absurd (List.eq_nil_of_length_eq_zero hn) h0
  · refine ⟨g, cp, rfl, fun i hi => ?_⟩
    have := World.ownsRow.cells h (g := g) rfl i (.int .u8 (xs.getD i 0)) (by simp [List.getD, hi])
    rw [Go.WideShapes.add_plain] at this
    exact this
end Go.Proofs.YtonnlimmjelldaaGreatDoor

namespace Go.Proofs.YtonnlimmjelldaaGreatDoor
open Go.RowKit Go.Deep

theorem srow64_empty (w : World) : Row64 w.heap.size (w.alloc (.cells #[] 26)) (.slice (some ⟨w.heap.size, 0, none⟩) 0 0) [] := by
  refine ⟨rfl, .inr ⟨w.heap.size, 0, #[], rfl, Nat.le_refl _, ?_, Nat.le_refl _, by simp only [maxLen]; omega, rfl, rfl⟩⟩
  show (w.heap.push _)[w.heap.size]? = _
  rw [Array.getElem?_push, if_pos rfl]
theorem srow8_empty (w : World) : Row8 w.heap.size (w.alloc (.cells #[] 5)) (.slice (some ⟨w.heap.size, 0, none⟩) 0 0) [] := by
  refine ⟨rfl, .inr ⟨w.heap.size, 0, #[], rfl, Nat.le_refl _, ?_, Nat.le_refl _, by simp only [maxLen]; omega, rfl, rfl⟩⟩
  show (w.heap.push _)[w.heap.size]? = _
  rw [Array.getElem?_push, if_pos rfl]
theorem alloc_bs (w : World) (A : Obj) : Below w.heap.size w (w.alloc A) := Below.alloc (w := w) (Below.refl w.heap.size w) (Nat.le_refl _) A
theorem smake0 (c : Nat) (hc : c ≤ 1000000) (w : World) : (Instr.makeSlice 117 (.int .i64 0) (.int .i64 (c : Int))).run Tryz.prog w = .ok (.slice (some ⟨w.heap.size, 0, none⟩) 0 c) (w.alloc (.cells (madeCells #[.int .u8 0] c) 5)) ∧ Row8 w.heap.size (w.alloc (.cells (madeCells #[.int .u8 0] c) 5)) (.slice (some ⟨w.heap.size, 0, none⟩) 0 c) [] := by
  obtain ⟨i, hi, hz⟩ := Option.map_eq_some_iff.1 info8
  simp only [Prod.mk.injEq] at hz
  obtain ⟨z1, z2, z3⟩ := hz
  have hr := run_make (P := Tryz.prog) w 117 5 i (.int .u8 0) Tryz.underlying117 hi z1 .i64 .i64 0 (c : Int) (Int.le_refl _) (by omega) (by rw [z3]; omega) (by omega)
  rw [z2] at hr
  simp only [Int.toNat_zero, Int.toNat_natCast, Nat.mul_one] at hr
  exact ⟨hr, World.ownsRow_made w _ c (Nat.le_refl _) (by simp only [maxLen]; omega) (by rw [size_madeCells, Nat.mul_one])⟩
theorem lets_b (up : Bool) (ds : List Int) : ∀ x ∈ lets (lettersOf up) ds, 0 ≤ x ∧ x < 256 := by
  intro x hx
  obtain ⟨d, _, rfl⟩ := List.mem_map.1 hx
  have k : ∀ (l : List Int), (∀ y ∈ l, 0 ≤ y ∧ y < 256) → 0 ≤ l.getD d.toNat 0 ∧ l.getD d.toNat 0 < 256 := by
    intro l hl
    rw [List.getD_eq_getElem?_getD]
    cases h : l[d.toNat]? with
    | none => simp
    | some y => exact hl y (List.mem_of_getElem? h)
  apply k
  cases up
  · show ∀ y ∈ smallL, _
    decide
  · show ∀ y ∈ capL, _
    decide

def InTold (za : List Int) (B : Int) (up : Bool) (w : World) (e : Ending) (w' : World) : Prop := ∃ s xs E, e = .returned (.tuple #[.string s, .int .i64 E]) ∧ Str s xs ∧ InIs za B up xs E ∧ Below w.heap.size w w'

set_option maxRecDepth 100000 in
set_option maxHeartbeats 8000000 in
theorem sinBase_any (p : Option Addr) (n cap : Nat) (za : List Int) (B : Int) (up : Bool) (w : World) (ha : Arg w p n cap za) :
    Calls Tryz.prog 96 #[.slice p n cap, .int .i64 B, .bool up] w fun e w' => InTold za B up w e w' := by
  obtain ⟨a1, a2, a3, a4, a5⟩ := ha
  have LM := hid (slimbs_any p n cap za w a1 (by omega) a4)
  have BR := hid (Below.refl w.heap.size w)
  by_cases hb : 4096 < Nm.tsize za
  · have F : Hid (InTold za B up w (.returned (.tuple #[.string ⟨#[]⟩, .int .i64 2])) w) := ⟨_, [], _, rfl, rfl, .big hb, BR.out⟩
    have hbi : (4096 : Int) < (Nm.tsize za : Int) := by omega
    clear a1 a2 a3 a4 a5 hb
    go_enter Tryz.func96, Tryz.ntmps96
    go_wp2_with fail
    with_reducible refine LM.out.mono ?_
    rintro e w1 ⟨rfl, e1⟩
    rw [e1]
    go_wp2_with fail
    go_ret2
    exact F.out
  have hbi : ¬ (4096 : Int) < (Nm.tsize za : Int) := by omega
  by_cases h2 : B < 2
  · have F : Hid (InTold za B up w (.returned (.tuple #[.string ⟨#[]⟩, .int .i64 32])) w) := ⟨_, [], _, rfl, rfl, .base (by omega) (.inl h2), BR.out⟩
    clear a1 a2 a3 a4 a5 hb
    go_enter Tryz.func96, Tryz.ntmps96
    go_wp2_with fail
    with_reducible refine LM.out.mono ?_
    rintro e w1 ⟨rfl, e1⟩
    rw [e1]
    go_wp2_with fail
    go_ret2
    exact F.out
  by_cases h36 : 36 < B
  · have F : Hid (InTold za B up w (.returned (.tuple #[.string ⟨#[]⟩, .int .i64 32])) w) := ⟨_, [], _, rfl, rfl, .base (by omega) (.inr h36), BR.out⟩
    clear a1 a2 a3 a4 a5 hb
    go_enter Tryz.func96, Tryz.ntmps96
    go_wp2_with fail
    with_reducible refine LM.out.mono ?_
    rintro e w1 ⟨rfl, e1⟩
    rw [e1]
    go_wp2_with fail
    go_ret2
    exact F.out
  have B2 : 2 ≤ B := by omega
  have B36 : B ≤ 36 := by omega
  have GR := hid (sgroup_any B w B2 B36)
  obtain ⟨V, hV⟩ : ∃ V, V = Nm.val za := ⟨_, rfl⟩
  have v0 := (Nm.val_bd za a5).1
  have tz := Nm.tsize_zero_iff a5
  have tl := Nm.tsize_le za
  have TZV : Hid (V = 0 → Nm.tsize za = 0) := fun q => tz.2 (by rw [← hV]; exact q)
  have ZR0 : Hid (V = 0 → ∀ w', Below w.heap.size w w' → InTold za B up w (.returned (.tuple #[.string ⟨#[48]⟩, .int .i64 0])) w') := fun q w' k => ⟨_, [48], _, rfl, rfl, .zero (tz.2 (by rw [← hV]; exact q)) B2 B36, k⟩
  have FI0 : Hid (∀ T mm s, V < B ^ T → V ≠ 0 → mm ≤ T → (∀ s, mm ≤ s → s < T → V / B ^ s % B = 0) → (mm ≤ 1 ∨ V / B ^ (mm - 1) % B ≠ 0) → Str s (lets (lettersOf up) (Dn.dg B mm V)) → ∀ w', Below w.heap.size w w' → InTold za B up w (.returned (.tuple #[.string s, .int .i64 0])) w') := by
    intro T mm s hT vne hm hz ht hs w' k
    refine ⟨s, _, _, rfl, hs, ?_, k⟩
    rw [← Gn.strip_is (by omega) (by omega) hm hT hz ht, hV]
    exact .ok T (by omega) (by omega) B2 B36 (by rw [← hV]; exact hT)
  have TZ : Hid (∀ j, Nm.tsize za ≤ j → za.getD j 0 = 0) := Nm.tsize_zero za
  have DZ : Hid (Nm.val (za.drop (Nm.tsize za)) = 0) := by
    have e := Nm.val_drop za (Nm.tsize za) tl
    have e2 := Nm.val_trim za
    unfold Nm.trim at e2
    rw [e2] at e
    have pp := Nm.pw_pos (Nm.tsize za)
    have : Nm.pw (Nm.tsize za) * Nm.val (za.drop (Nm.tsize za)) = 0 := by omega
    rcases Int.mul_eq_zero.1 this with q | q
    · omega
    · exact q
  have DN : Hid (∀ j, j < za.length → Nm.val (za.drop j) = za.getD j 0 + 18446744073709551616 * Nm.val (za.drop (j + 1))) := by
    intro j hj
    rw [List.drop_eq_getElem_cons hj, Nm.val, List.getD_eq_getElem?_getD, List.getElem?_eq_getElem hj]
    rfl
  have LB : Hid (∀ j, 0 ≤ za.getD j 0 ∧ za.getD j 0 < 18446744073709551616) := fun j => a5.at j
  have HA : Hid (Lies w p za) := a4
  have TT : Hid (Nm.tsize za ≤ 4096) := by show _ ≤ _; omega
  have TL : Hid (Nm.tsize za ≤ za.length) := tl
  have VD : Hid (Nm.val (za.drop 0) = V) := by rw [Hid, List.drop_zero, hV]
  have V0 : Hid (0 ≤ V) := by rw [hV]; exact v0
  have nl : (n : Int) ≤ 17592186044416 := by omega
  clear a2 a4 a5 hb h2 h36 v0 tz tl hV
  have DB : Hid (0 < B ∧ B ≤ 36) := ⟨by omega, B36⟩
  have NL : Hid (za.length = n) := a1
  clear a1
  go_enter Tryz.func96, Tryz.ntmps96
  go_wp2_with fail
  with_reducible refine LM.out.mono ?_
  rintro e w1 ⟨rfl, e1⟩
  rw [e1]
  clear e1 LM w1
  obtain ⟨tN, HT⟩ : ∃ tN, Hid (tN = Nm.tsize za) := ⟨_, rfl⟩
  rw [← HT.out] at hbi TZ DZ TT TL TZV
  rw [← HT.out]
  clear HT
  go_wp2_with fail
  with_reducible refine GR.out.mono ?_
  rintro e w1 ⟨⟨k, P, rfl, hP, k30, P1, P2, P3⟩, e1⟩
  rw [e1]
  clear e1 w1 GR
  have P4 : 65536 ≤ P := by
    have : P * B ≤ P * 36 := Int.mul_le_mul_of_nonneg_left B36 (by omega)
    omega
  have HP := hid hP
  have R0 := hid (srow64_empty w)
  have A0 := hid (alloc_bs w (.cells #[] 26))
  have tNi : (tN : Int) ≤ 4096 := by have := TT.out; omega
  clear hP P3
  go_upto_region 8 with fail
  generalize (w.alloc (.cells #[] 26)) = wG at *
  go_wp2_with fail
  go_loopg [11, 12] tN (fun m gq iv wr => ∃ (mv : Value) (gs : List Int) (c : Int), gq = mv ∧ iv = .int .i64 c ∧ c = (m : Int) - 1 ∧ Hid (m ≤ tN ∧ Row64 w.heap.size wr mv gs ∧ Gn.Digs P gs ∧ Gn.gv P gs = Nm.val (za.drop m) ∧ gs.length ≤ 4 * (tN - m) ∧ Below w.heap.size w wr))
  case atStart => exact ⟨_, [], _, rfl, rfl, rfl, Nat.le_refl _, R0.out, (by intro z hz; simp at hz), by rw [DZ.out]; rfl, by simp, A0.out⟩
  case round =>
    obtain ⟨mv, gs, c, hmv, rfl, hc, I⟩ := hrel
    have hmv := hmv.symm
    subst hmv
    clear R0 A0
    cases gk with
    | succ r =>
      obtain rfl : c = (r : Int) := by omega
      clear hc
      have rt : r < tN := by have := I.out.1; omega
      have rl : r < za.length := by have := TL.out; omega
      have rn : (r : Int) < (n : Int) := by have := NL.out; omega
      have r0 : 0 ≤ (r : Int) := by omega
      obtain ⟨b, off, hp, hcell⟩ : ∃ b off, p = some ⟨b, off, none⟩ ∧ ∀ i, i < za.length → w.cell? ⟨b, off + i, none⟩ = some (.int .u64 (za.getD i 0)) := by
        rcases HA.out with q | q
        · rw [q] at rl; simp at rl
        · exact q
      subst hp
      have c0 := hcell r rl
      have lt0 := cell_lt c0
      have CC : Hid (∀ wk, Below w.heap.size w wk → wk.cell? ⟨b, off + r, none⟩ = some (.int .u64 (za.getD r 0))) := fun wk hk => by rw [hk.cell (p := ⟨b, off + r, none⟩) lt0]; exact c0
      have c1 := CC.out wr I.out.2.2.2.2.2
      have xb := LB.out r
      have DNR := hid (DN.out r rl)
      generalize za.getD r 0 = x at *
      obtain ⟨x0, x1⟩ := xb
      have rm := r_mask32 x x0 x1
      obtain ⟨hi, hhi, HI⟩ : ∃ hi, x / 4294967296 = hi ∧ Hid (hi = x / 4294967296) := ⟨_, rfl, rfl⟩
      obtain ⟨lo, hlo, LO⟩ : ∃ lo, x % 4294967296 = lo ∧ Hid (lo = x % 4294967296) := ⟨_, rfl, rfl⟩
      have hib : 0 ≤ hi ∧ hi < 4294967296 := by rw [← hhi]; omega
      have lob : 0 ≤ lo ∧ lo < 4294967296 := by rw [← hlo]; omega
      have T1 := hid (stimes_any w.heap.size mv gs P hi wr I.out.2.1 I.out.2.2.1 (by have := I.out.2.2.2.2.1; have := TT.out; omega) P4 P2 hib.1 hib.2 I.out.2.2.2.2.2.size)
      have T2 := hid (fun mv' gs' wk r1 r2 r3 r4 => stimes_any w.heap.size mv' gs' P lo wk r1 r2 r3 P4 P2 lob.1 lob.2 r4)
      rw [hlo] at rm
      have TTH := TT
      clear hcell c0 lt0 hib lob ZR0 FI0 DN
      go_wp2_with fail
      with_reducible refine T1.out.mono ?_
      rintro e w2 ⟨mv1, gs1, rfl, q1, q2, q3, q4, q5⟩
      have I2 : Hid (r + 1 ≤ tN ∧ Row64 w.heap.size w2 mv1 gs1 ∧ Gn.Digs P gs1 ∧ Gn.gv P gs1 = 4294967296 * Nm.val (za.drop (r + 1)) + hi ∧ gs1.length ≤ 4 * (tN - (r + 1)) + 2 ∧ Below w.heap.size w w2) := ⟨I.out.1, q1, q2, by rw [q3, I.out.2.2.2.1], by have := I.out.2.2.2.2.1; omega, I.out.2.2.2.2.2.trans q5⟩
      have c2 := CC.out w2 I2.out.2.2.2.2.2
      have T3 := hid (T2.out mv1 gs1 w2 q1 q2 (by have := I2.out.2.2.2.2.1; have := TT.out; omega) I2.out.2.2.2.2.2.size)
      clear q1 q2 q3 q4 q5 T1 T2 I c1
      go_wp2_with fail
      with_reducible refine T3.out.mono ?_
      rintro e w3 ⟨mv2, gs2, rfl, q1, q2, q3, q4, q5⟩
      have F : Hid (r ≤ tN ∧ Row64 w.heap.size w3 mv2 gs2 ∧ Gn.Digs P gs2 ∧ Gn.gv P gs2 = Nm.val (za.drop r) ∧ gs2.length ≤ 4 * (tN - r) ∧ Below w.heap.size w w3) := ⟨by omega, q1, q2, by rw [q3, I2.out.2.2.2.1, DNR.out, HI.out, LO.out]; omega, by have := I2.out.2.2.2.2.1; omega, I2.out.2.2.2.2.2.trans q5⟩
      clear q1 q2 q3 q4 q5 T3 I2 c2 hhi hlo rm
      go_wp2_with fail
      go_roundg r
      case measure => omega
      case rel => exact ⟨mv2, gs2, _, rfl, rfl, by omega, F.out⟩
    | zero =>
      obtain rfl : c = -1 := by omega
      clear hc
      obtain ⟨wE, rfl⟩ : ∃ wE, wE = wr := ⟨wr, rfl⟩
      obtain ⟨-, g1, g2, g3, g4, g5⟩ := I.out
      rw [VD.out] at g3
      have B1 := hid g5
      obtain ⟨pm, cp, es⟩ := g1.shape
      obtain ⟨G, HG⟩ : ∃ G, Hid (gs.length = G) := ⟨_, rfl⟩
      rw [HG.out] at es
      have GB : Hid (G ≤ 16384) := by have := TT.out; have := HG.out; show _ ≤ _; omega
      have Gi : (G : Int) ≤ 16384 := by have := GB.out; omega
      have CG : Hid (gs ≠ [] → ∃ gb, pm = some ⟨gb, 0, none⟩ ∧ ∀ wk, Below wE.heap.size wE wk → ∀ i, i < G → wk.cell? ⟨gb, i, none⟩ = some (.int .u64 (gs.getD i 0))) := by
        intro q
        obtain ⟨gb, cp', e2, cl⟩ := g1.cells q
        rw [HG.out, es] at e2
        cases e2
        refine ⟨gb, rfl, fun wk hk i hi => ?_⟩
        have c := cl i (by rw [HG.out]; exact hi)
        rw [Nat.zero_add] at c
        rw [hk.cell (p := ⟨gb, i, none⟩) (cell_lt c)]
        exact c
      have DG : Hid (∀ i j, i < G → j < k → gs.getD i 0 / B ^ j % B = V / B ^ (i * k + j) % B) := by
        intro i j hi hj
        rw [← g3]
        exact Gn.dig_at DB.out.1 HP.out gs g2 i j (by rw [HG.out]; exact hi) hj
      have GBD : Hid (∀ i, 0 ≤ gs.getD i 0 ∧ gs.getD i 0 < P) := fun i => Gn.Digs.at g2 (by omega) i
      obtain ⟨T, HT⟩ : ∃ T, Hid (T = G * k) := ⟨_, rfl⟩
      have VT : Hid (V < B ^ T) := by
        have q := (Gn.gv_lt (by omega) gs g2).2
        rw [g3, HG.out, HP.out, ← Int.pow_mul, Nat.mul_comm k G, ← HT.out] at q
        exact q
      have TB : Hid (T ≤ 491520) := by
        have h1 := GB.out
        have h2 : G * k ≤ 16384 * 30 := Nat.mul_le_mul h1 k30
        rw [← HT.out] at h2
        exact h2
      have ZR : Hid (T = 0 → ∀ w', Below w.heap.size w w' → InTold za B up w (.returned (.tuple #[.string ⟨#[48]⟩, .int .i64 0])) w') := by
        intro q
        have v := VT.out
        rw [q, Int.pow_zero] at v
        exact ZR0.out (by have := V0.out; omega)
      have FI : Hid (V ≠ 0 → ∀ mm s, mm ≤ T → (∀ s, mm ≤ s → s < T → V / B ^ s % B = 0) → (mm ≤ 1 ∨ V / B ^ (mm - 1) % B ≠ 0) → Str s (lets (lettersOf up) (Dn.dg B mm V)) → ∀ w', Below w.heap.size w w' → InTold za B up w (.returned (.tuple #[.string s, .int .i64 0])) w') := fun q mm s => FI0.out T mm s VT.out q
      have VN : Hid (T ≠ 0 → V ≠ 0) := by
        intro q v
        have z := TZV.out v
        have : G = 0 := by have := HG.out; omega
        apply q
        rw [HT.out, this, Nat.zero_mul]
      have R8 := hid (srow8_empty wE)
      have A8 := hid (alloc_bs wE (.cells #[] 5))
      have BZ : Hid (w.heap.size ≤ wE.heap.size) := B1.out.size
      have TI : Hid (∀ i j, i < G → j < k → i * k + j < 491520) := by
        intro i j hi hj
        have h1 : (i + 1) * k ≤ G * k := Nat.mul_le_mul_right k hi
        rw [Nat.succ_mul] at h1
        have := TB.out
        have := HT.out
        omega
      have gne : Hid (0 < G → gs ≠ []) := fun h q => by have := HG.out; rw [q] at this; simp at this; omega
      have PB : Hid (P < 2147483648) := P2
      have ki : (k : Int) ≤ 30 := by omega
      subst es
      clear I g1 g2 g3 g4 g5 VD FI0 ZR0 TZV VT HG GB HA DZ DN TZ LB TL TT NL hbi tNi nl P1 P2 P4 HP k30 V0
      go_upto_region 14 with fail
      generalize (wE.alloc (.cells #[] 5)) = wB at *
      go_wp2_with fail
      go_loopg [13, 14, 15, 16] G (fun m bv iv gq jq wk => ∃ (mv' : Value) (i : Nat), bv = mv' ∧ i + m = G ∧ iv = .int .i64 (i : Int) ∧ Hid (Row8 wE.heap.size wk mv' (Gn.bk B V up (i * k)) ∧ Below wE.heap.size wE wk))
      case atStart => exact ⟨_, 0, rfl, by omega, rfl, by rw [Nat.zero_mul]; exact R8.out, A8.out⟩
      case round =>
        obtain ⟨mvb, i, hmvb, hi, rfl, I⟩ := hrel
        have hmvb := hmvb.symm
        subst hmvb
        clear R8 A8
        by_cases il : i < G
        · have ili : (i : Int) < (G : Int) := by omega
          obtain ⟨gb, hpm, cl⟩ := CG.out (gne.out (by omega))
          subst hpm
          have c0 := cl wr I.out.2 i il
          have gbd := GBD.out i
          have DGI := hid (fun j hj => DG.out i j il hj)
          have TII := hid (fun j hj => TI.out i j il hj)
          generalize gs.getD i 0 = g0 at *
          obtain ⟨gb0, gb1⟩ := gbd
          have GH : Hid (0 ≤ g0 ∧ g0 < 2147483648) := ⟨gb0, by have := PB.out; omega⟩
          clear cl CG DG GBD TI gb1 FI ZR VN
          go_wp2_with fail
          go_loopg [13, 15, 16] k (fun m bv gq jq wk => ∃ (mv' : Value) (j : Nat) (q : Int), bv = mv' ∧ j + m = k ∧ jq = .int .i64 (j : Int) ∧ gq = .int .u64 q ∧ Hid (q = g0 / B ^ j ∧ Row8 wE.heap.size wk mv' (Gn.bk B V up (i * k + j)) ∧ Below wE.heap.size wE wk))
          case atStart => exact ⟨_, 0, g0, rfl, by omega, rfl, rfl, by rw [Int.pow_zero, Int.ediv_one], I.out.1, I.out.2⟩
          case round =>
            obtain ⟨mvc, j, q, hmvc, hj, rfl, rfl, J⟩ := hrel
            have hmvc := hmvc.symm
            subst hmvc
            clear c0 I
            by_cases jl : j < k
            · have jli : (j : Int) < (k : Int) := by omega
              have qb : 0 ≤ q ∧ q < 2147483648 := by
                rw [J.out.1]
                have pp : 0 < B ^ j := Int.pow_pos DB.out.1
                have h1 := Int.ediv_nonneg GH.out.1 (Int.le_of_lt pp)
                have h2 : g0 / B ^ j ≤ g0 := Int.ediv_le_self _ GH.out.1
                have := GH.out.2
                omega
              obtain ⟨d, hd, HD⟩ : ∃ d, q % B = d ∧ Hid (d = q % B) := ⟨_, rfl, rfl⟩
              obtain ⟨q2, hq2, HQ⟩ : ∃ q2, q / B = q2 ∧ Hid (q2 = q / B) := ⟨_, rfl, rfl⟩
              have db : 0 ≤ d ∧ d < 36 := by
                rw [← hd]
                have h1 := Int.emod_nonneg q (show B ≠ 0 by omega)
                have h2 := Int.emod_lt_of_pos q DB.out.1
                have := DB.out.2
                omega
              obtain ⟨db0, db1⟩ := db
              obtain ⟨qb0, qb1⟩ := qb
              have q2b : 0 ≤ q2 := by rw [← hq2]; exact Int.ediv_nonneg qb0 (by omega)
              have SD := hid (fun W' => sdigit_any d up W' db0 db1)
              have ed : d = V / B ^ (i * k + j) % B := by rw [HD.out, J.out.1]; exact DGI.out j jl
              obtain ⟨mv', w2, ap, r2, z2, b2, _⟩ := J.out.2.1.push (dgt d up) (by rw [Gn.bk_len]; have := TII.out j jl; omega) J.out.2.2.size
              have F : Hid (q2 = g0 / B ^ (j + 1) ∧ Row8 wE.heap.size w2 mv' (Gn.bk B V up (i * k + (j + 1))) ∧ Below wE.heap.size wE w2) := by
                refine ⟨?_, ?_, J.out.2.2.trans b2⟩
                · rw [HQ.out, J.out.1, Int.ediv_ediv_of_nonneg (Int.le_of_lt (Int.pow_pos DB.out.1)), Int.pow_succ]
                · rw [← Nat.add_assoc, Gn.bk, ← ed]; exact r2
              have AP := hid ap
              clear ap r2 z2 b2 ed J DGI TII GH
              generalize dgt d up = xd at *
              go_wp2_with fail
              with_reducible refine (SD.out _).mono ?_
              rintro e w9 ⟨rfl, e9⟩
              rw [e9]
              clear e9 w9 SD
              go_wp2_with (at_builtin; refine wpList_append_b rfl _ _ rfl AP.out (by rfl) (by rfl) ?_; clear AP)
              go_roundg (k - (j + 1))
              case measure => omega
              case rel => exact ⟨mv', j + 1, q2, rfl, by omega, by go_num, by rw [HQ.out], F.out⟩
            · have jli : ¬ (j : Int) < (k : Int) := by omega
              have F : Hid (Row8 wE.heap.size wr mvc (Gn.bk B V up ((i + 1) * k)) ∧ Below wE.heap.size wE wr) := by
                have e : (i + 1) * k = i * k + j := by rw [Nat.succ_mul]; omega
                rw [e]
                exact J.out.2
              clear J DGI TII GH
              go_wp2_with fail
              go_roundg (G - (i + 1))
              case measure => omega
              case rel => exact ⟨mvc, i + 1, rfl, by omega, by go_num, F.out⟩
        · have ili : ¬ (i : Int) < (G : Int) := by omega
          have QS : Hid (Row8 wE.heap.size wr mvb (Gn.bk B V up T) ∧ Below wE.heap.size wE wr) := by
            have e : T = i * k := by rw [HT.out, show i = G by omega]
            rw [e]; exact I.out
          obtain ⟨pb, cb0, es3⟩ := QS.out.1.shape
          rw [Gn.bk_len] at es3
          subst es3
          have Ti : (T : Int) ≤ 491520 := by have := TB.out; omega
          clear I CG DG GBD TI gne PB HT
          go_wp2_with fail
          go_loopg [17] T (fun m mq wk => mq = .int .i64 (m : Int) ∧ Hid (m ≤ T ∧ (∀ s, m ≤ s → s < T → V / B ^ s % B = 0) ∧ (m = 0 → T = 0)) ∧ Hid (Row8 wE.heap.size wk (.slice pb T cb0) (Gn.bk B V up T) ∧ Below wE.heap.size wE wk))
          case atStart => exact ⟨rfl, ⟨Nat.le_refl _, fun s a b => by omega, fun q => q⟩, QS.out⟩
          case round =>
            obtain ⟨rfl, M, Q0⟩ := hrel
            obtain ⟨mm, rfl⟩ : ∃ mm, mm = gk := ⟨gk, rfl⟩
            clear QS
            by_cases m1 : 1 < mm
            · have m1i : (1 : Int) < (mm : Int) := by omega
              have mT : mm ≤ T := M.out.1
              have mTi : (mm : Int) ≤ (T : Int) := by omega
              obtain ⟨r, hr⟩ : ∃ r : Nat, mm = r + 1 := ⟨mm - 1, by omega⟩
              have ri : (mm : Int) - 1 = (r : Int) := by omega
              have rT : (r : Int) < (T : Int) := by omega
              have r0 : 0 ≤ (r : Int) := by omega
              have bt0 : Gn.bk B V up T ≠ [] := fun q => by have := congrArg List.length q; rw [Gn.bk_len, List.length_nil] at this; omega
              obtain ⟨gc, cc, ec, cl⟩ := Q0.out.1.cells bt0
              rw [Gn.bk_len] at ec cl
              cases ec
              have c0 := cl r (by omega)
              rw [Nat.zero_add, Gn.bk_at B V up T r (by omega)] at c0
              have dd := Gn.dgt_is (Gn.dig_bd DB.out.1 V r).1 (Int.lt_of_lt_of_le (Gn.dig_bd DB.out.1 V r).2 DB.out.2) up
              by_cases hz : V / B ^ r % B = 0
              · have e48 : dgt (V / B ^ r % B) up = 48 := dd.2.1.2 hz
                rw [e48] at c0
                have F : Hid (r ≤ T ∧ (∀ s, r ≤ s → s < T → V / B ^ s % B = 0) ∧ (r = 0 → T = 0)) := ⟨by omega, fun s a b => by
                  rcases Nat.lt_or_ge r s with q | q
                  · exact M.out.2.1 s (by omega) b
                  · rw [show s = r by omega]; exact hz, fun q => by omega⟩
                have WK : IntKind.i64.wrap ((mm : Int) - 1) = (r : Int) := by rw [IntKind.wrap_i64]; omega
                clear M cl dd hz e48 bt0 ZR FI VN
                have HR := hid hr
                clear hr
                go_wp2_with fail
                go_roundg r
                case measure => have := HR.out; omega
                case rel => exact ⟨by go_num, F.out, Q0.out⟩
              · have e48 : dgt (V / B ^ r % B) up ≠ 48 := fun q => hz (dd.2.1.1 q)
                have m2 : mm ≤ 1 ∨ V / B ^ (mm - 1) % B ≠ 0 := .inr (by rw [hr, Nat.add_sub_cancel]; exact hz)
                have M2 := hid m2
                generalize hx : dgt (V / B ^ r % B) up = x at *
                have x48 : (x == 48) = false := by simpa using e48
                have WK : IntKind.i64.wrap ((mm : Int) - 1) = (r : Int) := by rw [IntKind.wrap_i64]; omega
                clear cl dd hz bt0 hx e48 m2 hr
                go_upto_region 26 with fail
                clear c0 x48 ri rT r0 WK m1i mTi
                have m2 := M2.out
                obtain ⟨wL, rfl⟩ : ∃ wL, wL = wr := ⟨wr, rfl⟩
                obtain ⟨m0, m1, m3⟩ := M.out
                have Q := hid Q0.out
                clear Q0 M
                by_cases mz : mm = 0
                · have F := hid (ZR.out (m3 mz))
                  subst mz
                  have QB := hid Q.out.2
                  clear m0 m1 m2 m3 Q ZR FI
                  go_wp2_with fail
                  go_ret2
                  exact F.out _ (B1.out.trans (QB.out.mono BZ.out))
                · have mi : ¬ (mm : Int) = 0 := by omega
                  have mi2 : ((mm : Int) == 0) = false := by simpa using mi
                  have mb : (mm : Int) ≤ 500000 := by have := TB.out; omega
                  have FX := hid (fun s hs => FI.out (VN.out (by omega)) mm s m0 m1 m2 hs)
                  have mk := (smake0 mm (by have := TB.out; omega) wL).1
                  have O0 := hid (smake0 mm (by have := TB.out; omega) wL).2
                  have A0 := alloc_b wL (.cells (madeCells #[.int .u8 0] mm) 5)
                  have bt0 : Gn.bk B V up T ≠ [] := fun q => by have := congrArg List.length q; rw [Gn.bk_len, List.length_nil] at this; omega
                  obtain ⟨gb, cb, eb, cells⟩ := Q.out.1.cells bt0
                  rw [Gn.bk_len] at eb cells
                  have CB : Hid (∀ wk, Below wL.heap.size wL wk → ∀ s, s < T → wk.cell? ⟨gb, s, none⟩ = some (.int .u8 (dgt (V / B ^ s % B) up))) := by
                    intro wk hk s hs
                    have c := cells s hs
                    rw [Nat.zero_add, Gn.bk_at B V up T s hs] at c
                    rw [hk.cell (p := ⟨gb, s, none⟩) (cell_lt c)]
                    exact c
                  cases eb
                  have HQ := hid (B1.out.trans (Q.out.2.mono BZ.out))
                  have MT : Hid (mm ≤ T) := m0
                  have MZ := hid mz
                  have BW : Hid (w.heap.size ≤ wL.heap.size) := HQ.out.size
                  have AX := hid A0
                  clear m0 m1 m2 m3 Q ZR FI mz mi cells bt0 A0 VN
                  go_upto_region 29 with fail
                  generalize hwx : (wL.alloc (.cells (madeCells #[.int .u8 0] mm) 5)) = wM at *
                  clear hwx mk
                  go_wp2_with fail
                  go_loopg [18, 19] mm (fun r ov iv wk => ∃ (mvo : Value) (c : Int), ov = mvo ∧ iv = .int .i64 c ∧ c = (r : Int) - 1 ∧ Hid (r ≤ mm ∧ Row8 wL.heap.size wk mvo ((Gn.bk B V up mm).drop r).reverse ∧ Below wL.heap.size wL wk))
                  case atStart =>
                    refine ⟨_, _, rfl, rfl, by omega, Nat.le_refl _, ?_, AX.out⟩
                    rw [List.drop_of_length_le (by rw [Gn.bk_len]; omega)]
                    exact O0.out
                  case round =>
                    obtain ⟨mvo, c, hov, rfl, hc, I⟩ := hrel
                    have hov := hov.symm
                    subst hov
                    have CBH := hid (fun s hs => CB.out _ I.out.2.2 s hs)
                    cases gk with
                    | zero =>
                      have hcn : ¬ 0 ≤ c := by omega
                      have R8 := I.out.2.1
                      rw [List.drop_zero, Gn.bk_rev DB.out.1 V up mm, Gn.map_lets DB.out.1 DB.out.2 up mm V] at R8
                      have ln : (lets (lettersOf up) (Dn.dg B mm V)).length = mm := by rw [lets, List.length_map, Dn.dg_length]
                      have ne : lets (lettersOf up) (Dn.dg B mm V) ≠ [] := fun q => by rw [q, List.length_nil] at ln; exact MZ.out ln.symm
                      obtain ⟨go, co, eo, cl⟩ := R8.cells ne
                      rw [ln] at eo cl
                      have ST := Str.of_nums (xs := lets (lettersOf up) (Dn.dg B mm V)) (lets_b up _)
                      have cv : (convert 117 9 mvo).run Tryz.prog wr = .ok (.string (strOfNums (lets (lettersOf up) (Dn.dg B mm V)))) wr := by
                        rw [eo]
                        exact run_convert_bytes_arg (P := Tryz.prog) wr 117 5 Tryz.underlying117 Tryz.underlying5 go 0 mm co _ ln (fun i hi => cl i hi) 9 Tryz.underlying9
                      have F := hid (FX.out _ ST wr (HQ.out.trans (I.out.2.2.mono BW.out)))
                      clear I CBH R8 ln ne cl ST CB FX eo
                      generalize strOfNums (lets (lettersOf up) (Dn.dg B mm V)) = SS at *
                      go_wp2_with fail
                      go_ret2
                      exact F.out
                    | succ r =>
                      have hcr : c = (r : Int) := by omega
                      have hr0 : 0 ≤ (r : Int) := by omega
                      have rm : r < mm := by have := I.out.1; omega
                      have rT : r < T := by have := MT.out; omega
                      have rTi : (r : Int) < (T : Int) := by omega
                      have cr := CBH.out r rT
                      obtain ⟨mv', w2, ap, r2, z2, b2, _⟩ := I.out.2.1.push (dgt (V / B ^ r % B) up) (by rw [List.length_reverse, List.length_drop, Gn.bk_len]; omega) I.out.2.2.size
                      have ed : (Gn.bk B V up mm).drop r = dgt (V / B ^ r % B) up :: (Gn.bk B V up mm).drop (r + 1) := by
                        rw [List.drop_eq_getElem_cons (by rw [Gn.bk_len]; exact rm)]
                        have := Gn.bk_at B V up mm r rm
                        rw [List.getD_eq_getElem?_getD, List.getElem?_eq_getElem (by rw [Gn.bk_len]; exact rm)] at this
                        rw [← this]; rfl
                      have F : Hid (r ≤ mm ∧ Row8 wL.heap.size w2 mv' ((Gn.bk B V up mm).drop r).reverse ∧ Below wL.heap.size wL w2) := ⟨by omega, by rw [ed, List.reverse_cons]; exact r2, I.out.2.2.trans b2⟩
                      have AP := hid ap
                      clear ap r2 z2 b2 ed I CBH CB FX
                      subst hcr
                      clear hc
                      generalize dgt (V / B ^ r % B) up = x at *
                      go_wp2_with (at_builtin; refine wpList_append_b rfl _ _ rfl AP.out (by rfl) (by rfl) ?_; clear AP)
                      go_roundg r
                      case measure => omega
                      case rel => exact ⟨mv', _, rfl, rfl, by omega, F.out⟩
            · have m1i : ¬ (1 : Int) < (mm : Int) := by omega
              have m2 : mm ≤ 1 ∨ V / B ^ (mm - 1) % B ≠ 0 := .inl (by omega)
              have M2 := hid m2
              clear m2
              go_upto_region 26 with fail
              have m2 := M2.out
              obtain ⟨wL, rfl⟩ : ∃ wL, wL = wr := ⟨wr, rfl⟩
              obtain ⟨m0, m1, m3⟩ := M.out
              have Q := hid Q0.out
              clear Q0 M
              by_cases mz : mm = 0
              · have F := hid (ZR.out (m3 mz))
                subst mz
                have QB := hid Q.out.2
                clear m0 m1 m2 m3 Q ZR FI
                go_wp2_with fail
                go_ret2
                exact F.out _ (B1.out.trans (QB.out.mono BZ.out))
              · have mi : ¬ (mm : Int) = 0 := by omega
                have mi2 : ((mm : Int) == 0) = false := by simpa using mi
                have mb : (mm : Int) ≤ 500000 := by have := TB.out; omega
                have FX := hid (fun s hs => FI.out (VN.out (by omega)) mm s m0 m1 m2 hs)
                have mk := (smake0 mm (by have := TB.out; omega) wL).1
                have O0 := hid (smake0 mm (by have := TB.out; omega) wL).2
                have A0 := alloc_b wL (.cells (madeCells #[.int .u8 0] mm) 5)
                have bt0 : Gn.bk B V up T ≠ [] := fun q => by have := congrArg List.length q; rw [Gn.bk_len, List.length_nil] at this; omega
                obtain ⟨gb, cb, eb, cells⟩ := Q.out.1.cells bt0
                rw [Gn.bk_len] at eb cells
                have CB : Hid (∀ wk, Below wL.heap.size wL wk → ∀ s, s < T → wk.cell? ⟨gb, s, none⟩ = some (.int .u8 (dgt (V / B ^ s % B) up))) := by
                  intro wk hk s hs
                  have c := cells s hs
                  rw [Nat.zero_add, Gn.bk_at B V up T s hs] at c
                  rw [hk.cell (p := ⟨gb, s, none⟩) (cell_lt c)]
                  exact c
                cases eb
                have HQ := hid (B1.out.trans (Q.out.2.mono BZ.out))
                have MT : Hid (mm ≤ T) := m0
                have MZ := hid mz
                have BW : Hid (w.heap.size ≤ wL.heap.size) := HQ.out.size
                have AX := hid A0
                clear m0 m1 m2 m3 Q ZR FI mz mi cells bt0 A0 VN
                go_upto_region 29 with fail
                generalize hwx : (wL.alloc (.cells (madeCells #[.int .u8 0] mm) 5)) = wM at *
                clear hwx mk
                go_wp2_with fail
                go_loopg [18, 19] mm (fun r ov iv wk => ∃ (mvo : Value) (c : Int), ov = mvo ∧ iv = .int .i64 c ∧ c = (r : Int) - 1 ∧ Hid (r ≤ mm ∧ Row8 wL.heap.size wk mvo ((Gn.bk B V up mm).drop r).reverse ∧ Below wL.heap.size wL wk))
                case atStart =>
                  refine ⟨_, _, rfl, rfl, by omega, Nat.le_refl _, ?_, AX.out⟩
                  rw [List.drop_of_length_le (by rw [Gn.bk_len]; omega)]
                  exact O0.out
                case round =>
                  obtain ⟨mvo, c, hov, rfl, hc, I⟩ := hrel
                  have hov := hov.symm
                  subst hov
                  have CBH := hid (fun s hs => CB.out _ I.out.2.2 s hs)
                  cases gk with
                  | zero =>
                    have hcn : ¬ 0 ≤ c := by omega
                    have R8 := I.out.2.1
                    rw [List.drop_zero, Gn.bk_rev DB.out.1 V up mm, Gn.map_lets DB.out.1 DB.out.2 up mm V] at R8
                    have ln : (lets (lettersOf up) (Dn.dg B mm V)).length = mm := by rw [lets, List.length_map, Dn.dg_length]
                    have ne : lets (lettersOf up) (Dn.dg B mm V) ≠ [] := fun q => by rw [q, List.length_nil] at ln; exact MZ.out ln.symm
                    obtain ⟨go, co, eo, cl⟩ := R8.cells ne
                    rw [ln] at eo cl
                    have ST := Str.of_nums (xs := lets (lettersOf up) (Dn.dg B mm V)) (lets_b up _)
                    have cv : (convert 117 9 mvo).run Tryz.prog wr = .ok (.string (strOfNums (lets (lettersOf up) (Dn.dg B mm V)))) wr := by
                      rw [eo]
                      exact run_convert_bytes_arg (P := Tryz.prog) wr 117 5 Tryz.underlying117 Tryz.underlying5 go 0 mm co _ ln (fun i hi => cl i hi) 9 Tryz.underlying9
                    have F := hid (FX.out _ ST wr (HQ.out.trans (I.out.2.2.mono BW.out)))
                    clear I CBH R8 ln ne cl ST CB FX eo
                    generalize strOfNums (lets (lettersOf up) (Dn.dg B mm V)) = SS at *
                    go_wp2_with fail
                    go_ret2
                    exact F.out
                  | succ r =>
                    have hcr : c = (r : Int) := by omega
                    have hr0 : 0 ≤ (r : Int) := by omega
                    have rm : r < mm := by have := I.out.1; omega
                    have rT : r < T := by have := MT.out; omega
                    have rTi : (r : Int) < (T : Int) := by omega
                    have cr := CBH.out r rT
                    obtain ⟨mv', w2, ap, r2, z2, b2, _⟩ := I.out.2.1.push (dgt (V / B ^ r % B) up) (by rw [List.length_reverse, List.length_drop, Gn.bk_len]; omega) I.out.2.2.size
                    have ed : (Gn.bk B V up mm).drop r = dgt (V / B ^ r % B) up :: (Gn.bk B V up mm).drop (r + 1) := by
                      rw [List.drop_eq_getElem_cons (by rw [Gn.bk_len]; exact rm)]
                      have := Gn.bk_at B V up mm r rm
                      rw [List.getD_eq_getElem?_getD, List.getElem?_eq_getElem (by rw [Gn.bk_len]; exact rm)] at this
                      rw [← this]; rfl
                    have F : Hid (r ≤ mm ∧ Row8 wL.heap.size w2 mv' ((Gn.bk B V up mm).drop r).reverse ∧ Below wL.heap.size wL w2) := ⟨by omega, by rw [ed, List.reverse_cons]; exact r2, I.out.2.2.trans b2⟩
                    have AP := hid ap
                    clear ap r2 z2 b2 ed I CBH CB FX
                    subst hcr
                    clear hc
                    generalize dgt (V / B ^ r % B) up = x at *
                    go_wp2_with (at_builtin; refine wpList_append_b rfl _ _ rfl AP.out (by rfl) (by rfl) ?_; clear AP)
                    go_roundg r
                    case measure => omega
                    case rel => exact ⟨mv', _, rfl, rfl, by omega, F.out⟩

set_option maxRecDepth 100000 in
theorem sdigits_any (p : Option Addr) (n cap : Nat) (za : List Int) (w : World) (ha : Arg w p n cap za) :
    Calls Tryz.prog 64 #[.slice p n cap] w fun e w' => InTold za 10 false w e w' := by
  have IB := hid (sinBase_any p n cap za 10 false w ha)
  clear ha
  go_enter Tryz.func64, Tryz.ntmps64
  go_wp2_with fail
  with_reducible refine IB.out.mono ?_
  rintro e w1 ⟨s, xs, E, rfl, h1, h2, h3⟩
  have F : Hid (InTold za 10 false w (.returned (.tuple #[.string s, .int .i64 E])) w1) := ⟨s, xs, E, rfl, h1, h2, h3⟩
  clear h1 h2 h3
  go_wp2_with fail
  go_ret2
  exact F.out
end Go.Proofs.YtonnlimmjelldaaGreatDoor

namespace Go.Proofs.YtonnlimmjelldaaGreatDoor
open Go.RowKit Go.Deep

theorem fblen_trim (zs : List Int) : blen (Nm.trim zs) = blen zs := by
  unfold blen
  rw [Nm.trim_trim]
  by_cases h : Nm.tsize zs = 0
  · rw [if_pos h, if_pos h]
  · rw [if_neg h, if_neg h]
    have e : (Nm.trim zs).getD (Nm.tsize zs - 1) 0 = zs.getD (Nm.tsize zs - 1) 0 := by rw [Nm.trim, Nm.getD_take, if_pos (by omega)]
    rw [e]

theorem fpw_4096 : Nm.pw 4096 = 2 ^ 262144 := Nm.pw_two 4096

theorem ftwo_lt {a b : Nat} (h : (2 : Int) ^ a < 2 ^ b) : a < b := by
  rcases Nat.lt_or_ge a b with h1 | h1
  · exact h1
  · have := Nm.two_mono h1
    omega

/-- So many digits as the number times 2^k. -/
theorem FBLen.up {v : Int} {L : Nat} (k : Nat) (h : Nm.BLen v L) (hv : 0 < v) : Nm.BLen (v * 2 ^ k) (L + k) := by
  have hp := Nm.two_pos k
  have h1 := h.2.2 hv
  refine ⟨?_, fun h0 => ?_, fun _ => ⟨by omega, ?_⟩⟩
  · rw [Nm.two_add]
    exact Int.mul_lt_mul_of_pos_right h.1 hp
  · rcases Int.mul_eq_zero.1 h0 with h2 | h2 <;> omega
  · rw [show L + k - 1 = L - 1 + k by omega, Nm.two_add]
    exact Int.mul_le_mul_of_nonneg_right h1.2 (by omega)

theorem ftsize_pos {zs : List Int} (hz : Nm.Limbs zs) (hv : 0 < Nm.val zs) : 0 < Nm.tsize zs := by
  rcases Nat.eq_zero_or_pos (Nm.tsize zs) with h | h
  · have := (Nm.tsize_zero_iff hz).1 h
    omega
  · exact h

theorem fshl_any (p : Option Addr) (n cap : Nat) (zs : List Int) (kk : Int) (k : Nat) (w : World) (ha : Arg w p n cap zs) (tz : Nm.tsize zs ≤ 4096) (hkk : kk = (k : Int)) (hb : Nm.val zs * 2 ^ k < Nm.pw 4096) :
    Calls Tryz.prog 74 #[.slice p n cap, .int .i64 kk] w fun e w' => ∃ r os, e = .returned (.tuple #[.slice r (List.length os) (List.length os), .int .i64 0]) ∧ Ans w.heap.size w' r os (Nm.val zs * 2 ^ k) ∧ Below w.heap.size w w' := by
  have hv0 := (Nm.val_bd zs ha.2.2.2.2).1
  by_cases hz : Nm.tsize zs = 0
  · have hv := (Nm.tsize_zero_iff ha.2.2.2.2).1 hz
    refine (shl_zero p n cap zs kk w ha (by omega) hz).mono ?_
    rintro e w' ⟨rfl, rfl⟩
    exact ⟨none, [], rfl, ⟨Lies.nil _ _, Nm.Limbs.nil, rfl, by rw [hv, Int.zero_mul]; rfl, fun a h => by cases h⟩, Below.refl _ _⟩
  · obtain ⟨L, hL, BL, _, _⟩ := blen_is zs ha.2.2.2.2
    rw [← fblen_trim] at hL
    have hv : 0 < Nm.val zs := by
      rcases (show Nm.val zs = 0 ∨ 0 < Nm.val zs by omega) with h | h
      · exact absurd ((Nm.tsize_zero_iff ha.2.2.2.2).2 h) hz
      · exact h
    have hu := (FBLen.up k BL hv).2.2 (Int.mul_pos hv (Nm.two_pos k))
    rw [fpw_4096] at hb
    have hlt := ftwo_lt (show (2 : Int) ^ (L + k - 1) < 2 ^ 262144 by omega)
    exact shl_ok p n cap zs kk k L w ha tz hkk (by omega) hL (by omega)

end Go.Proofs.YtonnlimmjelldaaGreatDoor

namespace Go.Proofs.YtonnlimmjelldaaGreatDoor
open Go.RowKit Go.Deep

theorem pow5_gives (k : Int) (n : Nat) (w : World) (hk : k = (n : Int)) (hk1 : k ≤ 9223372036854775807) :
    Calls Tryz.prog 75 #[.int .i64 k] w fun e w' => Gives (5 ^ n) w e w' := by
  have hb : Below w.heap.size w (w.alloc (.cells #[.int .u64 5] 26)) := (Below.refl _ _).alloc (Nat.le_refl _) _
  have A : Arg (w.alloc (.cells #[.int .u64 5] 26)) (some ⟨w.heap.size, 0, none⟩) 1 1 [5] := ⟨rfl, Nat.le_refl _, by omega, (Own.alloc w [5]).lies, limb_one (by omega)⟩
  have P := hid (pow_gives _ 1 1 [5] 5 k n _ A (by simp [Nm.tsize]) (by simp [Nm.val]) hk hk1)
  have HB := hid hb
  clear hb A hk
  go_enter Tryz.func75, Tryz.ntmps75
  go_wp2_with fail
  refine P.out.mono ?_
  rintro e w1 ⟨h | h, hb1⟩
  · obtain ⟨h1, r, os, rfl, A1⟩ := h
    have G : Hid (Gives (5 ^ n) w (.returned (.tuple #[.slice r (List.length os) (List.length os), .int .i64 0])) w1) := ⟨.inl ⟨h1, r, os, rfl, A1.upT HB.out.size⟩, chain HB.out hb1 (Nat.le_refl _)⟩
    clear h1 A1 hb1
    go_wp2_with fail
    go_ret2
    exact G.out
  · obtain ⟨h1, rfl⟩ := h
    have G : Hid (Gives (5 ^ n) w (.returned (.tuple #[.slice none 0 0, .int .i64 2])) w1) := ⟨.inr ⟨h1, rfl⟩, chain HB.out hb1 (Nat.le_refl _)⟩
    clear h1 hb1
    go_wp2_with fail
    go_ret2
    exact G.out
end Go.Proofs.YtonnlimmjelldaaGreatDoor

namespace Go.Proofs.YtonnlimmjelldaaGreatDoor
open Go Go.RowKit Go.Deep

theorem fp10_pw {j : Nat} (h : j ≤ 20000) : (10 : Int) ^ j < Nm.pw 4096 := by
  have h1 := Nat.pow_le_pow_left (show 10 ≤ 2 ^ 4 by decide) j
  rw [← Nat.pow_mul] at h1
  have e1 : ((10 ^ j : Nat) : Int) = 10 ^ j := by simp
  have e2 : ((2 ^ (4 * j) : Nat) : Int) = 2 ^ (4 * j) := by simp
  have h3 : (2 : Int) ^ (4 * j) < 2 ^ 262144 := by
    have h4 := Nm.two_mono (show 4 * j + 1 ≤ 262144 by omega)
    have h5 : (2 : Int) ^ (4 * j + 1) = 2 ^ (4 * j) * 2 := Int.pow_succ _ _
    have h6 : (0 : Int) < 2 ^ (4 * j) := Int.pow_pos (by omega)
    generalize (2 : Int) ^ 262144 = a at *
    omega
  rw [fpw_4096]
  omega

theorem f5_10 (n : Nat) : (5 : Int) ^ n ≤ 10 ^ n := by
  have h1 := Nat.pow_le_pow_left (show 5 ≤ 10 by decide) n
  have e1 : ((10 ^ n : Nat) : Int) = 10 ^ n := by simp
  have e2 : ((5 ^ n : Nat) : Int) = 5 ^ n := by simp
  omega
theorem f2_10 (n : Nat) : (2 : Int) ^ n ≤ 10 ^ n := by
  have h1 := Nat.pow_le_pow_left (show 2 ≤ 10 by decide) n
  have e1 : ((10 ^ n : Nat) : Int) = 10 ^ n := by simp
  have e2 : ((2 ^ n : Nat) : Int) = 2 ^ n := by simp
  omega

theorem fpow5_ok (k : Int) (n : Nat) (w : World) (hk : k = (n : Int)) (hn : n ≤ 20000) :
    Calls Tryz.prog 75 #[.int .i64 k] w fun e w' => ∃ r os, e = .returned (.tuple #[.slice r (List.length os) (List.length os), .int .i64 0]) ∧ Ans w.heap.size w' r os (5 ^ n) ∧ Below w.heap.size w w' := by
  refine (pow5_gives k n w hk (by omega)).mono ?_
  rintro e w' ⟨⟨_, r, os, rfl, A⟩ | ⟨h, _⟩, hB⟩
  · exact ⟨r, os, rfl, A, hB⟩
  · exact absurd (Int.lt_of_le_of_lt (f5_10 n) (fp10_pw hn)) (Int.not_lt.2 h)

/-- s writes T in base 10. -/
structure DigT (T : Int) (s : ByteArray) (xs : List Int) : Prop where
  str : Str s xs
  digs : Digs xs
  val : dv xs = T
  head : xs.getD 0 0 ≠ 48
  ne : xs ≠ []
  len : xs.length ≤ 3000

theorem small_dig : ∀ d : Int, 0 ≤ d → d < 10 → (lettersOf false).getD d.toNat 0 = d + 48 := by
  intro d h0 h1
  obtain ⟨n, rfl⟩ := Int.eq_ofNat_of_zero_le h0
  have : n < 10 := by omega
  match n, this with
  | 0, _ => rfl
  | 1, _ => rfl
  | 2, _ => rfl
  | 3, _ => rfl
  | 4, _ => rfl
  | 5, _ => rfl
  | 6, _ => rfl
  | 7, _ => rfl
  | 8, _ => rfl
  | 9, _ => rfl

theorem dig_lets {T : Int} {L K : Nat} {s : ByteArray} (h0 : 0 < T) (hL : T < 10 ^ L) (hK : K ≤ 2000) (hb : T < 10 ^ K) (hs : Str s (lets (lettersOf false) (Dn.strip (Dn.dg 10 L T)))) : DigT T s (lets (lettersOf false) (Dn.strip (Dn.dg 10 L T))) := by
  have mem : ∀ d ∈ Dn.strip (Dn.dg 10 L T), 0 ≤ d ∧ d < 10 := fun d hd => Dn.dg_mem (by omega) L T d (Dn.strip_mem hd)
  have e : lets (lettersOf false) (Dn.strip (Dn.dg 10 L T)) = (Dn.strip (Dn.dg 10 L T)).map (fun d => d + 48) := List.map_congr_left fun d hd => small_dig d (mem d hd).1 (mem d hd).2
  have v : Dn.tv 10 0 (Dn.strip (Dn.dg 10 L T)) = T := by rw [Dn.tv_strip]; exact Dn.tv_dg (by omega) L T (by omega) hL
  have ne : Dn.strip (Dn.dg 10 L T) ≠ [] := by
    intro c
    rw [c] at v
    simp [Dn.tv] at v
    omega
  have dg : Digs (lets (lettersOf false) (Dn.strip (Dn.dg 10 L T))) := by
    rw [e]
    intro d hd
    obtain ⟨x, hx, rfl⟩ := List.mem_map.1 hd
    have := mem x hx
    omega
  have dvT : dv (lets (lettersOf false) (Dn.strip (Dn.dg 10 L T))) = T := by
    rw [e]
    unfold dv
    rw [List.map_map, show ((fun d : Int => d - 48) ∘ fun d => d + 48) = id from funext fun d => by simp, List.map_id]
    exact v
  have hd : (lets (lettersOf false) (Dn.strip (Dn.dg 10 L T))).getD 0 0 ≠ 48 := by
    rw [e]
    match hm : Dn.strip (Dn.dg 10 L T), ne with
    | x :: ys, _ =>
      have := Dn.strip_head hm
      simp
      omega
  have nn : lets (lettersOf false) (Dn.strip (Dn.dg 10 L T)) ≠ [] := by rw [e]; simpa using ne
  refine ⟨hs, dg, dvT, hd, nn, ?_⟩
  obtain ⟨n, hn⟩ : ∃ n, (lets (lettersOf false) (Dn.strip (Dn.dg 10 L T))).length = n + 1 := ⟨(lets (lettersOf false) (Dn.strip (Dn.dg 10 L T))).length - 1, by have := List.length_pos_iff.2 nn; omega⟩
  have := Fx.head_low dg hn hd
  rw [dvT] at this
  have := Fx.p_lt (a := n) (b := K) (Int.lt_of_le_of_lt this hb)
  omega

set_option maxRecDepth 100000 in
theorem fdigits_any (p : Option Addr) (os : List Int) (B : Nat) (T : Int) (w : World) (K : Nat) (A : Ans B w p os T) (h0 : 0 < T) (hK : K ≤ 2000) (hb : T < 10 ^ K) :
    Calls Tryz.prog 77 #[.slice p (List.length os) (List.length os)] w fun e w' => ∃ s xs, e = .returned (.tuple #[.string s, .int .i64 0]) ∧ DigT T s xs ∧ Below w.heap.size w w' := by
  have hp : T < Nm.pw 4096 := Int.lt_trans hb (fp10_pw (by omega))
  have IB : Hid (Calls Tryz.prog 107 #[.slice p (List.length os) (List.length os), .int .i64 10, .bool false] w fun e w' => ∃ s xs, e = .returned (.tuple #[.string s, .int .i64 0]) ∧ DigT T s xs ∧ Below w.heap.size w w') := by
    refine (inBase_any p _ _ os 10 false w (A.argT hp) (by omega) (by omega)).mono ?_
    rintro e w' ⟨s, xs, E, rfl, hs, h, hB⟩
    have ts := A.tsT hp
    have hv : Nm.val os = T := A.2.2.2.1
    cases h with
    | big c => omega
    | base _ c => omega
    | zero c _ _ =>
      have := (Nm.tsize_zero_iff A.2.1).1 c
      omega
    | ok L c1 c2 c3 c4 c5 =>
      rw [hv] at c5 hs
      exact ⟨s, _, rfl, dig_lets h0 c5 hK hb hs, hB⟩
  clear A h0 hb hp hK
  go_enter Tryz.func77, Tryz.ntmps77
  go_wp2_with fail
  refine IB.out.mono ?_
  rintro e w' ⟨s, xs, rfl, D, hB⟩
  have HD := hid (And.intro D hB)
  clear D hB IB
  go_wp2_with fail
  go_ret2
  exact ⟨s, xs, rfl, HD.out.1, HD.out.2⟩
end Go.Proofs.YtonnlimmjelldaaGreatDoor

namespace Go.Proofs.YtonnlimmjelldaaGreatDoor
open Go Go.RowKit Go.Deep

namespace Tn
open Sh
theorem in_dig {os xs : List Int} {T E : Int} {s : ByteArray} (hz : Nm.Limbs os) (hv : Nm.val os = T) (h0 : 0 < T) (hb : T < 10 ^ 60) (hs : Str s xs) (h : InIs os 10 false xs E) : DigT T s xs ∧ E = 0 := by
  have hp : T < Nm.pw 4096 := Int.lt_trans hb (fp10_pw (by omega))
  have ts : Nm.tsize os ≤ 4096 := (Nm.tsize_le_iff hz 4096).2 (by omega)
  cases h with
  | big c => omega
  | base _ c => omega
  | zero c _ _ =>
    have := (Nm.tsize_zero_iff hz).1 c
    omega
  | ok L c1 c2 c3 c4 c5 =>
    rw [hv] at c5 hs ⊢
    exact ⟨dig_lets h0 c5 (by omega) hb hs, rfl⟩
theorem norm_is {xs : List Int} {k e : Int} {j : Nat} (hd : Digs xs) (hh : xs.getD 0 0 ≠ 48) (hv : dv xs = k) (hk : 0 < k) (hj : j ≤ xs.length) (h0 : ∀ i, j ≤ i → i < xs.length → xs.getD i 0 = 48) (hl : xs.getD (j - 1) 0 ≠ 48) (he : -1075 ≤ e) :
    dd (k * S e) = ⟨false, xs.take j, e + ((xs.length : Int) - (j : Int))⟩ := by
  obtain ⟨n1, n2, n3⟩ := Fx.nml_take hd hh hj h0 (fun _ => hl) (by omega)
  refine dd_eq ⟨rfl, by show -1075 ≤ e + _; omega, .inr n2⟩ ?_
  show dv (xs.take j) * 10 ^ (e + ((xs.length : Int) - (j : Int)) + 1075).toNat = _
  rw [show (e + ((xs.length : Int) - (j : Int)) + 1075).toNat = (xs.length - j) + (e + 1075).toNat by omega, Int.pow_add, ← Int.mul_assoc, n3, hv]
  rfl
end Tn
def NoTold (neg : Bool) (U : Int) (w : World) (en : Ending) (w' : World) : Prop := ∃ t, en = .returned (.agg #[.bool neg, .string t, .int .i64 (Sh.dd U).e]) ∧ Hid (Str t (Sh.dd U).ds) ∧ Below w.heap.size w w'

set_option maxRecDepth 100000 in
set_option maxHeartbeats 8000000 in
theorem xnormal_any (neg : Bool) (k e : Int) (r : Option Addr) (os : List Int) (w : World) (e0 : -1000 ≤ e) (e1 : e ≤ 1000) (hA : Arg w r os.length os.length os) (hv : Nm.val os = k) (hk : 0 < k) (hk1 : k < 10 ^ 60) :
    Calls Tryz.prog 33 #[.bool neg, .slice r os.length os.length, .int .i64 e] w fun en w' => NoTold neg (k * Tn.S e) w en w' := by
  have Z := hid (FR3.new w (.bool false) (.string ⟨#[]⟩) (.int .i64 0))
  have ZB := hid (alloc_b w (.cells #[.bool false, .string ⟨#[]⟩, .int .i64 0] 28))
  have SD := hid (sdigits_any r _ _ os (w.alloc (.cells #[.bool false, .string ⟨#[]⟩, .int .i64 0] 28)) (hA.below ZB.out (Nat.le_refl _)))
  have DI := hid (fun (s : ByteArray) (xs : List Int) (E : Int) (h1 : Str s xs) (h2 : InIs os 10 false xs E) => Tn.in_dig hA.2.2.2.2 hv hk hk1 h1 h2)
  have KP := hid hk
  clear hA hv hk hk1
  go_enter Tryz.func33, Tryz.ntmps33
  go_wp2_with fail
  refine SD.out.mono ?_
  rintro en w1 ⟨s, xs, E, rfl, hs, hi, hB⟩
  obtain ⟨dt, rfl⟩ := DI.out s xs E hs hi
  have DT := hid dt
  have R1 := hid (Z.out.below hB Z.out.lt)
  have B1 := hid (ZB.out.trans (hB.mono ZB.out.size))
  have HS := hid hs
  have sz := hid hs.size
  obtain ⟨L, hL⟩ : ∃ L, xs.length = L + 1 := ⟨xs.length - 1, by have := List.length_pos_iff.2 dt.ne; omega⟩
  have HL := hid hL
  have lb : (L : Int) ≤ 3000 := by have := dt.len; omega
  have s1 : Hid (s.size = L + 1) := by show _ = _; rw [sz.out, hL]
  have BA : Hid (∀ j (h : j < s.size), ((s[j]'h).toNat : Int) = xs.getD j 0) := fun j h => hs.at j h
  clear hB SD DI Z ZB hs hi dt hL
  go_wp2_with fail
  go_loopg [2, 9] L (fun m ev nv wr => nv = .int .i64 ((m : Int) + 1) ∧ m ≤ L ∧ ev = .int .i64 (e + ((L : Int) - (m : Int))) ∧ Hid ((∀ i, m + 1 ≤ i → i < xs.length → xs.getD i 0 = 48) ∧ wr = w1))
  case atStart => exact ⟨by rw [s1.out]; rfl, Nat.le_refl _, by rw [show e + ((L : Int) - (L : Int)) = e by omega], fun i h1 h2 => by have := HL.out; omega, rfl⟩
  case round =>
    obtain ⟨rfl, hm, rfl, J⟩ := hrel
    obtain ⟨j0, hw⟩ := J.out
    subst hw
    have J0 := hid j0
    clear J j0
    have E9 : Hid (xs.getD gk 0 ≠ 48 → Sh.dd (k * Tn.S e) = ⟨false, xs.take (gk + 1), e + ((L : Int) - (gk : Int))⟩) := fun h => by
      have q := Tn.norm_is (j := gk + 1) DT.out.digs DT.out.head DT.out.val KP.out (by have := HL.out; omega) J0.out (by rw [Nat.add_sub_cancel]; exact h) (e := e) (by omega)
      rw [q, HL.out]
      congr 1
      omega
    have BJ := BA.out gk
    have gl : gk < s.size := by rw [s1.out]; omega
    have gli : (gk : Int) < (s.size : Int) := by omega
    have gl2 : (gk : Int) + 1 ≤ (s.size : Int) := by omega
    have FIN : Hid (∀ (w' : World), xs.getD gk 0 ≠ 48 → Below w.heap.size w w' → NoTold neg (k * Tn.S e) w (.returned (.agg #[.bool neg, .string (s.extract 0 (gk + 1)), .int .i64 (e + ((L : Int) - (gk : Int)))])) w') := fun w' h hb => by
      have q := E9.out h
      refine ⟨s.extract 0 (gk + 1), by rw [q], ?_, hb⟩
      rw [q]
      have x := Str.extract HS.out 0 (gk + 1)
      rw [List.drop_zero, Nat.sub_zero] at x
      exact x
    obtain ⟨⟨c0, c1, c2⟩, f0, f1, f2⟩ := R1.out.cells
    by_cases h48 : xs.getD gk 0 = 48
    · have g0 : gk ≠ 0 := fun c => DT.out.head (by rw [c] at h48; exact h48)
      have g0i : (1 : Int) < (gk : Int) + 1 := by omega
      rw [h48] at BJ
      have J1 : Hid (∀ i, gk - 1 + 1 ≤ i → i < xs.length → xs.getD i 0 = 48) := fun i h1 h2 => by
        rcases Nat.eq_or_lt_of_le (show gk ≤ i by omega) with c | c
        · rw [← c]; exact h48
        · exact J0.out i (by omega) h2
      clear E9 FIN h48 J0
      go_wp2_with fail
      go_roundg (gk - 1)
      case measure => omega
      case rel => exact ⟨by go_num, by omega, by go_num, J1.out, rfl⟩
    · have G := hid (fun w' hb => FIN.out w' h48 hb)
      have h48b : (xs.getD gk 0 == 48) = false := beq_eq_false_iff_ne.2 h48
      clear E9 FIN J0
      generalize xs.getD gk 0 = c at *
      by_cases g0 : (1 : Int) < (gk : Int) + 1
      · go_wp2_with fail
        (try simp only [Exit.inBlock, Exit.then])
        refine bodyPost_ret (results_cell_row rfl _ _ w.heap.size 28 _ (0, 0) _ rfl (R1.out.put _ _ _) Tryz.underlying28 rfl (by kernel_rfl)) rfl ?_
        exact G.out _ (fset3_below B1.out (Nat.le_refl _))
      · go_wp2_with fail
        (try simp only [Exit.inBlock, Exit.then])
        refine bodyPost_ret (results_cell_row rfl _ _ w.heap.size 28 _ (0, 0) _ rfl (R1.out.put _ _ _) Tryz.underlying28 rfl (by kernel_rfl)) rfl ?_
        exact G.out _ (fset3_below B1.out (Nat.le_refl _))
end Go.Proofs.YtonnlimmjelldaaGreatDoor

namespace Go.Proofs.YtonnlimmjelldaaGreatDoor
open Go.RowKit Go.Deep

/-- s' is s without some zeros at its head, and opens with none. -/
def Bared (xs : List Int) (s' : ByteArray) (j : Nat) : Prop := Str s' (xs.drop j) ∧ j ≤ xs.length ∧ (∀ i, i < j → xs.getD i 0 = 48)

def STold (xs : List Int) (e : Ending) : Prop := ∃ s' j, e = .returned (.string s') ∧ Bared xs s' j ∧ (j < xs.length → xs.getD j 0 ≠ 48)

set_option maxRecDepth 100000 in
set_option maxHeartbeats 1000000 in
theorem strim1_any (s : ByteArray) (xs : List Int) (w : World) (hs : Str s xs) (hn1 : xs.length ≤ 562949953421312) :
    Calls Tryz.prog 152 #[.string s, .int .u8 48] w fun e w' => STold xs e ∧ w' = w := by
  have HS := hid hs
  have HN := hid hn1
  clear hs hn1
  go_enter Tryz.func152, Tryz.ntmps152
  go_wp2_with fail
  go_loop [0] (fun c => ∃ s' j, c = .string s' ∧ Hid (Bared xs s' j)) (fun c => match c with | .string s' => s'.size | _ => 0)
  case atStart => exact ⟨s, 0, rfl, HS.out, Nat.zero_le _, fun i hi => by omega⟩
  case round =>
    obtain ⟨s', j, rfl, I⟩ := hrel
    obtain ⟨m, HM⟩ : ∃ m, Hid (s'.size = m) := ⟨_, rfl⟩
    have hsz : s'.size = m := HM.out
    have hjm : Hid (j + m = xs.length) := by show _ = _; have := I.out.1.size; have := I.out.2.1; have := HM.out; simp at *; omega
    have hmb : (m : Int) ≤ 562949953421312 := by have := HN.out; have := hjm.out; omega
    by_cases h0 : m = 0
    · subst h0
      have F : Hid (STold xs (.returned (.string s'))) := ⟨s', j, rfl, I.out, fun h => by have := hjm.out; omega⟩
      clear I
      go_wp2_with fail
      go_ret
      exact ⟨F.out, rfl⟩
    · have hm : 0 < m := by omega
      have hmi : (0 : Int) < (m : Int) := by omega
      obtain ⟨x, X⟩ : ∃ x, Hid (xs.getD j 0 = x) := ⟨_, rfl⟩
      have hx : ∀ h : 0 < s'.size, ((s'[0]'h).toNat : Int) = x := fun h => by rw [I.out.1.at 0 h, ← X.out]; simp [List.getD]
      by_cases hd : x = 48
      · subst hd
        have F : Hid (Bared xs (s'.extract 1 s'.size) (j + 1)) := by
          refine ⟨?_, by have := hjm.out; omega, fun i hi => ?_⟩
          · have := I.out.1.extract 1 s'.size
            rw [List.drop_drop, List.take_of_length_le (by have := hjm.out; have := HM.out; simp; omega)] at this
            exact this
          · by_cases e : i = j
            · subst e; exact X.out
            · exact I.out.2.2 i (by omega)
        rw [hsz] at F
        have SZ : Hid ((s'.extract 1 m).size < s'.size) := by
          show _ < _
          have e1 := F.out.1.size
          have e2 := HM.out
          have e3 := hjm.out
          simp only [List.length_drop] at e1
          omega
        clear I
        go_wp2_with fail
        go_round
        case rel => exact ⟨_, _, rfl, F.out⟩
        case measure => exact SZ.out
      · have hd2 : (x == 48) = false := by rw [beq_eq_false_iff_ne]; exact hd
        have F : Hid (STold xs (.returned (.string s'))) := ⟨s', j, rfl, I.out, fun _ => by rw [X.out]; exact hd⟩
        clear I
        go_wp2_with fail
        go_ret
        exact ⟨F.out, rfl⟩

set_option maxRecDepth 100000 in
theorem strim_any (s : ByteArray) (xs : List Int) (w : World) (hs : Str s xs) (hn1 : xs.length ≤ 562949953421312) :
    Calls Tryz.prog 118 #[.string s, .string ⟨#[48]⟩] w fun e w' => STold xs e ∧ w' = w := by
  have T := hid (strim1_any s xs w hs hn1)
  by_cases h : xs = []
  · have F : Hid (STold xs (.returned (.string s))) := ⟨s, 0, rfl, ⟨by simpa using hs, Nat.zero_le _, fun i hi => by omega⟩, fun hlt => by rw [h] at hlt; simp at hlt⟩
    have hs0 : s = ⟨#[]⟩ := hs.inj (by rw [h]; rfl)
    subst hs0
    clear hs hn1 h
    go_enter Tryz.func118, Tryz.ntmps118
    go_wp2_with fail
    go_ret
    exact ⟨F.out, rfl⟩
  · have e0 := hs.eq (t := ⟨#[]⟩) (ys := []) rfl
    rw [decide_eq_false h] at e0
    have e1 : s.toList ≠ [] := by
      intro c
      apply h
      rw [ByteArray.toList_eq] at c
      rw [← hs, c]
      rfl
    have e2 : (s.toList == []) = false := by rw [beq_eq_false_iff_ne]; exact e1
    have e3 : s.toList.isEmpty = false := by rw [List.isEmpty_eq_false_iff]; exact e1
    clear hs hn1 h
    go_enter Tryz.func118, Tryz.ntmps118
    go_wp2_with fail
    refine T.out.mono ?_
    rintro e w' ⟨h1, rfl⟩
    obtain ⟨s', j, rfl, h2⟩ := h1
    have F : Hid (STold xs (.returned (.string s'))) := ⟨s', j, rfl, h2⟩
    clear h2 T
    go_wp2_with fail
    go_ret
    exact ⟨F.out, rfl⟩
end Go.Proofs.YtonnlimmjelldaaGreatDoor

namespace Go.Proofs.YtonnlimmjelldaaGreatDoor
open Go.RowKit Go.Deep

/-- s' is s without some zeros at its end, and ends with none. -/
def VTail (xs : List Int) (e : Ending) : Prop := ∃ s' k, e = .returned (.string s') ∧ Str s' (xs.take k) ∧ k ≤ xs.length ∧ (∀ i, k ≤ i → i < xs.length → xs.getD i 0 = 48) ∧ (0 < k → xs.getD (k - 1) 0 ≠ 48)

set_option maxRecDepth 100000 in
set_option maxHeartbeats 1000000 in
theorem vrtrim_any (s : ByteArray) (xs : List Int) (w : World) (hs : Str s xs) (hn1 : xs.length ≤ 562949953421312) :
    Calls Tryz.prog 156 #[.string s, .int .u8 48] w fun e w' => VTail xs e ∧ w' = w := by
  have HS := hid hs
  have HN := hid hn1
  clear hs hn1
  go_enter Tryz.func156, Tryz.ntmps156
  go_wp2_with fail
  go_loop [0] (fun c => ∃ s' m, c = .string s' ∧ Hid (Str s' (xs.take m) ∧ m ≤ xs.length ∧ s'.size = m ∧ (∀ i, m ≤ i → i < xs.length → xs.getD i 0 = 48))) (fun c => match c with | .string s' => s'.size | _ => 0)
  case atStart => exact ⟨s, xs.length, rfl, by rw [List.take_length]; exact HS.out, Nat.le_refl _, HS.out.size, fun i h1 h2 => by omega⟩
  case round =>
    obtain ⟨s', m, rfl, I⟩ := hrel
    have hsz : s'.size = m := I.out.2.2.1
    have hmb : (m : Int) ≤ 562949953421312 := by have := HN.out; have := I.out.2.1; omega
    by_cases h0 : m = 0
    · subst h0
      have F : Hid (VTail xs (.returned (.string s'))) := ⟨s', 0, rfl, I.out.1, Nat.zero_le _, I.out.2.2.2, fun h => by omega⟩
      clear I
      go_wp2_with fail
      go_ret
      exact ⟨F.out, rfl⟩
    · obtain ⟨u, hu⟩ : ∃ u, m = u + 1 := ⟨m - 1, by omega⟩
      have hmi : (0 : Int) < (m : Int) := by omega
      have hmu : (m : Int) - 1 = (u : Int) := by omega
      have hum : (u : Int) < (m : Int) := by omega
      obtain ⟨x, X⟩ : ∃ x, Hid (xs.getD u 0 = x) := ⟨_, rfl⟩
      have hx : ∀ h : u < s'.size, ((s'[u]'h).toNat : Int) = x := fun h => by
        rw [I.out.1.at u h, ← X.out]
        simp [List.getD, show u < m by omega]
      have HU := hid hu
      by_cases hd : x = 48
      · subst hd
        have F : Hid (Str (s'.extract 0 u) (xs.take u) ∧ u ≤ xs.length ∧ (s'.extract 0 u).size = u ∧ (∀ i, u ≤ i → i < xs.length → xs.getD i 0 = 48)) := by
          have e := I.out.1.extract 0 u
          rw [List.drop_zero, Nat.sub_zero, List.take_take, show min u m = u by omega] at e
          refine ⟨e, by have := I.out.2.1; omega, by rw [e.size]; have := I.out.2.1; simp; omega, fun i h1 h2 => ?_⟩
          by_cases c : i = u
          · subst c; exact X.out
          · exact I.out.2.2.2 i (by omega) h2
        have SZ : Hid ((s'.extract 0 u).size < s'.size) := by show _ < _; rw [F.out.2.2.1, hsz]; omega
        clear I hu h0
        go_wp2_with fail
        go_round
        case rel => exact ⟨_, _, rfl, F.out⟩
        case measure => exact SZ.out
      · have hd2 : (x == 48) = false := by rw [beq_eq_false_iff_ne]; exact hd
        have F : Hid (VTail xs (.returned (.string s'))) := ⟨s', m, rfl, I.out.1, I.out.2.1, I.out.2.2.2, fun _ => by rw [show m - 1 = u by omega, X.out]; exact hd⟩
        clear I hu h0
        go_wp2_with fail
        go_ret
        exact ⟨F.out, rfl⟩


set_option maxRecDepth 100000 in
theorem vrtrim0_any (s : ByteArray) (xs : List Int) (w : World) (hs : Str s xs) (hn1 : xs.length ≤ 562949953421312) :
    Calls Tryz.prog 119 #[.string s, .string ⟨#[48]⟩] w fun e w' => VTail xs e ∧ w' = w := by
  have T := hid (vrtrim_any s xs w hs hn1)
  by_cases h : xs = []
  · have F : Hid (VTail xs (.returned (.string s))) := ⟨s, 0, rfl, by rw [h] at hs ⊢; exact hs, Nat.zero_le _, fun i _ hi => by rw [h] at hi; simp at hi, fun hlt => by omega⟩
    have hs0 : s = ⟨#[]⟩ := hs.inj (by rw [h]; rfl)
    subst hs0
    clear hs hn1 h
    go_enter Tryz.func119, Tryz.ntmps119
    go_wp2_with fail
    go_ret
    exact ⟨F.out, rfl⟩
  · have e1 : s.toList ≠ [] := by
      intro c
      apply h
      rw [ByteArray.toList_eq] at c
      rw [← hs, c]
      rfl
    have e2 : (s.toList == []) = false := by rw [beq_eq_false_iff_ne]; exact e1
    have e3 : s.toList.isEmpty = false := by rw [List.isEmpty_eq_false_iff]; exact e1
    clear hs hn1 h
    go_enter Tryz.func119, Tryz.ntmps119
    go_wp2_with fail
    refine T.out.mono ?_
    rintro e w' ⟨h1, rfl⟩
    obtain ⟨s', j, rfl, h2⟩ := h1
    have F : Hid (VTail xs (.returned (.string s'))) := ⟨s', j, rfl, h2⟩
    clear h2 T
    go_wp2_with fail
    go_ret
    exact ⟨F.out, rfl⟩
end Go.Proofs.YtonnlimmjelldaaGreatDoor

namespace Go.Proofs.YtonnlimmjelldaaGreatDoor
open Go.RowKit Go.Deep Go.Shelf

def vcloneRen : Go.Shelf.Ren := ⟨fun _ => 120, fun t => if t = 37 then 117 else if t = 47 then 168 else if t = 5 then 5 else if t = 9 then 9 else if t = 3 then 3 else t, fun g => g⟩
theorem vcloneLays : LaysPu.n25 Tryz.prog vcloneRen where
  mixed := by kernel_rfl
  f25 := by kernel_rfl
  t0 := by kernel_rfl
  a0 := fun _ => by kernel_rfl
  z0 := fun _ => by kernel_rfl
  v0 := fun _ => by kernel_rfl
  i0 := by kernel_rfl
  t3 := by kernel_rfl
  a3 := fun _ => by kernel_rfl
  z3 := fun _ => by kernel_rfl
  v3 := fun _ => by kernel_rfl
  i3 := by kernel_rfl
  t4 := by kernel_rfl
  a4 := fun _ => by kernel_rfl
  z4 := fun _ => by kernel_rfl
  v4 := fun _ => by kernel_rfl
  i4 := by kernel_rfl
  t5 := by kernel_rfl
  a5 := fun _ => by kernel_rfl
  z5 := fun _ => by kernel_rfl
  v5 := fun _ => by kernel_rfl
  i5 := by kernel_rfl
  t9 := by kernel_rfl
  a9 := fun _ => by kernel_rfl
  z9 := fun _ => by kernel_rfl
  v9 := fun _ => by kernel_rfl
  i9 := by kernel_rfl
  t37 := by kernel_rfl
  a37 := fun _ => by kernel_rfl
  z37 := fun _ => by kernel_rfl
  v37 := fun _ => by kernel_rfl
  i37 := by kernel_rfl
  t47 := by kernel_rfl
  a47 := fun _ => by kernel_rfl
  z47 := fun _ => by kernel_rfl
  v47 := fun _ => by kernel_rfl
  i47 := by kernel_rfl

theorem vclone_any (s : ByteArray) (w : World) (hs : s.size ≤ 281474976710656) : Calls Tryz.prog 85 #[.string s] w fun e w' => e = .returned (.string s) ∧ Below w.heap.size w w' := by
  have C : Hid (Calls Tryz.prog 120 #[.string s] w fun e w' => e = .returned (.string s) ∧ Below w.heap.size w w') := AnyPu.stringslite_Clone vcloneLays s w (by omega)
  go_enter Tryz.func85, Tryz.ntmps85
  go_wp2_with fail
  refine C.out.mono ?_
  rintro e w1 ⟨rfl, d1⟩
  have D := hid d1
  clear d1
  go_wp2_with fail
  go_ret
  exact ⟨rfl, D.out⟩
end Go.Proofs.YtonnlimmjelldaaGreatDoor

namespace Go.Proofs.YtonnlimmjelldaaGreatDoor
open Go Go.RowKit Go.Deep

def decV (neg : Bool) (s : ByteArray) (e : Int) : Value := .agg #[.bool neg, .string s, .int .i64 e]
/-- A value is this Dec. -/
def DecIs (v : Value) (d : Sc.D) : Prop := ∃ s, v = decV d.neg s d.e ∧ Str s d.ds

/-- Three cells that may be written. -/
def Row3 (w : World) (b : Nat) (v0 v1 v2 : Value) : Prop := w.heap[b]? = some (.cells #[v0, v1, v2] 28 (0, 0))
theorem Row3.new (w : World) (v0 v1 v2 : Value) : Row3 (w.alloc (.cells #[v0, v1, v2] 28)) w.heap.size v0 v1 v2 := heap_alloc_new w _
theorem Row3.below {B : Nat} {w w' : World} {b : Nat} {v0 v1 v2 : Value} (h : Row3 w b v0 v1 v2) (hB : Below B w w') (hb : b < B) : Row3 w' b v0 v1 v2 := by
  rw [Row3, hB.block b hb]; exact h
theorem Row3.lt {w : World} {b : Nat} {v0 v1 v2 : Value} (h : Row3 w b v0 v1 v2) : b < w.heap.size := by
  rcases Nat.lt_or_ge b w.heap.size with hl | hl
  · exact hl
  · simp [Row3, Array.getElem?_eq_none hl] at h
theorem Row3.cells {w : World} {b : Nat} {v0 v1 v2 : Value} (h : Row3 w b v0 v1 v2) :
    (w.cell? ⟨b, 0, none⟩ = some v0 ∧ w.cell? ⟨b, 1, none⟩ = some v1 ∧ w.cell? ⟨b, 2, none⟩ = some v2) ∧
    (w.frozen? ⟨b, 0, none⟩ = false ∧ w.frozen? ⟨b, 1, none⟩ = false ∧ w.frozen? ⟨b, 2, none⟩ = false) := by
  simp only [Row3] at h
  refine ⟨⟨?_, ?_, ?_⟩, ⟨?_, ?_, ?_⟩⟩ <;> simp [World.cell?, World.frozen?, h]
theorem Row3.put {w : World} {b : Nat} {v0 v1 v2 : Value} (h : Row3 w b v0 v1 v2) (u0 u1 u2 : Value) :
    Row3 (((w.setCell ⟨b, 0, none⟩ u0).setCell ⟨b, 1, none⟩ u1).setCell ⟨b, 2, none⟩ u2) b u0 u1 u2 := by
  have h0 := set1 (o := 0) (v := u0) (c' := #[u0, v1, v2]) h (by simp [Array.setIfInBounds])
  have h1 := set1 (o := 1) (v := u1) (c' := #[u0, u1, v2]) h0 (by simp [Array.setIfInBounds])
  exact set1 (o := 2) (v := u2) (c' := #[u0, u1, u2]) h1 (by simp [Array.setIfInBounds])
theorem Row3.far {w : World} {b c o : Nat} {v v0 v1 v2 : Value} (h : Row3 w b v0 v1 v2) (hc : c ≠ b) : Row3 (w.setCell ⟨c, o, none⟩ v) b v0 v1 v2 := by
  simp only [Row3] at *
  simp only [World.setCell, Array.getElem?_modify]
  rw [if_neg hc]; exact h
theorem set3_below {B : Nat} {w w' : World} {b : Nat} {u0 u1 u2 : Value} (h : Below B w w') (hb : B ≤ b) : Below B w (((w'.setCell ⟨b, 0, none⟩ u0).setCell ⟨b, 1, none⟩ u1).setCell ⟨b, 2, none⟩ u2) :=
  ((h.setCell (p := ⟨b, 0, none⟩) hb u0).setCell (p := ⟨b, 1, none⟩) hb u1).setCell (p := ⟨b, 2, none⟩) hb u2

/-- Two boxes for Decs, new. -/
def Two3 (w w' : World) (v0 v1 v2 u0 u1 u2 : Value) : Prop := Below w.heap.size w w' ∧ Row3 w' w.heap.size v0 v1 v2 ∧ Row3 w' (w.heap.size + 1) u0 u1 u2
theorem Two3.new (w : World) (v0 v1 v2 u0 u1 u2 : Value) : Two3 w ((w.alloc (.cells #[v0, v1, v2] 28)).alloc (.cells #[u0, u1, u2] 28)) v0 v1 v2 u0 u1 u2 :=
  ⟨below_on (alloc_b _ _) (alloc_b _ _), heap_alloc2_old _ _ _, heap_alloc2_new _ _ _⟩
theorem Two3.on {w w' w'' : World} {v0 v1 v2 u0 u1 u2 : Value} (h : Two3 w w' v0 v1 v2 u0 u1 u2) (k : Below w'.heap.size w' w'') : Two3 w w'' v0 v1 v2 u0 u1 u2 :=
  ⟨below_on h.1 k, h.2.1.below k h.2.1.lt, h.2.2.below k h.2.2.lt⟩
theorem Two3.putB {w w' : World} {v0 v1 v2 u0 u1 u2 : Value} (h : Two3 w w' v0 v1 v2 u0 u1 u2) (x0 x1 x2 : Value) : Two3 w (((w'.setCell ⟨w.heap.size + 1, 0, none⟩ x0).setCell ⟨w.heap.size + 1, 1, none⟩ x1).setCell ⟨w.heap.size + 1, 2, none⟩ x2) v0 v1 v2 x0 x1 x2 :=
  ⟨set3_below h.1 (Nat.le_succ _), ((h.2.1.far (by omega)).far (by omega)).far (by omega), h.2.2.put _ _ _⟩
theorem Two3.putA {w w' : World} {v0 v1 v2 u0 u1 u2 : Value} (h : Two3 w w' v0 v1 v2 u0 u1 u2) (x0 x1 x2 : Value) : Two3 w (((w'.setCell ⟨w.heap.size, 0, none⟩ x0).setCell ⟨w.heap.size, 1, none⟩ x1).setCell ⟨w.heap.size, 2, none⟩ x2) x0 x1 x2 u0 u1 u2 :=
  ⟨set3_below h.1 (Nat.le_refl _), h.2.1.put _ _ _, ((h.2.2.far (by omega)).far (by omega)).far (by omega)⟩

theorem str_zero : Str ⟨#[48]⟩ [48] := rfl

theorem dec_ret {v : Value} {d : Sc.D} {w w' : World} (h : DecIs v d) (b : Below w.heap.size w w') : ∃ v', Ending.returned v = .returned v' ∧ DecIs v' d ∧ Below w.heap.size w w' := ⟨v, rfl, h, b⟩

set_option maxRecDepth 100000 in
set_option maxHeartbeats 1000000 in
theorem dtrim_any (neg : Bool) (s : ByteArray) (xs : List Int) (e : Int) (w : World) (hs : Str s xs) (hn : xs.length ≤ 281474976710656) (e0 : -4611686018427387904 ≤ e) (e1 : e ≤ 4611686018427387904) :
    Calls Tryz.prog 84 #[decV neg s e] w fun r w' => ∃ v, r = .returned v ∧ DecIs v (Sc.nrm neg xs e) ∧ Below w.heap.size w w' := by
  have L := hid (fun wx => strim_any s xs wx hs (by omega))
  have HN := hid hn
  clear hs hn
  unfold decV
  go_enter Tryz.func84, Tryz.ntmps84
  go_wp2_with fail
  refine (L.out _).mono ?_
  rintro r w1 ⟨⟨s1, j, rfl, ⟨b1, b2, b3⟩, b4⟩, rfl⟩
  by_cases h : j = xs.length
  · have hs1 : s1 = ⟨#[]⟩ := b1.inj (by rw [List.drop_of_length_le (by omega)]; rfl)
    have F : Hid (Sc.nrm neg xs e = ⟨neg, [48], 0⟩) := Sc.nrm_of_none (fun i hi => b3 i (by omega))
    subst hs1
    clear b1 b2 b3 b4
    go_wp2_with fail
    (try simp only [Exit.inBlock, Exit.then])
    refine bodyPost_ret (results_cell_row rfl _ _ (w.heap.size + 1) 28 _ (0, 0) _ rfl (Two3.new w _ _ _ _ _ _).2.2 Tryz.underlying28 rfl (by kernel_rfl)) rfl ?_
    exact dec_ret (by rw [F.out]; exact ⟨_, rfl, str_zero⟩) (Two3.new w _ _ _ _ _ _).1
  · have hlt : j < xs.length := by omega
    have hne := b4 hlt
    have R := hid (fun wx => vrtrim0_any s1 (xs.drop j) wx b1 (by have := HN.out; simp; omega))
    have hsz : s1.size = xs.length - j := by have := b1.size; simpa using this
    have q1 : s1.toList ≠ [] := by
      intro c
      have : s1.size = 0 := by
        rw [ByteArray.toList_eq] at c
        have := congrArg List.length c
        rw [Array.length_toList] at this
        exact this
      omega
    have q2 : (s1.toList == []) = false := by rw [beq_eq_false_iff_ne]; exact q1
    have q3 : s1.toList.isEmpty = false := by rw [List.isEmpty_eq_false_iff]; exact q1
    have N2 : Hid (∀ k, k ≤ (xs.drop j).length → (∀ i, k ≤ i → i < (xs.drop j).length → (xs.drop j).getD i 0 = 48) → (0 < k → (xs.drop j).getD (k - 1) 0 ≠ 48) → Sc.nrm neg xs e = ⟨neg, (xs.drop j).take k, e + (xs.drop j).length - k⟩ ∧ 0 < k) := fun k x1 x2 x3 => Sc.nrm_of_trims hlt b3 hne x1 x2 x3
    have HL : Hid ((xs.drop j).length = xs.length - j) := by show _ = _; simp
    obtain ⟨m, hm⟩ : ∃ m, xs.length - j = m := ⟨_, rfl⟩
    rw [hm] at hsz HL
    have hmb : (m : Int) ≤ 281474976710656 := by have := HN.out; omega
    clear b1 b2 b3 b4 hlt hne hm h
    go_wp2_with fail
    refine (R.out _).mono ?_
    rintro r w2 ⟨⟨s2, k, rfl, c1, c2, c3, c4⟩, rfl⟩
    have NN := hid (N2.out k c2 c3 c4)
    have hk2 : s2.size = k := by have := c1.size; rw [List.length_take] at this; omega
    have hkm : (k : Int) ≤ (m : Int) := by have := HL.out; omega
    have HC := hid c1
    clear c1 c2 c3 c4 R N2 L
    go_wp2_with fail
    (try simp only [Exit.inBlock, Exit.then])
    refine bodyPost_ret (results_cell_row rfl _ _ (w.heap.size + 1) 28 _ (0, 0) _ rfl (Two3.new w _ _ _ _ _ _).2.2 Tryz.underlying28 rfl (by kernel_rfl)) rfl ?_
    exact dec_ret (by rw [NN.out.1, HL.out]; exact ⟨_, rfl, HC.out⟩) (Two3.new w _ _ _ _ _ _).1
end Go.Proofs.YtonnlimmjelldaaGreatDoor

namespace Go.Proofs.YtonnlimmjelldaaGreatDoor
open Go Go.RowKit Go.Deep

theorem Two3.one {w w' : World} {v0 v1 v2 u0 u1 u2 : Value} (h : Two3 w w' v0 v1 v2 u0 u1 u2) (x : Value) : Two3 w (w'.setCell ⟨w.heap.size, 1, none⟩ x) v0 x v2 u0 u1 u2 :=
  ⟨h.1.setCell (p := ⟨w.heap.size, 1, none⟩) (Nat.le_refl _) x, set1 h.2.1 (by simp [Array.setIfInBounds]), h.2.2.far (by omega)⟩

set_option maxRecDepth 100000 in
theorem own_any (neg : Bool) (s : ByteArray) (e : Int) (w : World) (hs : s.size ≤ 281474976710656) :
    Calls Tryz.prog 48 #[decV neg s e] w fun r w' => r = .returned (decV neg s e) ∧ Below w.heap.size w w' := by
  have C := hid (fun wx => vclone_any s wx hs)
  have Z := hid (Two3.new w (.bool neg) (.string s) (.int .i64 e) (.bool false) (.string ⟨#[]⟩) (.int .i64 0))
  unfold decV
  clear hs
  go_enter Tryz.func48, Tryz.ntmps48
  go_wp2_with fail
  refine (C.out _).mono ?_
  rintro r w1 ⟨rfl, hB⟩
  have S := hid (Z.out.on hB)
  obtain ⟨⟨c0, c1, c2⟩, f0, f1, f2⟩ := S.out.2.1.cells
  obtain ⟨⟨d0, d1, d2⟩, g0, g1, g2⟩ := S.out.2.2.cells
  clear hB Z C
  go_wp2_with fail
  (try simp only [Exit.inBlock, Exit.then])
  refine bodyPost_ret (results_cell_row rfl _ _ (w.heap.size + 1) 28 _ (0, 0) _ rfl ((S.out.one _).putB _ _ _).2.2 Tryz.underlying28 rfl (by kernel_rfl)) rfl ?_
  exact ⟨rfl, ((S.out.one _).putB _ _ _).1⟩

theorem nrm_ds_len (neg : Bool) (ds : List Int) (e : Int) (h : ds.length ≤ 281474976710655) : (Sc.nrm neg ds e).ds.length ≤ 281474976710656 := by
  have := Sc.nrm_len neg ds e
  omega
end Go.Proofs.YtonnlimmjelldaaGreatDoor

namespace Go.Proofs.YtonnlimmjelldaaGreatDoor
open Go Go.RowKit Go.Deep

theorem vret_bool {a b : Bool} (h : a = b) : Ending.returned (.bool a) = .returned (.bool b) := by rw [h]

theorem digit_any (x : Int) (w : World) (h0 : 0 ≤ x) (h1 : x < 256) : Calls Tryz.prog 83 #[.int .u8 x] w fun e w' => e = .returned (.bool (Sc.dg x)) ∧ w' = w := by
  go_enter Tryz.func83, Tryz.ntmps83
  go_wp2
  all_goals (go_ret; refine ⟨vret_bool ?_, rfl⟩)
  all_goals (rw [Bool.eq_iff_iff]; simp [Sc.dg]; omega)

theorem Str.pk {s : ByteArray} {xs : List Int} (h : Str s xs) (t : Nat) : ∀ ht : t < s.size, ((s[t]'ht).toNat : Int) = Sc.pk xs t := fun ht => h.at t ht
end Go.Proofs.YtonnlimmjelldaaGreatDoor
