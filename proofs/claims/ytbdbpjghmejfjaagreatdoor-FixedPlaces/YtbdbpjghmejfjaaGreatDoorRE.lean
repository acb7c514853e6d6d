/-
  Texts put together: FExact, SPush, FRefN, FTimes, FTextB, FRaised, FRow.
-/
import Derived.Test.YtbdbpjghmejfjaaGreatDoorRD
import Derived.Test.YtbdbpjghmejfjaaGreatDoorNMem
import Derived.Test.YtbdbpjghmejfjaaGreatDoorMem
import Derived.Laws.AppendOwn
import Derived.Laws.OwnMore
namespace Go.Proofs.YtbdbpjghmejfjaaGreatDoor
open Go Go.RowKit Go.Deep

theorem fprod_room {q : Int} {n : Nat} (q1 : q < 18446744073709551616) : q * 5 ^ n < 10 ^ (20 + n) := by
  have h1 := f5_10 n
  have h0 : (0 : Int) < 5 ^ n := Int.pow_pos (by omega)
  have h2 : q * 5 ^ n < 18446744073709551616 * 5 ^ n := Int.mul_lt_mul_of_pos_right q1 h0
  rw [Int.pow_add]
  have e : (10 : Int) ^ 20 = 100000000000000000000 := by decide
  rw [e]
  omega

set_option maxRecDepth 100000 in
theorem behind_any (p : Option Addr) (os : List Int) (B : Nat) (q k : Int) (n : Nat) (w : World) (A : Ans B w p os q) (q0 : 0 < q) (q1 : q < 18446744073709551616) (hk : k = (n : Int)) (hn : n ≤ 1074) :
    Calls Tryz.prog 47 #[.slice p (List.length os) (List.length os), .int .i64 k] w fun e w' => ∃ s xs, e = .returned (.string s) ∧ DigT (q * 5 ^ n) s xs ∧ Below w.heap.size w w' := by
  have F := hid (fpow5_ok k n w hk (by omega))
  have MU : Hid (∀ (w1 : World) (r : Option Addr) (zs : List Int), Below w.heap.size w w1 → Ans w.heap.size w1 r zs (5 ^ n) → Calls Tryz.prog 31 #[.slice p (List.length os) (List.length os), .slice r (List.length zs) (List.length zs)] w1 fun e w' => ∃ r os, e = .returned (.tuple #[.slice r (List.length os) (List.length os), .int .i64 0]) ∧ Ans w1.heap.size w' r os (q * 5 ^ n) ∧ Below w1.heap.size w1 w') := by
    intro w1 r zs hB A1
    have A0 := A.below hB (Nat.le_refl _)
    have r0 : q < Nm.pw 4096 := Int.lt_trans (show q < 10 ^ 20 by rw [show (10 : Int) ^ 20 = 100000000000000000000 by decide]; omega) (fp10_pw (by omega))
    have r1 : (5 : Int) ^ n < Nm.pw 4096 := Int.lt_of_le_of_lt (f5_10 n) (fp10_pw (by omega))
    have m := mul_ok p r _ _ _ _ os zs w1 (A0.argT r0) (A1.argT r1) (A0.tsT r0) (A1.tsT r1) (by rw [A0.2.2.2.1, A1.2.2.2.1]; exact Int.lt_trans (fprod_room q1) (fp10_pw (by omega)))
    rw [A0.2.2.2.1, A1.2.2.2.1] at m
    exact m
  have DG : Hid (∀ (w1 : World) (r : Option Addr) (zs : List Int) (B : Nat), Ans B w1 r zs (q * 5 ^ n) → Calls Tryz.prog 48 #[.slice r (List.length zs) (List.length zs)] w1 fun e w' => ∃ s xs, e = .returned (.tuple #[.string s, .int .i64 0]) ∧ DigT (q * 5 ^ n) s xs ∧ Below w1.heap.size w1 w') :=
    fun w1 r zs B A1 => fdigits_any r zs B _ w1 (20 + n) A1 (Int.mul_pos q0 (Int.pow_pos (by omega))) (by omega) (fprod_room q1)
  clear A q0 q1 hk hn
  generalize q * 5 ^ n = T at *
  generalize (5 : Int) ^ n = G at *
  go_enter Tryz.func47, Tryz.ntmps47
  go_wp2_with fail
  refine F.out.mono ?_
  rintro e w1 ⟨r, zs, rfl, A1, B1⟩
  have M1 := hid (MU.out w1 r zs B1 A1)
  have HB := hid B1
  clear A1 B1 MU F
  go_wp2_with fail
  refine M1.out.mono ?_
  rintro e w2 ⟨r2, z2, rfl, A2, B2⟩
  have D2 := hid (DG.out w2 r2 z2 _ A2)
  have HB2 := hid (HB.out.trans (B2.mono HB.out.size))
  clear A2 B2 M1 DG HB
  go_wp2_with fail
  refine D2.out.mono ?_
  rintro e w3 ⟨s, xs, rfl, D3, B3⟩
  have K := hid (And.intro D3 (HB2.out.trans (B3.mono HB2.out.size)))
  clear D3 B3 D2 HB2
  go_wp2_with fail
  go_ret
  exact ⟨s, xs, rfl, K.out.1, K.out.2⟩

/-- The digits of an odd number times a power of five: no zero is at their end. -/
theorem ex_odd {m e q : Int} {t n : Nat} {xs : List Int} {s : ByteArray} (hm : m = 2 ^ t * q) (q0 : 0 < q) (hq : q % 2 = 1) (he : -1074 ≤ e) (hn : (n : Int) = -(e + t)) (D : DigT (q * 5 ^ n) s xs) : Fx.Ex m e xs (e + t) := by
  have hm0 : 0 < m := by rw [hm]; exact Int.mul_pos (Int.pow_pos (by omega)) q0
  obtain ⟨L, hL⟩ : ∃ L, xs.length = L + 1 := ⟨xs.length - 1, by have := List.length_pos_iff.2 D.ne; omega⟩
  have odd : dv xs % 2 = 1 := by
    rw [D.val]
    have : ∀ k : Nat, (5 : Int) ^ k % 2 = 1 := by
      intro k
      induction k with
      | zero => rfl
      | succ k ih => rw [Int.pow_succ]; omega
    rw [Int.mul_emod, hq, this n]
    rfl
  refine ⟨by omega, fun c => by omega, fun _ => ⟨D.digs, D.ne, D.head, ?_⟩, fun _ => ?_⟩
  · have := Fx.dv_mod D.digs hL
    rw [hL, Nat.add_sub_cancel]
    omega
  · rw [D.val]
    obtain ⟨a, ha⟩ : ∃ a : Nat, (e + (t : Int) + 1074).toNat = a := ⟨_, rfl⟩
    obtain ⟨b, hb⟩ : ∃ b : Nat, (e + 1074).toNat = b := ⟨_, rfl⟩
    have e1 : a = t + b := by omega
    have e2 : 1074 = n + a := by omega
    rw [ha, hb, hm, Fx.F5, e2, Int.pow_add, e1, show (10 : Int) = 2 * 5 from rfl, Int.mul_pow, Int.pow_add 2]
    generalize (5 : Int) ^ n = x1
    generalize (5 : Int) ^ (t + b) = x2
    generalize (2 : Int) ^ t = x3
    generalize (2 : Int) ^ b = x4
    ac_rfl

/-- The digits of a whole number, without the zeros at their end. -/
theorem ex_whole {m e q : Int} {t n k : Nat} {xs : List Int} {s : ByteArray} (hm : m = 2 ^ t * q) (q0 : 0 < q) (he : -1074 ≤ e) (hn : (n : Int) = e + t) (D : DigT (q * 2 ^ n) s xs) (hk : k ≤ xs.length) (h0 : ∀ i, k ≤ i → i < xs.length → xs.getD i 0 = 48) (hl : 0 < k → xs.getD (k - 1) 0 ≠ 48) : Fx.Ex m e (xs.take k) (xs.length - k) := by
  have hm0 : 0 < m := by rw [hm]; exact Int.mul_pos (Int.pow_pos (by omega)) q0
  have := (Fx.ex_of (m := m) (e := e) (F := 0) hm0 D.digs D.head hk h0 hl (by omega) (by
    rw [D.val]
    obtain ⟨b, hb⟩ : ∃ b : Nat, (e + 1074).toNat = b := ⟨_, rfl⟩
    have e1 : n + 1074 = t + b := by omega
    have e2 : (2 : Int) ^ n * 2 ^ 1074 = 2 ^ t * 2 ^ b := by rw [← Int.pow_add, ← Int.pow_add, e1]
    rw [hb, hm, Fx.F5, show ((0 : Int) + 1074).toNat = 1074 from rfl]
    generalize 1074 = z at *
    rw [show (10 : Int) = 2 * 5 from rfl, Int.mul_pow]
    generalize (5 : Int) ^ z = x1
    generalize (2 : Int) ^ z = x2 at *
    rw [show q * 2 ^ n * (x2 * x1) = q * (2 ^ n * x2) * x1 by ac_rfl, e2]
    ac_rfl)).1
  rw [Int.zero_add] at this
  exact this
end Go.Proofs.YtbdbpjghmejfjaaGreatDoor

namespace Go.Proofs.YtbdbpjghmejfjaaGreatDoor
open Go.RowKit Go.Deep

theorem wpList_append_d {ty : TypeId} {ops : Array Oper} {rest : List Oper} {o : Oper} {a : Act} {Q : Exit → Act → World → Prop} (hgd : o.guard = none) (s x : Operand)
    (ho : o.op = .call { callee := .builtin .append, args := #[s, x], argTypes := #[ty, ty] }) {v y v' : Value} {w w' : World} (hr : (Builtin.append_ #[ty, ty] o.type #[v, y]).run Tryz.prog w = .ok v' w') (hs : a.eval s = v) (hx : a.eval x = y)
    (h : wpList Tryz.prog ops Q rest (a.put o.dst v') w') : wpList Tryz.prog ops Q (o :: rest) a w := by
  refine wpList_plain hgd fun K hK => ?_
  unfold Oper.wp execOp
  simp only [ho, resolve, invoke, builtin, Sem.run_bind, Sem.run_pure, Result.andThen_ok, List.map_toArray, List.map_cons, List.map_nil, hs, hx, hr]
  exact hK _ _ h

/-- The limbs, in a block of our own from base on. -/
def Row64 (base : Nat) (w : World) (mv : Value) (xs : List Int) : Prop := w.ownsRow base 24 1 mv xs.length (xs.map (Value.int .u64))

theorem Row64.below {base : Nat} {w w' : World} {mv : Value} {xs : List Int} (h : Row64 base w mv xs) (hb : Below w.heap.size w w') : Row64 base w' mv xs :=
  World.ownsRow.kept (row := none) h ⟨hb.os, hb.tape, hb.output, hb.size, fun j hj _ => hb.block j hj⟩ (by cases h : Value.ownBlock mv <;> simp)

theorem Row64.push {base : Nat} {w : World} {mv : Value} {xs : List Int} (ho : Row64 base w mv xs) (x : Int) (hn : xs.length < 17592186044415) (hb : base ≤ w.heap.size) :
    ∃ mv' w', (Builtin.append_ #[34, 34] 34 #[mv, .slice (some ⟨w.heap.size, 0, none⟩) 1 1]).run Tryz.prog (w.alloc (.cells #[.int .u64 x] 24)) = .ok mv' w' ∧ Row64 base w' mv' (xs ++ [x]) ∧ w.heap.size ≤ w'.heap.size ∧
      Below base w w' ∧ (∀ j, j < w.heap.size → some j ≠ mv.ownBlock → w'.heap[j]? = w.heap[j]?) := by
  obtain ⟨i, hi, hz⟩ := Option.map_eq_some_iff.1 info64
  simp only [Prod.mk.injEq] at hz
  obtain ⟨z1, z2, z3⟩ := hz
  have bm : Below w.heap.size w (w.alloc (.cells #[.int .u64 x] 24)) := (Below.refl _ _).alloc (Nat.le_refl _) _
  have hs : (w.alloc (.cells #[.int .u64 x] 24)).heap.size = w.heap.size + 1 := World.size_alloc _ _
  have ho' := World.ownsRow.alloc ho (.cells #[.int .u64 x] 24)
  have hcell : (w.alloc (.cells #[.int .u64 x] 24)).cell? ⟨w.heap.size, 0, none⟩ = some (.int .u64 x) :=
    (Own.alloc w [x]).cell 0 (by simp)
  obtain ⟨v', w', hr, h1, h2, _⟩ := run_append_own (P := Tryz.prog) (w.alloc (.cells #[.int .u64 x] 24)) base 34 34 24 i (.int .u64 0) 1 8 Tryz.underlying34 hi z1 z2 z3 rfl (by omega) mv xs.length (xs.map (Value.int .u64)) ho'
    ⟨w.heap.size, 0, none⟩ 1 1 [.int .u64 x] rfl (fun j u hu => by
      cases j with
      | zero =>
        simp at hu
        subst hu
        rw [Go.WideShapes.add_plain]
        exact hcell
      | succ j => simp at hu) (fun u hu => by simp at hu; subst hu; rfl) (by simp only [maxLen]; omega) (by omega) (by rw [hs]; omega)
  refine ⟨v', w', hr, by simpa [Row64] using h1, by have := h2.size; omega, ?_, fun j hj hne => ?_⟩
  · have hb2 : Below base (w.alloc (.cells #[.int .u64 x] 24)) w' := by
      refine ⟨h2.os, h2.tape, h2.output, h2.size, fun j hj => h2.block j (by rw [hs]; omega) ?_⟩
      intro hk
      have := (ho'.lt j hk.symm).1
      omega
    exact (bm.mono hb).trans hb2
  · rw [h2.block j (by rw [hs]; omega) hne]
    exact bm.block j hj

/-- The row's shape. -/
theorem Row64.shape {base : Nat} {w : World} {mv : Value} {xs : List Int} (h : Row64 base w mv xs) : ∃ pm cp, mv = .slice pm xs.length cp := by
  rcases h.2 with ⟨rfl, h0⟩ | ⟨g, cp, cur, rfl, _⟩
  · exact ⟨none, 0, by rw [h0]⟩
  · exact ⟨_, cp, rfl⟩

/-- Its cells. -/
theorem Row64.cells {base : Nat} {w : World} {mv : Value} {xs : List Int} (h : Row64 base w mv xs) (h0 : xs ≠ []) : ∃ g cp, mv = .slice (some ⟨g, 0, none⟩) xs.length cp ∧ ∀ i, i < xs.length → w.cell? ⟨g, 0 + i, none⟩ = some (.int .u64 (xs.getD i 0)) := by
  rcases h.2 with ⟨rfl, hn⟩ | ⟨g, cp, cur, rfl, _⟩
  · exact absurd (List.eq_nil_of_length_eq_zero hn) h0
  · refine ⟨g, cp, rfl, fun i hi => ?_⟩
    have := World.ownsRow.cells h (g := g) rfl i (.int .u64 (xs.getD i 0)) (by simp [List.getD, hi])
    rw [Go.WideShapes.add_plain] at this
    exact this

/-- A place is written. -/
theorem Row64.set {base : Nat} {w : World} {g n cap : Nat} {xs : List Int} (h : Row64 base w (.slice (some ⟨g, 0, none⟩) n cap) xs) (i : Nat) (v : Int) : Row64 base (w.setCell ⟨g, i, none⟩ (.int .u64 v)) (.slice (some ⟨g, 0, none⟩) n cap) (xs.set i v) := by
  have hl : xs.length = n := by
    obtain ⟨pm, cp, e⟩ := h.shape
    simp only [Value.slice.injEq] at e
    exact e.2.1.symm
  refine ⟨by simp, ?_⟩
  rcases h.2 with ⟨c, _⟩ | ⟨g', cap', cur, e, h1, h2, h3, h4, h5, h6⟩
  · cases c
  · simp only [Value.slice.injEq, Option.some.injEq] at e
    obtain ⟨e1, e2, e3⟩ := e
    cases e1
    subst e3
    refine .inr ⟨g, cap, cur.set! i (.int .u64 v), by rw [List.length_set, hl], h1, ?_, by rw [List.length_set]; exact h3, h4, by simpa using h5, ?_⟩
    · simp [World.setCell, Array.getElem?_modify, h2]
    · rw [List.length_set, Array.set!, Array.toList_setIfInBounds, List.take_set, h6, List.map_set]

theorem Row64.free {base : Nat} {w : World} {g n cap : Nat} {xs : List Int} (h : Row64 base w (.slice (some ⟨g, 0, none⟩) n cap) xs) (i : Nat) : w.frozen? ⟨g, i, none⟩ = false := by
  rcases h.2 with ⟨c, _⟩ | ⟨g', cap', cur, e, h1, h2, h3⟩
  · cases c
  · simp only [Value.slice.injEq, Option.some.injEq] at e
    obtain ⟨e1, e2, e3⟩ := e
    cases e1
    simp [World.frozen?, h2]
end Go.Proofs.YtbdbpjghmejfjaaGreatDoor

namespace Go.Proofs.YtbdbpjghmejfjaaGreatDoor
open Go Go.RowKit Go.Deep
namespace Gf

def gv : List Int → Int
  | [] => 0
  | z :: zs => z + 10 * gv zs
def D10 (zs : List Int) : Prop := ∀ z ∈ zs, 0 ≤ z ∧ z < 10

theorem gv_snoc : ∀ (zs : List Int) (x : Int), gv (zs ++ [x]) = gv zs + 10 ^ zs.length * x
  | [], x => by simp [gv]
  | z :: zs, x => by
    simp only [List.cons_append, gv, gv_snoc zs x, List.length_cons, Int.pow_succ, Int.mul_add]
    rw [Int.mul_comm (10 ^ zs.length) 10, Int.mul_assoc]
    omega
theorem gv_take_succ (zs : List Int) (k : Nat) (h : k < zs.length) : gv (zs.take (k + 1)) = gv (zs.take k) + 10 ^ k * zs.getD k 0 := by
  have e : zs.take (k + 1) = zs.take k ++ [zs.getD k 0] := by
    rw [List.take_add_one, List.getElem?_eq_getElem h]
    simp [List.getD, h]
  rw [e, gv_snoc, List.length_take, Nat.min_eq_left (by omega)]
theorem D10.snoc {zs : List Int} (h : D10 zs) {s : Int} (h0 : 0 ≤ s) (h1 : s < 10) : D10 (zs ++ [s]) := by
  intro z hz
  rcases List.mem_append.1 hz with a | a
  · exact h z a
  · simp at a
    subst a
    exact ⟨h0, h1⟩
theorem D10.at {zs : List Int} (h : D10 zs) (i : Nat) : 0 ≤ zs.getD i 0 ∧ zs.getD i 0 < 10 := by
  by_cases hi : i < zs.length
  · have : zs.getD i 0 = zs[i] := by simp [List.getD, hi]
    rw [this]
    exact h _ (List.getElem_mem hi)
  · simp [List.getD, List.getElem?_eq_none (Nat.le_of_not_lt hi)]

/-- A row without zeros at its head. -/
structure Rw (zs : List Int) (v : Int) : Prop where
  dig : D10 zs
  val : gv zs = v
  top : 10 ^ zs.length ≤ 10 * v

/-- A row and what is still to be put behind it. -/
structure Pt (zs : List Int) (c v : Int) : Prop where
  dig : D10 zs
  val : gv zs + 10 ^ zs.length * c = v
  top : 0 < c ∨ 10 ^ zs.length ≤ 10 * gv zs

theorem Pt.step {zs : List Int} {c v : Int} (h : Pt zs c v) (hc : 0 < c) : Pt (zs ++ [c % 10]) (c / 10) v := by
  have hd := h.dig.snoc (s := c % 10) (by omega) (by omega)
  have p := Fx.p_pos zs.length
  refine ⟨hd, ?_, ?_⟩
  · rw [gv_snoc, List.length_append, List.length_cons, List.length_nil, Int.pow_succ, ← h.val]
    have e : c = c % 10 + 10 * (c / 10) := by omega
    generalize (10 : Int) ^ zs.length = q at *
    conv => rhs; rw [e]
    rw [Int.mul_add, Int.mul_assoc]
    omega
  · rcases (show 0 < c / 10 ∨ c / 10 = 0 by omega) with g | g
    · exact .inl g
    · right
      have e : c % 10 = c := by omega
      have g0 : 0 ≤ gv zs := by
        have : ∀ l : List Int, D10 l → 0 ≤ gv l := by
          intro l
          induction l with
          | nil => intro _; simp [gv]
          | cons z l ih =>
            intro hl
            have := ih (fun y hy => hl y (by simp [hy]))
            have := hl z (by simp)
            simp only [gv]
            omega
        exact this zs h.dig
      rw [gv_snoc, e, List.length_append, List.length_cons, List.length_nil, Int.pow_succ]
      have : (10 : Int) ^ zs.length * 1 ≤ 10 ^ zs.length * c := Int.mul_le_mul_of_nonneg_left (by omega) (Int.le_of_lt p)
      omega
theorem Pt.done {zs : List Int} {v : Int} (h : Pt zs 0 v) : Rw zs v := by
  have := h.val
  rw [Int.mul_zero, Int.add_zero] at this
  refine ⟨h.dig, this, ?_⟩
  rcases h.top with c | c
  · omega
  · rw [← this]; exact c

/-- The digits as letters. -/
def tl (zs : List Int) : List Int := (zs.reverse).map (fun z => z + 48)
theorem tl_len (zs : List Int) : (tl zs).length = zs.length := by simp [tl]
theorem tl_digs {zs : List Int} (h : D10 zs) : Digs (tl zs) := by
  intro x hx
  obtain ⟨z, hz, rfl⟩ := List.mem_map.1 hx
  have := h z (List.mem_reverse.1 hz)
  omega
theorem tl_dv : ∀ (zs : List Int), dv (tl zs) = gv zs
  | [] => rfl
  | z :: zs => by
    have e : tl (z :: zs) = tl zs ++ [z + 48] := by simp [tl]
    rw [e, Fx.dv_snoc, tl_dv zs, gv]
    omega
theorem tl_at (zs : List Int) (i : Nat) (h : i < zs.length) : (tl zs).getD (zs.length - 1 - i) 0 = zs.getD i 0 + 48 := by
  have h1 : zs.length - 1 - i < zs.length := by omega
  simp [tl, List.getD, h1, h, show zs.length - 1 - (zs.length - 1 - i) = i by omega]

theorem gv_nn : ∀ {l : List Int}, D10 l → 0 ≤ gv l
  | [], _ => by simp [gv]
  | z :: l, h => by
    have := gv_nn (l := l) (fun y hy => h y (by simp [hy]))
    have := h z (by simp)
    simp only [gv]
    omega

theorem Rw.tl {zs : List Int} {v : Int} (h : Rw zs v) (hv : 0 < v) : Digs (tl zs) ∧ dv (tl zs) = v ∧ tl zs ≠ [] ∧ (tl zs).getD 0 0 ≠ 48 := by
  have d := tl_digs h.dig
  have e := tl_dv zs
  rw [h.val] at e
  have ne : Gf.tl zs ≠ [] := by
    intro c
    rw [c] at e
    have : dv [] = 0 := rfl
    omega
  refine ⟨d, e, ne, ?_⟩
  obtain ⟨n, hn⟩ : ∃ n, (Gf.tl zs).length = n + 1 := ⟨(Gf.tl zs).length - 1, by have := List.length_pos_iff.2 ne; omega⟩
  have t := h.top
  rw [← tl_len, hn, Int.pow_succ] at t
  match hx : Gf.tl zs, hn with
  | x :: ys, hn =>
    intro c
    simp at c
    subst c
    rw [hx] at d e
    have b := (dv_bd (ds := ys) (fun d' hd => d d' (by simp [hd]))).2
    have l : ys.length = n := by simpa using hn
    rw [dv_cons, l] at e
    rw [l] at b
    omega
end Gf

theorem row_lies {base : Nat} {w : World} {mv : Value} {xs : List Int} (h : Row64 base w mv xs) : ∃ p cp, mv = .slice p xs.length cp ∧ Lies w p xs := by
  by_cases h0 : xs = []
  · obtain ⟨p, cp, e⟩ := h.shape
    exact ⟨p, cp, e, .inl h0⟩
  · obtain ⟨g, cp, e, hc⟩ := h.cells h0
    exact ⟨_, cp, e, .inr ⟨g, 0, rfl, hc⟩⟩

theorem row_nil (w : World) (base : Nat) : Row64 base w (.slice none 0 0) [] := ⟨by simp, .inl ⟨rfl, rfl⟩⟩

/-- What row and times tell. -/
def RowTold (v : Int) (N : Nat) (w : World) (e : Ending) (w' : World) : Prop :=
  ∃ p cp zs, e = .returned (.slice p (List.length zs) cp) ∧ Lies w' p zs ∧ Gf.Rw zs v ∧ zs.length ≤ N ∧ Below w.heap.size w w'
end Go.Proofs.YtbdbpjghmejfjaaGreatDoor

namespace Go.Proofs.YtbdbpjghmejfjaaGreatDoor
open Go Go.RowKit Go.Deep

/-- After i digits: the digits below i are made, the carry is c. -/
structure Tm (g : Nat) (w : World) (ls : List Int) (m : Int) (i : Nat) (c : Int) (os : List Int) (wr : World) : Prop where
  own : Own wr g os
  len : os.length = ls.length
  dig : Gf.D10 os
  val : Gf.gv (os.take i) + 10 ^ i * c = m * Gf.gv (ls.take i)
  bel : Below w.heap.size w wr

theorem Tm.step {g : Nat} {w wr : World} {ls os : List Int} {m c : Int} {i : Nat} (h : Tm g w ls m i c os wr) (hi : i < ls.length) (hg : w.heap.size ≤ g) {t : Int} (ht : t = ls.getD i 0 * m + c) (_h0 : 0 ≤ t) :
    Tm g w ls m (i + 1) (t / 10) (os.set i (t % 10)) (wr.setCell ⟨g, i, none⟩ (.int .u64 (t % 10))) := by
  refine ⟨h.own.set i _, by simpa using h.len, ?_, ?_, h.bel.setCell (p := ⟨g, i, none⟩) hg _⟩
  · intro z hz
    rcases List.mem_or_eq_of_mem_set hz with a | rfl
    · exact h.dig z a
    · omega
  · have e1 : (os.set i (t % 10)).take (i + 1) = os.take i ++ [t % 10] := by
      rw [List.take_add_one, List.take_set_of_le (Nat.le_refl _)]
      simp [show i < os.length by have := h.len; omega]
    rw [e1, Gf.gv_snoc, List.length_take, Nat.min_eq_left (by have := h.len; omega), Gf.gv_take_succ ls i hi, Int.mul_add, ← h.val, Int.pow_succ]
    have e : t = t % 10 + 10 * (t / 10) := by omega
    have e3 : m * (10 ^ i * ls.getD i 0) = 10 ^ i * (ls.getD i 0 * m) := by rw [Int.mul_left_comm, Int.mul_comm m]
    rw [e3, Int.add_assoc, Int.add_assoc]
    congr 1
    rw [Int.mul_assoc, ← Int.mul_add, ← Int.mul_add]
    congr 1
    omega

theorem own_row {base g n : Nat} {w : World} {os : List Int} (h : Own w g os) (hl : os.length = n) (hb : base ≤ g) (hn : n ≤ 1000000) : Row64 base w (.slice (some ⟨g, 0, none⟩) n n) os := by
  refine ⟨by simp, .inr ⟨g, n, (os.map (Value.int .u64)).toArray, by rw [hl], hb, h, by omega, by simp only [maxLen]; omega, by simp [hl], ?_⟩⟩
  rw [Nat.mul_one, List.toList_toArray, List.take_of_length_le (by simp)]

set_option maxRecDepth 100000 in
set_option maxHeartbeats 4000000 in
theorem rtimes_any (p : Option Addr) (cp : Nat) (ls : List Int) (v m : Int) (N : Nat) (w : World) (hl : Lies w p ls) (hr : Gf.Rw ls v) (hv : 0 < v) (hN : ls.length ≤ N) (hN1 : N ≤ 100000) (m0 : 0 < m) (m1 : m < 4294967296) :
    Calls Tryz.prog 95 #[.slice p (List.length ls) cp, .int .u64 m] w fun e w' => RowTold (m * v) (N + 11) w e w' := by
  obtain ⟨n, hn⟩ : ∃ n, ls.length = n := ⟨_, rfl⟩
  have hnp : 0 < n := by
    rcases Nat.eq_zero_or_pos n with c | c
    · have := hr.val
      rw [List.eq_nil_of_length_eq_zero (show ls.length = 0 by omega)] at this
      simp [Gf.gv] at this
      omega
    · exact c
  rcases hl with c | ⟨b, off, hp, hc⟩
  · rw [c] at hn; simp at hn; omega
  subst hp
  have hbw : b < w.heap.size := cell_lt (hc 0 (by omega))
  have mk := make64 n (by omega) w
  have bm : Below w.heap.size w (w.alloc (.cells (madeCells #[.int .u64 0] n) 24)) := (Below.refl _ _).alloc (Nat.le_refl _) _
  have ob : Own (w.alloc (.cells (madeCells #[.int .u64 0] n) 24)) w.heap.size (List.replicate n 0) := by rw [made_zero]; exact Own.alloc w _
  obtain ⟨w1, hw1⟩ : ∃ w1, w.alloc (.cells (madeCells #[.int .u64 0] n) 24) = w1 := ⟨_, rfl⟩
  rw [hw1] at mk bm ob
  obtain ⟨g, HG⟩ : ∃ g, Hid (w.heap.size = g) := ⟨_, rfl⟩
  rw [HG.out] at mk ob
  have I0 : Hid (Tm g w ls m 0 0 (List.replicate n 0) w1) := ⟨ob, by simp [hn], fun z hz => by have := List.eq_of_mem_replicate hz; omega, by simp [Gf.gv], bm⟩
  have HC : Hid (∀ wr : World, Below w.heap.size w wr → ∀ i, i < n → wr.cell? ⟨b, off + i, none⟩ = some (.int .u64 (ls.getD i 0))) := fun wr hB i hi => by rw [hB.cell (p := ⟨b, off + i, none⟩) hbw]; exact hc i (by omega)
  have HR := hid hr
  have HV := hid hv
  have HN := hid hn
  have HNN := hid hN
  have hni : (n : Int) ≤ 100000 := by omega
  have DGG := hid hr.dig
  rw [hn]
  clear hc hr hw1 bm ob hv hn hN hbw
  go_enter Tryz.func95, Tryz.ntmps95
  go_wp2_with fail
  go_loopw [6, 7, 8] (fun a i _ wr => ∃ (j : Nat) (x : Int) (os : List Int), a = .int .u64 x ∧ i = .int .i64 (j : Int) ∧ j ≤ n ∧ 0 ≤ x ∧ x < m ∧ Hid (Tm g w ls m j x os wr)) (fun _ i _ _ => n - (intOf i).toNat)
  case atStart => exact ⟨0, 0, _, rfl, rfl, Nat.zero_le _, by omega, m0, I0.out⟩
  case round =>
    clear I0
    obtain ⟨j, x, os, rfl, rfl, hj, hx0, hx1, I⟩ := hrel
    by_cases hlt : j < n
    · have hji : (j : Int) < (n : Int) := by omega
      obtain ⟨h, hH⟩ : ∃ h, Hid (ls.getD j 0 = h) := ⟨_, rfl⟩
      have hcell := HC.out wr I.out.bel j hlt
      have hhb := DGG.out.at j
      rw [hH.out] at hcell hhb
      obtain ⟨h0, h1⟩ := hhb
      have ocell := I.out.own.cell j (by have := I.out.len; have := HN.out; omega)
      have hfr := I.out.own.free j
      obtain ⟨q, hq⟩ : ∃ q, h * m = q := ⟨_, rfl⟩
      have q0 : 0 ≤ q := by rw [← hq]; exact Int.mul_nonneg h0 (by omega)
      have q1 : q ≤ 9 * m := by rw [← hq]; exact Int.mul_le_mul_of_nonneg_right (by omega) (by omega)
      have wq : IntKind.u64.wrap (h * m) = q := by rw [hq, IntKind.wrap_u64]; omega
      obtain ⟨t, ht⟩ : ∃ t, q + x = t := ⟨_, rfl⟩
      have wt : IntKind.u64.wrap (q + x) = t := by rw [ht, IntKind.wrap_u64]; omega
      have t0 : 0 ≤ t := by omega
      obtain ⟨lo, hlo⟩ : ∃ lo, t % 10 = lo := ⟨_, rfl⟩
      obtain ⟨c', hc'⟩ : ∃ c', t / 10 = c' := ⟨_, rfl⟩
      have ST := hid (I.out.step (by have := HN.out; omega) (Nat.le_of_eq HG.out) (t := t) (by rw [hH.out]; omega) t0)
      rw [hlo, hc'] at ST
      have hlo2 : t.tmod 10 = lo := by rw [Int.tmod_eq_emod_of_nonneg t0]; exact hlo
      have hc2 : t.tdiv 10 = c' := by rw [Int.tdiv_eq_ediv_of_nonneg t0]; exact hc'
      have c0 : 0 ≤ c' := by omega
      have c1 : c' < m := by omega
      generalize os.getD j 0 = oj at *
      clear I
      go_wp2_with fail
      go_roundw
      case rel => exact ⟨j + 1, c', _, by first | rfl | rw [hc'], by go_num, by omega, c0, c1, ST.out⟩
      case measure => simp [intOf]; omega
    · obtain rfl : j = n := by omega
      have U0 : Hid (Row64 w.heap.size wr (.slice (some ⟨g, 0, none⟩) j j) os ∧ Gf.Pt os x (m * v) ∧ Below w.heap.size w wr ∧ os.length = j) := by
        have l := I.out.len
        rw [HN.out] at l
        refine ⟨?_, ⟨I.out.dig, ?_, ?_⟩, I.out.bel, l⟩
        · exact own_row I.out.own l (Nat.le_of_eq HG.out) (by omega)
        · have := I.out.val
          rw [List.take_of_length_le (by omega), List.take_of_length_le (by have := HN.out; omega), HR.out.val] at this
          rw [l]; exact this
        · have vv := I.out.val
          rw [List.take_of_length_le (by omega), List.take_of_length_le (by have := HN.out; omega), HR.out.val] at vv
          rcases (show 0 < x ∨ x = 0 by omega) with c | c
          · exact .inl c
          · right
            rw [c, Int.mul_zero, Int.add_zero] at vv
            have t := HR.out.top
            rw [vv, l, ← HN.out]
            have : 1 * v ≤ m * v := Int.mul_le_mul_of_nonneg_right (by omega) (by have := HV.out; omega)
            omega
      have XB : Hid (x < 10 ^ (10 - 0)) := by
        have e : (10 : Int) ^ (10 - 0) = 10000000000 := by decide
        show _ < _
        rw [e]
        omega
      have HJ : Hid (j ≤ N) := by have := HNN.out; have := HN.out; show _ ≤ _; omega
      clear I HC HR HV HN HNN DGG
      go_wp2_with fail
      go_loopw [5, 6] (fun a c w2 => ∃ (mv : Value) (y : Int) (zs : List Int), a = mv ∧ c = .int .u64 y ∧ 0 ≤ y ∧ y < 4294967296 ∧ Hid (Row64 w.heap.size w2 mv zs ∧ Gf.Pt zs y (m * v) ∧ Below w.heap.size w w2 ∧ zs.length ≤ j + 10 ∧ j ≤ zs.length ∧ y < 10 ^ (10 - (zs.length - j)))) (fun _ c _ => (intOf c).toNat)
      case atStart => exact ⟨_, x, os, rfl, rfl, hx0, by omega, U0.out.1, U0.out.2.1, U0.out.2.2.1, by have := U0.out.2.2.2; omega, by have := U0.out.2.2.2; omega, by have := U0.out.2.2.2; rw [show os.length - j = 0 by omega]; exact XB.out⟩
      case round =>
        clear U0 XB
        obtain ⟨mv, y, zs, hmv, rfl, hy0, hy1, I⟩ := hrel
        have hmv := hmv.symm
        subst hmv
        by_cases hz : y = 0
        · subst hz
          obtain ⟨p2, cp2, e, hl2⟩ := row_lies I.out.1
          subst e
          have F : Hid (RowTold (m * v) (N + 11) w (.returned (.slice p2 (List.length zs) cp2)) wr) := ⟨p2, cp2, zs, rfl, hl2, I.out.2.1.done, by have := I.out.2.2.2.1; have := HJ.out; omega, I.out.2.2.1⟩
          clear I hl2
          go_wp2_with fail
          go_ret
          exact F.out
        · have hyp : 0 < y := by omega
          obtain ⟨i1, i2, i3, i4, i6, i5⟩ := I.out
          have zl : zs.length < j + 10 := by
            rcases Nat.lt_or_ge zs.length (j + 10) with c | c
            · exact c
            · rw [show 10 - (zs.length - j) = 0 by omega] at i5
              simp at i5
              omega
          obtain ⟨mv', w2, ap, r2, z2, b2, _⟩ := i1.push (y % 10) (by omega) i3.size
          have I2 : Hid (Row64 w.heap.size w2 mv' (zs ++ [y % 10]) ∧ Gf.Pt (zs ++ [y % 10]) (y / 10) (m * v) ∧ Below w.heap.size w w2 ∧ (zs ++ [y % 10]).length ≤ j + 10 ∧ j ≤ (zs ++ [y % 10]).length ∧ y / 10 < 10 ^ (10 - ((zs ++ [y % 10]).length - j))) := by
            refine ⟨r2, i2.step hyp, i3.trans b2, by simp; omega, by simp; omega, ?_⟩
            rw [List.length_append, List.length_cons, List.length_nil]
            rw [show 10 - (zs.length - j) = (10 - (zs.length + 1 - j)) + 1 by omega, Int.pow_succ] at i5
            rw [Nat.zero_add]
            generalize (10 : Int) ^ (10 - (zs.length + 1 - j)) = q at *
            omega
          have AP := hid ap
          obtain ⟨lo, hlo⟩ : ∃ lo, y % 10 = lo := ⟨_, rfl⟩
          obtain ⟨c', hc'⟩ : ∃ c', y / 10 = c' := ⟨_, rfl⟩
          rw [hlo] at AP I2
          rw [hc'] at I2
          have c0 : 0 ≤ c' := by omega
          have c1 : c' < y := by omega
          have hlo2 : y.tmod 10 = lo := by rw [Int.tmod_eq_emod_of_nonneg hy0]; exact hlo
          have hc2 : y.tdiv 10 = c' := by rw [Int.tdiv_eq_ediv_of_nonneg hy0]; exact hc'
          clear ap I i1 i2 i3 i4 i5 i6 zl r2 z2 b2
          go_wp2_with (at_builtin; refine wpList_append_d rfl _ _ rfl AP.out (by rfl) (by rfl) ?_; clear AP)
          go_roundw
          case rel => exact ⟨mv', c', zs ++ [lo], rfl, by first | rfl | rw [hc'], c0, by omega, I2.out⟩
          case measure => simp [intOf]; omega
end Go.Proofs.YtbdbpjghmejfjaaGreatDoor

namespace Go.Proofs.YtbdbpjghmejfjaaGreatDoor
open Go Go.RowKit Go.Deep

theorem ownb_str {w : World} {g cap : Nat} {zs : List Int} (h : OwnB w g zs) (hz : ∀ x ∈ zs, 0 ≤ x ∧ x < 256) (n : Nat) (hn : zs.length = n) :
    ∃ s, Str s zs ∧ (convert 70 9 (.slice (some ⟨g, 0, none⟩) n cap)).run Tryz.prog w = .ok (.string s) w :=
  ⟨strOfNums zs, Str.of_nums hz, run_convert_bytes_arg (P := Tryz.prog) w 70 5 Tryz.underlying70 Tryz.underlying5 g 0 n cap zs hn (fun i hi => by
    rw [Nat.zero_add, h.cell i (by omega)]) 9 Tryz.underlying9⟩

theorem set_back (ts : List Int) (n j : Nat) (hj : j < n) (hl : ts.length = n) : (List.replicate (n - j) (0 : Int) ++ ts.drop (n - j)).set (n - 1 - j) (ts.getD (n - 1 - j) 0) = List.replicate (n - (j + 1)) 0 ++ ts.drop (n - (j + 1)) := by
  have e1 : n - j = (n - (j + 1)) + 1 := by omega
  have e2 : n - 1 - j = n - (j + 1) := by omega
  rw [e2]
  generalize hq : n - (j + 1) = q at *
  rw [e1]
  have hlt : q < ts.length := by omega
  rw [List.replicate_succ', List.append_assoc, List.set_append_right _ _ (by simp), List.length_replicate, Nat.sub_self]
  congr 1
  rw [List.drop_eq_getElem_cons hlt]
  simp [List.getD, hlt]

set_option maxRecDepth 100000 in
set_option maxHeartbeats 2000000 in
theorem rtext_any (p : Option Addr) (cp : Nat) (ls : List Int) (w : World) (hl : Lies w p ls) (hd : Gf.D10 ls) (hn : ls.length ≤ 100000) (h0 : 0 < ls.length) :
    Calls Tryz.prog 69 #[.slice p (List.length ls) cp] w fun e w' => ∃ s, e = .returned (.string s) ∧ Str s (Gf.tl ls) ∧ Below w.heap.size w w' := by
  obtain ⟨n, hln⟩ : ∃ n, ls.length = n := ⟨_, rfl⟩
  rcases hl with c | ⟨b, off, hp, hc⟩
  · rw [c] at h0; simp at h0
  subst hp
  have hbw : b < w.heap.size := cell_lt (hc 0 h0)
  have mk := make8 n (by omega) w
  have bm : Below w.heap.size w (w.alloc (.cells (madeCells #[.int .u8 0] n) 5)) := (Below.refl _ _).alloc (Nat.le_refl _) _
  have ob : OwnB (w.alloc (.cells (madeCells #[.int .u8 0] n) 5)) w.heap.size (List.replicate n 0) := by rw [made_zero8]; exact OwnB.alloc w _
  obtain ⟨w1, hw1⟩ : ∃ w1, w.alloc (.cells (madeCells #[.int .u8 0] n) 5) = w1 := ⟨_, rfl⟩
  rw [hw1] at mk bm ob
  have HBM := hid bm
  have HOB := hid ob
  have hni : (n : Int) ≤ 100000 := by omega
  obtain ⟨g, HG⟩ : ∃ g, Hid (w.heap.size = g) := ⟨_, rfl⟩
  rw [HG.out] at mk HOB
  have HC : Hid (∀ wr : World, Below w.heap.size w wr → ∀ i, i < n → wr.cell? ⟨b, off + i, none⟩ = some (.int .u64 (ls.getD i 0))) := fun wr hB i hi => by rw [hB.cell (p := ⟨b, off + i, none⟩) hbw]; exact hc i (by omega)
  have tlen : (Gf.tl ls).length = n := by rw [Gf.tl_len, hln]
  have TB : Hid (∀ x ∈ Gf.tl ls, 0 ≤ x ∧ x < 256) := fun x hx => by have := Gf.tl_digs hd x hx; omega
  have TA : Hid (∀ i, i < n → (Gf.tl ls).getD (n - 1 - i) 0 = ls.getD i 0 + 48) := fun i hi => by have := Gf.tl_at ls i (by omega); rw [hln] at this; exact this
  have DA : Hid (∀ i, 0 ≤ ls.getD i 0 ∧ ls.getD i 0 < 10) := fun i => hd.at i
  have TL := hid tlen
  rw [hln]
  generalize Gf.tl ls = ts at *
  clear bm ob hw1 hn hc hd hbw h0 tlen hln
  go_enter Tryz.func69, Tryz.ntmps69
  go_wp2_with fail
  go_loopg [4] n (fun j i wr => ∃ k : Nat, k + j = n ∧ i = .int .i64 (k : Int) ∧ Hid (OwnB wr g (List.replicate (n - k) 0 ++ ts.drop (n - k)) ∧ Below w.heap.size w wr))
  case atStart => exact ⟨0, by omega, rfl, by rw [Nat.sub_zero, List.drop_of_length_le (by have := TL.out; omega), List.append_nil]; exact HOB.out, HBM.out⟩
  case round =>
    obtain ⟨k, hk, rfl, I⟩ := hrel
    cases gk with
    | zero =>
      have e : List.replicate (n - k) (0 : Int) ++ ts.drop (n - k) = ts := by rw [show n - k = 0 by omega]; simp
      have o := I.out.1
      rw [e] at o
      obtain ⟨s, hs, cv⟩ := ownb_str (cap := n) o TB.out n TL.out
      have F := hid hs
      have B := hid I.out.2
      have hki : ¬ (k : Int) < (n : Int) := by omega
      clear hs I HBM HOB o e
      go_wp2_with fail
      go_ret
      exact ⟨s, rfl, F.out, B.out⟩
    | succ u =>
      have hki : (k : Int) < (n : Int) := by omega
      obtain ⟨x, hx⟩ : ∃ x, ls.getD k 0 = x := ⟨_, rfl⟩
      have xb := DA.out k
      have hcell := HC.out wr I.out.2 k (by omega)
      rw [hx] at xb hcell
      obtain ⟨x0, x1⟩ := xb
      obtain ⟨r, hr⟩ : ∃ r, n - 1 - k = r := ⟨_, rfl⟩
      have ri : (n : Int) - 1 - (k : Int) = (r : Int) := by omega
      have rn : (r : Int) < (n : Int) := by omega
      have oc := I.out.1.cell r (by simp; have := TL.out; omega)
      have hf := I.out.1.free r
      have F : Hid (OwnB (wr.setCell ⟨g, r, none⟩ (.int .u8 (48 + x))) g (List.replicate (n - (k + 1)) 0 ++ ts.drop (n - (k + 1))) ∧ Below w.heap.size w (wr.setCell ⟨g, r, none⟩ (.int .u8 (48 + x)))) := by
        refine ⟨?_, I.out.2.setCell (p := ⟨g, r, none⟩) (Nat.le_of_eq HG.out) _⟩
        have := I.out.1.set r (48 + x)
        have e := set_back ts n k (by omega) TL.out
        rw [TA.out k (by omega), hx, hr, Int.add_comm x 48] at e
        rw [e] at this
        exact this
      generalize (List.replicate (n - k) (0 : Int) ++ ts.drop (n - k)).getD r 0 = oo at *
      clear I HBM HOB hr hx
      go_wp2_with fail
      go_roundg u
      case measure => omega
      case rel => exact ⟨k + 1, by omega, by go_num, F.out⟩
end Go.Proofs.YtbdbpjghmejfjaaGreatDoor

namespace Go.Proofs.YtbdbpjghmejfjaaGreatDoor
open Go Go.RowKit Go.Deep

theorem pw_step {m : Int} (m0 : 1 ≤ m) (m1 : m ≤ 5) : ∀ i : Nat, i ≤ 13 → 1 ≤ m ^ i ∧ m ^ i ≤ 1220703125 := by
  intro i hi
  have h1 : (1 : Int) ≤ m ^ i := Int.pow_pos (by omega)
  refine ⟨h1, ?_⟩
  have a : ∀ k : Nat, m ^ k ≤ 5 ^ k := by
    intro k
    induction k with
    | zero => simp
    | succ k ih =>
      rw [Int.pow_succ, Int.pow_succ]
      have p : (0 : Int) ≤ 5 ^ k := Int.le_of_lt (Int.pow_pos (by omega))
      have a1 : m ^ k * m ≤ 5 ^ k * m := Int.mul_le_mul_of_nonneg_right ih (by omega)
      have a2 : (5 : Int) ^ k * m ≤ 5 ^ k * 5 := Int.mul_le_mul_of_nonneg_left m1 p
      omega
  have b : (5 : Int) ^ i ≤ 5 ^ 13 := by
    obtain ⟨d, hd⟩ := Nat.exists_eq_add_of_le hi
    rw [hd, Int.pow_add]
    have p : (0 : Int) < 5 ^ i := Int.pow_pos (by omega)
    have q : (1 : Int) ≤ 5 ^ d := Int.pow_pos (by omega)
    have := Int.mul_le_mul_of_nonneg_left q (Int.le_of_lt p)
    omega
  have c : (5 : Int) ^ 13 = 1220703125 := by decide
  have := a i
  omega

set_option maxRecDepth 100000 in
set_option maxHeartbeats 4000000 in
theorem rraised_any (p : Option Addr) (cp : Nat) (ls : List Int) (v m : Int) (K N : Nat) (w : World) (hl : Lies w p ls) (hr : Gf.Rw ls v) (hv : 0 < v) (hN : ls.length ≤ N) (hK : K ≤ 2000) (hN1 : N ≤ 20) (m0 : 1 ≤ m) (m1 : m ≤ 5) :
    Calls Tryz.prog 68 #[.slice p (List.length ls) cp, .int .u64 m, .int .i64 (K : Int)] w fun e w' => RowTold (v * m ^ K) (N + 11 * K) w e w' := by
  have TM : Hid (∀ (wx : World) (q : Option Addr) (c : Nat) (zs : List Int) (i j : Nat) (y : Int), Lies wx q zs → Gf.Rw zs y → 0 < y → zs.length ≤ N + 11 * j → j ≤ 2000 → i ≤ 13 → Calls Tryz.prog 95 #[.slice q (List.length zs) c, .int .u64 (m ^ i)] wx fun e w' => RowTold (m ^ i * y) (N + 11 * j + 11) wx e w') :=
    fun wx q c zs i j y h1 h2 h3 h4 h5 h6 => by
      have b := pw_step m0 m1 i h6
      exact rtimes_any q c zs y (m ^ i) (N + 11 * j) wx h1 h2 h3 h4 (by omega) (by omega) (by omega)
  have PS := hid (pw_step m0 m1)
  have MP : Hid (∀ i j : Nat, j + i ≤ K → m ^ i * (v * m ^ j) = v * m ^ (j + i)) := fun i j _ => by rw [Int.pow_add, Int.mul_left_comm, Int.mul_comm (m ^ i)]
  have VP : Hid (∀ j : Nat, 0 < v * m ^ j) := fun j => Int.mul_pos hv (Int.pow_pos (by omega))
  have PSU : Hid (∀ i : Nat, m ^ i * m = m ^ (i + 1)) := fun i => (Int.pow_succ m i).symm
  have H0 : Hid (Lies w p ls ∧ Gf.Rw ls (v * m ^ (K - K)) ∧ ls.length ≤ N + 11 * (K - K) ∧ Below w.heap.size w w) := ⟨hl, by rw [Nat.sub_self, Int.pow_zero, Int.mul_one]; exact hr, by omega, Below.refl _ _⟩
  have HK := hid hK
  clear hl hr hv hN hN1
  go_enter Tryz.func68, Tryz.ntmps68
  go_wp2_with fail
  go_loopw [0, 2, 7, 8] (fun a k _ _ wr => ∃ (j : Nat) (q : Option Addr) (c : Nat) (zs : List Int), a = .slice q (List.length zs) c ∧ k = .int .i64 (j : Int) ∧ j ≤ K ∧ Hid (Lies wr q zs ∧ Gf.Rw zs (v * m ^ (K - j)) ∧ zs.length ≤ N + 11 * (K - j) ∧ Below w.heap.size w wr)) (fun _ k _ _ _ => (intOf k).toNat)
  case atStart => exact ⟨K, p, cp, ls, rfl, rfl, Nat.le_refl _, H0.out⟩
  case round =>
    clear H0
    obtain ⟨j, q, c, zs, rfl, rfl, hj, I⟩ := hrel
    have hKi : (K : Int) ≤ 2000 := by have := HK.out; omega
    rcases Nat.eq_zero_or_pos j with hj0 | hj0
    · subst hj0
      have F : Hid (RowTold (v * m ^ K) (N + 11 * K) w (.returned (.slice q (List.length zs) c)) wr) := ⟨q, c, zs, rfl, I.out.1, I.out.2.1, I.out.2.2.1, I.out.2.2.2⟩
      clear I
      go_wp2_with fail
      go_ret
      exact F.out
    · have hji : (0 : Int) < (j : Int) := by omega
      have hjK : (j : Int) ≤ (K : Int) := by omega
      obtain ⟨wq, hwq⟩ : ∃ wq, wr = wq := ⟨_, rfl⟩
      subst hwq
      go_wp2_with fail
      go_loopw [2, 7, 8] (fun k s i w2 => w2 = wr ∧ ∃ (t : Nat) (st : Int), k = .int .i64 ((j : Int) - (t : Int)) ∧ s = .int .u64 st ∧ i = .int .i64 (t : Int) ∧ t ≤ 13 ∧ t ≤ j ∧ 1 ≤ st ∧ st ≤ 1220703125 ∧ Hid (st = m ^ t)) (fun k _ _ _ => (intOf k).toNat)
      case atStart => exact ⟨rfl, 0, 1, by simp, rfl, rfl, by omega, by omega, by omega, by omega, by show _ = _; simp⟩
      case round =>
        obtain ⟨rfl, t, st, rfl, rfl, rfl, ht, htj, s0, s1, ST⟩ := hrel
        by_cases hgo : t < 13 ∧ t < j
        · have g1 : (t : Int) < 13 := by omega
          have g2 : (0 : Int) < (j : Int) - (t : Int) := by omega
          obtain ⟨y, hy⟩ : ∃ y, st * m = y := ⟨_, rfl⟩
          have yb := PS.out (t + 1) (by omega)
          have ye : y = m ^ (t + 1) := by rw [← hy, ST.out]; exact PSU.out t
          rw [← ye] at yb
          obtain ⟨y0, y1⟩ := yb
          have wy : IntKind.u64.wrap (st * m) = y := by rw [hy, IntKind.wrap_u64]; omega
          have YE := hid ye
          clear ye ST
          go_wp2_with fail
          go_roundw
          case rel => exact ⟨by first | rfl | trivial, t + 1, y, by go_num, rfl, by go_num, by omega, by omega, y0, y1, YE.out⟩
          case measure => simp [intOf]; omega
        · have tp : 0 < t := by omega
          have hst := ST.out
          have T1 := TM.out wr q c zs t (K - j) _ I.out.1 I.out.2.1 (VP.out _) I.out.2.2.1 (by omega) ht
          rw [← hst, hst, MP.out t (K - j) (by omega), ← hst] at T1
          have HT1 := hid T1
          have HB := hid I.out.2.2.2
          obtain ⟨r, hr⟩ : ∃ r : Nat, (j : Int) - (t : Int) = (r : Int) := ⟨j - t, by omega⟩
          have EK : Hid (K - j + t = K - r ∧ r < j) := ⟨by omega, by omega⟩
          rw [EK.out.1] at HT1
          rcases (show (t : Int) = 13 ∨ ((t : Int) < 13 ∧ (j : Int) - (t : Int) = 0) by omega) with hc | ⟨hc, hc2⟩
          · have hc1 : ¬ (t : Int) < 13 := by omega
            clear T1 I ST hst hgo
            go_wp2_with fail
            refine HT1.out.mono ?_
            rintro e w3 ⟨q3, c3, z3, rfl, l3, r3, n3, B3⟩
            have K3 := hid (And.intro l3 (And.intro r3 (And.intro (show z3.length ≤ N + 11 * (K - r) by have := EK.out; omega) (HB.out.trans (B3.mono HB.out.size)))))
            clear l3 r3 n3 B3 HT1
            go_wp2_with fail
            go_roundw
            case rel => exact ⟨r, q3, c3, z3, rfl, by first | rfl | rw [hr] | (congr 1; omega), by have := EK.out; omega, K3.out⟩
            case measure => have := EK.out; simp [intOf]; omega
          · clear T1 I ST hst hgo
            go_wp2_with fail
            refine HT1.out.mono ?_
            rintro e w3 ⟨q3, c3, z3, rfl, l3, r3, n3, B3⟩
            have K3 := hid (And.intro l3 (And.intro r3 (And.intro (show z3.length ≤ N + 11 * (K - r) by have := EK.out; omega) (HB.out.trans (B3.mono HB.out.size)))))
            clear l3 r3 n3 B3 HT1
            go_wp2_with fail
            go_roundw
            case rel => exact ⟨r, q3, c3, z3, rfl, by first | rfl | rw [hr] | (congr 1; omega), by have := EK.out; omega, K3.out⟩
            case measure => have := EK.out; simp [intOf]; omega
end Go.Proofs.YtbdbpjghmejfjaaGreatDoor

namespace Go.Proofs.YtbdbpjghmejfjaaGreatDoor
open Go Go.RowKit Go.Deep

set_option maxRecDepth 100000 in
set_option maxHeartbeats 2000000 in
theorem rrow_any (n : Int) (w : World) (h0 : 0 < n) (h1 : n < 9007199254740992) :
    Calls Tryz.prog 67 #[.int .u64 n] w fun e w' => RowTold n 20 w e w' := by
  have t16 : (10 : Int) ^ (16 - 0) = 10000000000000000 := by decide
  have I0 : Hid (Row64 w.heap.size w (.slice none 0 0) [] ∧ Gf.Pt [] n n ∧ Below w.heap.size w w ∧ n < 10 ^ (16 - 0)) := ⟨row_nil _ _, ⟨fun z hz => by simp at hz, by simp [Gf.gv], .inl h0⟩, Below.refl _ _, by rw [t16]; omega⟩
  clear t16
  go_enter Tryz.func67, Tryz.ntmps67
  go_wp2_with fail
  go_loopw [0, 3] (fun c a w2 => ∃ (mv : Value) (y : Int) (zs : List Int), a = mv ∧ c = .int .u64 y ∧ 0 ≤ y ∧ y < 9007199254740992 ∧ Hid (Row64 w.heap.size w2 mv zs ∧ Gf.Pt zs y n ∧ Below w.heap.size w w2 ∧ zs.length ≤ 16 ∧ y < 10 ^ (16 - zs.length))) (fun c _ _ => (intOf c).toNat)
  case atStart => exact ⟨_, n, [], rfl, rfl, by omega, h1, I0.out.1, I0.out.2.1, I0.out.2.2.1, by simp, I0.out.2.2.2⟩
  case round =>
    clear I0
    obtain ⟨mv, y, zs, hmv, rfl, hy0, hy1, I⟩ := hrel
    have hmv := hmv.symm
    subst hmv
    by_cases hz : y = 0
    · subst hz
      obtain ⟨p, cp, e, hl⟩ := row_lies I.out.1
      subst e
      have F : Hid (RowTold n 20 w (.returned (.slice p (List.length zs) cp)) wr) := ⟨p, cp, zs, rfl, hl, I.out.2.1.done, by have := I.out.2.2.2.1; omega, I.out.2.2.1⟩
      clear I hl
      go_wp2_with fail
      go_ret
      exact F.out
    · have hyp : 0 < y := by omega
      obtain ⟨i1, i2, i3, i4, i5⟩ := I.out
      have zl : zs.length < 16 := by
        rcases Nat.lt_or_ge zs.length 16 with c | c
        · exact c
        · rw [show 16 - zs.length = 0 by omega] at i5
          simp at i5
          omega
      obtain ⟨mv', w2, ap, r2, z2, b2, _⟩ := i1.push (y % 10) (by omega) i3.size
      have I2 : Hid (Row64 w.heap.size w2 mv' (zs ++ [y % 10]) ∧ Gf.Pt (zs ++ [y % 10]) (y / 10) n ∧ Below w.heap.size w w2 ∧ (zs ++ [y % 10]).length ≤ 16 ∧ y / 10 < 10 ^ (16 - (zs ++ [y % 10]).length)) := by
        refine ⟨r2, i2.step hyp, i3.trans b2, by simp; omega, ?_⟩
        rw [List.length_append, List.length_cons, List.length_nil]
        rw [show 16 - zs.length = (16 - (zs.length + 1)) + 1 by omega, Int.pow_succ] at i5
        rw [Nat.zero_add]
        generalize (10 : Int) ^ (16 - (zs.length + 1)) = q at *
        omega
      have AP := hid ap
      obtain ⟨lo, hlo⟩ : ∃ lo, y % 10 = lo := ⟨_, rfl⟩
      obtain ⟨c', hc'⟩ : ∃ c', y / 10 = c' := ⟨_, rfl⟩
      rw [hlo] at AP I2
      rw [hc'] at I2
      have c0 : 0 ≤ c' := by omega
      have c1 : c' < y := by omega
      have hlo2 : y.tmod 10 = lo := by rw [Int.tmod_eq_emod_of_nonneg hy0]; exact hlo
      have hc2 : y.tdiv 10 = c' := by rw [Int.tdiv_eq_ediv_of_nonneg hy0]; exact hc'
      clear ap I i1 i2 i3 i4 i5 zl r2 z2 b2
      go_wp2_with (at_builtin; refine wpList_append_d rfl _ _ rfl AP.out (by rfl) (by rfl) ?_; clear AP)
      go_roundw
      case rel => exact ⟨mv', c', zs ++ [lo], rfl, by first | rfl | rw [hc'], c0, by omega, I2.out⟩
      case measure => simp [intOf]; omega
end Go.Proofs.YtbdbpjghmejfjaaGreatDoor
