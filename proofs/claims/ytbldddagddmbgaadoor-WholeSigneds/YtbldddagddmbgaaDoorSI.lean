/-
  Texts put together: SPush, RefNum, SGrown, STimes, SRef1, SInN, NPush, SIn.
-/
import Derived.Test.YtbldddagddmbgaaDoorNMem
import Derived.Test.YtbldddagddmbgaaDoorMem
import Derived.Laws.AppendOwn
import Derived.Laws.OwnMore
import Derived.Test.YtbldddagddmbgaaDoorNums
import Derived.Test.YtbldddagddmbgaaDoorSmallA
import Derived.Laws.Bits64b
import Derived.Test.YtbldddagddmbgaaDoorNDigit
import Derived.Test.YtbldddagddmbgaaDoorNGroup
import Derived.Test.YtbldddagddmbgaaDoorNInBase
import Derived.Deep.CutRange
import Derived.Deep.CutBlock
import Derived.Deep.LoopGhost
import Derived.OwnWalk
namespace Go.Proofs.YtbldddagddmbgaaDoor
open Go.RowKit Go.Deep

theorem wpList_append_d {ty : TypeId} {ops : Array Oper} {rest : List Oper} {o : Oper} {a : Act} {Q : Exit → Act → World → Prop} (hgd : o.guard = none) (s x : Operand)
    (ho : o.op = .call { callee := .builtin .append, args := #[s, x], argTypes := #[ty, ty] }) {v y v' : Value} {w w' : World} (hr : (Builtin.append_ #[ty, ty] o.type #[v, y]).run Tryd.prog w = .ok v' w') (hs : a.eval s = v) (hx : a.eval x = y)
    (h : wpList Tryd.prog ops Q rest (a.put o.dst v') w') : wpList Tryd.prog ops Q (o :: rest) a w := by
  refine wpList_plain hgd fun K hK => ?_
  unfold Oper.wp execOp
  simp only [ho, resolve, invoke, builtin, Sem.run_bind, Sem.run_pure, Result.andThen_ok, List.map_toArray, List.map_cons, List.map_nil, hs, hx, hr]
  exact hK _ _ h

/-- The limbs, in a block of our own from base on. -/
def Row64 (base : Nat) (w : World) (mv : Value) (xs : List Int) : Prop := w.ownsRow base 27 1 mv xs.length (xs.map (Value.int .u64))

theorem Row64.below {base : Nat} {w w' : World} {mv : Value} {xs : List Int} (h : Row64 base w mv xs) (hb : Below w.heap.size w w') : Row64 base w' mv xs :=
  World.ownsRow.kept (row := none) h ⟨hb.os, hb.tape, hb.output, hb.size, fun j hj _ => hb.block j hj⟩ (by cases h : Value.ownBlock mv <;> simp)

theorem Row64.push {base : Nat} {w : World} {mv : Value} {xs : List Int} (ho : Row64 base w mv xs) (x : Int) (hn : xs.length < 17592186044415) (hb : base ≤ w.heap.size) :
    ∃ mv' w', (Builtin.append_ #[28, 28] 28 #[mv, .slice (some ⟨w.heap.size, 0, none⟩) 1 1]).run Tryd.prog (w.alloc (.cells #[.int .u64 x] 27)) = .ok mv' w' ∧ Row64 base w' mv' (xs ++ [x]) ∧ w.heap.size ≤ w'.heap.size ∧
      Below base w w' ∧ (∀ j, j < w.heap.size → some j ≠ mv.ownBlock → w'.heap[j]? = w.heap[j]?) := by
  obtain ⟨i, hi, hz⟩ := Option.map_eq_some_iff.1 info64
  simp only [Prod.mk.injEq] at hz
  obtain ⟨z1, z2, z3⟩ := hz
  have bm : Below w.heap.size w (w.alloc (.cells #[.int .u64 x] 27)) := (Below.refl _ _).alloc (Nat.le_refl _) _
  have hs : (w.alloc (.cells #[.int .u64 x] 27)).heap.size = w.heap.size + 1 := World.size_alloc _ _
  have ho' := World.ownsRow.alloc ho (.cells #[.int .u64 x] 27)
  have hcell : (w.alloc (.cells #[.int .u64 x] 27)).cell? ⟨w.heap.size, 0, none⟩ = some (.int .u64 x) :=
    (Own.alloc w [x]).cell 0 (by simp)
  obtain ⟨v', w', hr, h1, h2, _⟩ := run_append_own (P := Tryd.prog) (w.alloc (.cells #[.int .u64 x] 27)) base 28 28 27 i (.int .u64 0) 1 8 Tryd.underlying28 hi z1 z2 z3 rfl (by omega) mv xs.length (xs.map (Value.int .u64)) ho'
    ⟨w.heap.size, 0, none⟩ 1 1 [.int .u64 x] rfl (fun j u hu => by
      cases j with
      | zero =>
        simp at hu
        subst hu
        rw [Go.WideShapes.add_plain]
        exact hcell
      | succ j => simp at hu) (fun u hu => by simp at hu; subst hu; rfl) (by simp only [maxLen]; omega) (by omega) (by rw [hs]; omega)
  refine ⟨v', w', hr, by simpa [Row64] using h1, by have := h2.size; omega, ?_, fun j hj hne => ?_⟩
  · have hb2 : Below base (w.alloc (.cells #[.int .u64 x] 27)) w' := by
      refine ⟨h2.os, h2.tape, h2.output, h2.size, fun j hj => h2.block j (by rw [hs]; omega) ?_⟩
      intro hk
      have := (ho'.lt j hk.symm).1
      omega
    exact (bm.mono hb).trans hb2
  · rw [h2.block j (by rw [hs]; omega) hne]
    exact bm.block j hj

/-- The row's shape. -/
theorem Row64.shape {base : Nat} {w : World} {mv : Value} {xs : List Int} (h : Row64 base w mv xs) : ∃ pm cp, mv = .slice pm xs.length cp := by
  rcases h.2 with ⟨rfl, h0⟩ | ⟨g, cp, cur, rfl, _⟩
  · exact ⟨none, 0, by rw [h0]⟩
  · exact ⟨_, cp, rfl⟩

/-- Its cells. -/
theorem Row64.cells {base : Nat} {w : World} {mv : Value} {xs : List Int} (h : Row64 base w mv xs) (h0 : xs ≠ []) : ∃ g cp, mv = .slice (some ⟨g, 0, none⟩) xs.length cp ∧ ∀ i, i < xs.length → w.cell? ⟨g, 0 + i, none⟩ = some (.int .u64 (xs.getD i 0)) := by
  rcases h.2 with ⟨rfl, hn⟩ | ⟨g, cp, cur, rfl, _⟩
  · exact absurd (List.eq_nil_of_length_eq_zero hn) h0
  · refine ⟨g, cp, rfl, fun i hi => ?_⟩
    have := World.ownsRow.cells h (g := g) rfl i (.int .u64 (xs.getD i 0)) (by simp [List.getD, hi])
    rw [Go.WideShapes.add_plain] at this
    exact this

/-- A place is written. -/
theorem Row64.set {base : Nat} {w : World} {g n cap : Nat} {xs : List Int} (h : Row64 base w (.slice (some ⟨g, 0, none⟩) n cap) xs) (i : Nat) (v : Int) : Row64 base (w.setCell ⟨g, i, none⟩ (.int .u64 v)) (.slice (some ⟨g, 0, none⟩) n cap) (xs.set i v) := by
  have hl : xs.length = n := by
    obtain ⟨pm, cp, e⟩ := h.shape
    simp only [Value.slice.injEq] at e
    exact e.2.1.symm
  refine ⟨by simp, ?_⟩
  rcases h.2 with ⟨c, _⟩ | ⟨g', cap', cur, e, h1, h2, h3, h4, h5, h6⟩
  · cases c
  · simp only [Value.slice.injEq, Option.some.injEq] at e
    obtain ⟨e1, e2, e3⟩ := e
    cases e1
    subst e3
    refine .inr ⟨g, cap, cur.set! i (.int .u64 v), by rw [List.length_set, hl], h1, ?_, by rw [List.length_set]; exact h3, h4, by simpa using h5, ?_⟩
    · simp [World.setCell, Array.getElem?_modify, h2]
    · rw [List.length_set, Array.set!, Array.toList_setIfInBounds, List.take_set, h6, List.map_set]

theorem Row64.free {base : Nat} {w : World} {g n cap : Nat} {xs : List Int} (h : Row64 base w (.slice (some ⟨g, 0, none⟩) n cap) xs) (i : Nat) : w.frozen? ⟨g, i, none⟩ = false := by
  rcases h.2 with ⟨c, _⟩ | ⟨g', cap', cur, e, h1, h2, h3⟩
  · cases c
  · simp only [Value.slice.injEq, Option.some.injEq] at e
    obtain ⟨e1, e2, e3⟩ := e
    cases e1
    simp [World.frozen?, h2]
end Go.Proofs.YtbldddagddmbgaaDoor

namespace Go.Proofs.YtbldddagddmbgaaDoor
namespace Nm

def v32 : List Int → Int
  | [] => 0
  | z :: zs => z + 4294967296 * v32 zs

def p32 : Nat → Int
  | 0 => 1
  | k + 1 => 4294967296 * p32 k

def Halves (zs : List Int) : Prop := ∀ z ∈ zs, 0 ≤ z ∧ z < 4294967296

theorem p32_pos : ∀ k, 0 < p32 k
  | 0 => by decide
  | k + 1 => by have := p32_pos k; simp only [p32]; omega

theorem p32_two : ∀ k, p32 (2 * k) = pw k
  | 0 => rfl
  | k + 1 => by
    rw [show 2 * (k + 1) = 2 * k + 1 + 1 by omega]
    simp only [p32, pw, p32_two k]
    omega

theorem v32_snoc : ∀ (zs : List Int) (x : Int), v32 (zs ++ [x]) = v32 zs + p32 zs.length * x
  | [], x => by simp [v32, p32]
  | z :: zs, x => by
    simp only [List.cons_append, v32, v32_snoc zs x, List.length_cons, p32, Int.mul_add, Int.mul_assoc]
    omega

theorem take_snoc (zs : List Int) (k : Nat) (h : k < zs.length) : zs.take (k + 1) = zs.take k ++ [zs.getD k 0] := by
  rw [List.take_add_one]
  simp [List.getD, h]

theorem v32_take_succ (zs : List Int) (k : Nat) (h : k < zs.length) : v32 (zs.take (k + 1)) = v32 (zs.take k) + p32 k * zs.getD k 0 := by
  rw [take_snoc zs k h, v32_snoc, List.length_take, Nat.min_eq_left (by omega)]

theorem v32_take_of_zero : ∀ (zs : List Int) (k : Nat), (∀ j, k ≤ j → zs.getD j 0 = 0) → v32 (zs.take k) = v32 zs
  | [], k, _ => by simp
  | z :: zs, 0, h => by
    have h0 : z = 0 := by simpa using h 0 (Nat.le_refl _)
    have := v32_take_of_zero zs 0 (fun j _ => by simpa using h (j + 1) (by omega))
    simp only [List.take_zero, v32] at this ⊢
    omega
  | z :: zs, k + 1, h => by
    have := v32_take_of_zero zs k (fun j hj => by simpa using h (j + 1) (by omega))
    simp only [List.take_succ_cons, v32, this]

theorem Halves.nil : Halves [] := by intro z h; simp at h
theorem Halves.snoc {zs : List Int} (h : Halves zs) {x : Int} (h0 : 0 ≤ x) (h1 : x < 4294967296) : Halves (zs ++ [x]) := by
  intro z hz
  rcases List.mem_append.1 hz with a | a
  · exact h z a
  · obtain rfl : z = x := by simpa using a
    exact ⟨h0, h1⟩
theorem Halves.take {zs : List Int} (h : Halves zs) (k : Nat) : Halves (zs.take k) := fun z hz => h z (List.mem_of_mem_take hz)
theorem Halves.limbs {zs : List Int} (h : Halves zs) : Limbs zs := fun z hz => by have := h z hz; omega
theorem Halves.at {zs : List Int} (h : Halves zs) (i : Nat) : 0 ≤ zs.getD i 0 ∧ zs.getD i 0 < 4294967296 := by
  by_cases hi : i < zs.length
  · simp only [List.getD, List.getElem?_eq_getElem hi, Option.getD_some]
    exact h _ (List.getElem_mem hi)
  · simp [List.getD, List.getElem?_eq_none (Nat.le_of_not_lt hi)]

theorem Limbs.snoc {zs : List Int} (h : Limbs zs) {x : Int} (h0 : 0 ≤ x) (h1 : x < 18446744073709551616) : Limbs (zs ++ [x]) := h.append (Limbs.mk h0 h1 Limbs.nil)

theorem val_snoc (zs : List Int) (x : Int) : val (zs ++ [x]) = val zs + pw zs.length * x := by rw [val_append]; simp [val]

theorem p32_mono {a b : Nat} (h : a ≤ b) : p32 a ≤ p32 b := by
  obtain ⟨c, rfl⟩ := Nat.exists_eq_add_of_le h
  induction c with
  | zero => exact Int.le_refl _
  | succ c ih =>
    have := ih (by omega)
    have := p32_pos (a + c)
    rw [← Nat.add_assoc]
    simp only [p32]
    omega

theorem v32_nonneg : ∀ zs : List Int, Halves zs → 0 ≤ v32 zs
  | [], _ => by simp [v32]
  | z :: zs, h => by
    have h1 := v32_nonneg zs (fun x hx => h x (List.mem_cons_of_mem _ hx))
    have h2 := h z List.mem_cons_self
    simp only [v32]
    omega

/-- Digits up to one that is not 0 are no more than the limbs hold. -/
theorem halves_len {hs zs : List Int} {t : Nat} (hh : Halves hs) (hz : Limbs zs) (ht : t < hs.length) (h0 : hs.getD t 0 ≠ 0) (hv : v32 (hs.take (t + 1)) = val zs) : t + 1 ≤ 2 * tsize zs := by
  rcases Nat.lt_or_ge t (2 * tsize zs) with h | h
  · exact h
  · exfalso
    have h1 := val_lt_tsize hz
    rw [← hv, v32_take_succ hs t ht, ← p32_two] at h1
    have h2 := v32_nonneg _ (hh.take t)
    have h3 := p32_mono h
    have h4 := hh.at t
    have h5 := p32_pos t
    have h6 : p32 t * 1 ≤ p32 t * hs.getD t 0 := Int.mul_le_mul_of_nonneg_left (by omega) (by omega)
    omega

/-- A limb's two halves. -/
theorem halves_step {hs zs : List Int} {j : Nat} {x : Int} (hl : hs.length = 2 * j) (hj : j < zs.length) (hx : x = zs.getD j 0) (h : v32 hs = val (zs.take j)) : v32 (hs ++ [x % 4294967296] ++ [x / 4294967296]) = val (zs.take (j + 1)) := by
  rw [v32_snoc, v32_snoc, List.length_append, hl, h, val_take_succ zs j hj, ← hx, show 2 * j + [x % 4294967296].length = 2 * j + 1 from rfl]
  simp only [p32, p32_two]
  have e := Int.emod_add_mul_ediv x 4294967296
  have : pw j * x = pw j * (x % 4294967296) + 4294967296 * pw j * (x / 4294967296) := by
    conv => lhs; rw [← e]
    rw [Int.mul_add, Int.mul_left_comm, Int.mul_assoc]
  omega
end Nm
end Go.Proofs.YtbldddagddmbgaaDoor

namespace Go.Proofs.YtbldddagddmbgaaDoor
namespace Nm
theorem v32_set : ∀ (zs : List Int) (i : Nat) (s : Int), i < zs.length → v32 (zs.set i s) = v32 zs + p32 i * (s - zs.getD i 0)
  | [], _, _, h => by simp at h
  | z :: zs, 0, s, _ => by simp only [List.set_cons_zero, v32, p32, List.getD_cons_zero]; omega
  | z :: zs, i + 1, s, h => by
    have := v32_set zs i s (by simpa using h)
    simp only [List.set_cons_succ, v32, p32, List.getD_cons_succ, this, Int.mul_add, Int.mul_assoc]
    omega

theorem Halves.set {zs : List Int} (h : Halves zs) (i : Nat) {s : Int} (h0 : 0 ≤ s) (h1 : s < 4294967296) : Halves (zs.set i s) := by
  intro z hz
  rcases List.mem_or_eq_of_mem_set hz with a | rfl
  · exact h z a
  · exact ⟨h0, h1⟩

/-- No half too many. -/
def Tight (hs : List Int) : Prop := hs = [] ∨ p32 (hs.length - 1) ≤ v32 hs

theorem grow_step {p h m c lo c' T U X : Int} (he : lo + 4294967296 * c' = h * m + c) (hI : X + p * c = m * T + U) : X + p * (lo - h) + p * 4294967296 * c' = m * (T + p * h) + (U - p * h) := by
  have e1 : p * lo + p * (4294967296 * c') = p * (h * m) + p * c := by rw [← Int.mul_add, ← Int.mul_add, he]
  have e2 : p * (h * m) = m * (p * h) := by rw [← Int.mul_assoc, Int.mul_comm]
  rw [Int.mul_sub, Int.mul_add, Int.mul_assoc]
  omega
end Nm
open Go.RowKit Go.Deep

theorem r_mask32 (x : Int) (h0 : 0 ≤ x) (h1 : x < 18446744073709551616) : bits .and .u64 x 4294967295 = x % 4294967296 := by
  obtain ⟨n, rfl⟩ := Int.eq_ofNat_of_zero_le h0
  have h := bits_and_u64_nat n 4294967295 (by omega) (by omega)
  have e : n &&& 4294967295 = n % 4294967296 := Nat.and_two_pow_sub_one_eq_mod n 32
  rw [e] at h
  rw [show (4294967295 : Int) = ((4294967295 : Nat) : Int) from rfl, h]
  omega


/-- What grown tells. -/
def GrownTold (base : Nat) (hs : List Int) (m c : Int) (w : World) (e : Ending) (w' : World) : Prop :=
  ∃ mv hs', e = .returned mv ∧ Row64 base w' mv hs' ∧ Nm.Halves hs' ∧ Nm.v32 hs' = m * Nm.v32 hs + c ∧ hs'.length ≤ hs.length + 1 ∧ (Nm.Tight hs → Nm.Tight hs') ∧ Below base w w'

def GInv (base : Nat) (hs os : List Int) (m c0 c : Int) (i : Nat) (mv : Value) (w wr : World) : Prop :=
  Row64 base wr mv os ∧ os.length = hs.length ∧ Nm.Halves os ∧ (∀ j, i ≤ j → os.getD j 0 = hs.getD j 0) ∧ Nm.v32 os + Nm.p32 i * c = m * Nm.v32 (hs.take i) + (Nm.v32 hs - Nm.v32 (hs.take i) + c0) ∧ Below base w wr

theorem GInv.step {base : Nat} {hs os : List Int} {m c0 c : Int} {i g n cap : Nat} {w wr : World} (I : GInv base hs os m c0 c i (.slice (some ⟨g, 0, none⟩) n cap) w wr) (hi : i < hs.length) {lo c' : Int} (he : lo + 4294967296 * c' = hs.getD i 0 * m + c) (h0 : 0 ≤ lo) (h1 : lo < 4294967296) (hb : base ≤ g) :
    GInv base hs (os.set i lo) m c0 c' (i + 1) (.slice (some ⟨g, 0, none⟩) n cap) w (wr.setCell ⟨g, i, none⟩ (.int .u64 lo)) := by
  obtain ⟨i1, i2, i3, i4, i5, i6⟩ := I
  refine ⟨i1.set i lo, by simpa using i2, i3.set i h0 h1, fun j hj => ?_, ?_, i6.trans ⟨rfl, rfl, rfl, by simp [World.setCell], fun j hj => ?_⟩⟩
  · rw [← i4 j (by omega)]
    simp [List.getD, show ¬ i = j by omega]
  · rw [Nm.v32_set os i lo (by omega), i4 i (Nat.le_refl _), Nm.v32_take_succ hs i hi]
    have := Nm.grow_step he i5
    rw [Nm.p32]
    generalize Nm.p32 i = p at *
    rw [show 4294967296 * p * c' = p * 4294967296 * c' by rw [Int.mul_comm 4294967296 p]]
    omega
  · simp only [World.setCell, Array.getElem?_modify]
    rw [if_neg (by omega)]

end Go.Proofs.YtbldddagddmbgaaDoor

namespace Go.Proofs.YtbldddagddmbgaaDoor
namespace Gn
/-- The number of a row of digits, lowest first. -/
def gv (B : Int) : List Int → Int
  | [] => 0
  | z :: zs => z + B * gv B zs

def pb (B : Int) : Nat → Int
  | 0 => 1
  | k + 1 => B * pb B k

def Digs (B : Int) (zs : List Int) : Prop := ∀ z ∈ zs, 0 ≤ z ∧ z < B

theorem gv_snoc (B : Int) : ∀ (zs : List Int) (x : Int), gv B (zs ++ [x]) = gv B zs + pb B zs.length * x
  | [], x => by simp [gv, pb]
  | z :: zs, x => by
    simp only [List.cons_append, gv, gv_snoc B zs x, List.length_cons, pb, Int.mul_add, Int.mul_assoc]
    omega

theorem gv_take_succ (B : Int) (zs : List Int) (k : Nat) (h : k < zs.length) : gv B (zs.take (k + 1)) = gv B (zs.take k) + pb B k * zs.getD k 0 := by
  rw [Nm.take_snoc zs k h, gv_snoc, List.length_take, Nat.min_eq_left (by omega)]

theorem gv_set (B : Int) : ∀ (zs : List Int) (i : Nat) (s : Int), i < zs.length → gv B (zs.set i s) = gv B zs + pb B i * (s - zs.getD i 0)
  | [], _, _, h => by simp at h
  | z :: zs, 0, s, _ => by simp only [List.set_cons_zero, gv, pb, List.getD_cons_zero]; omega
  | z :: zs, i + 1, s, h => by
    have := gv_set B zs i s (by simpa using h)
    simp only [List.set_cons_succ, gv, pb, List.getD_cons_succ, this, Int.mul_add, Int.mul_assoc]
    omega

theorem Digs.set {B : Int} {zs : List Int} (h : Digs B zs) (i : Nat) {s : Int} (h0 : 0 ≤ s) (h1 : s < B) : Digs B (zs.set i s) := by
  intro z hz
  rcases List.mem_or_eq_of_mem_set hz with a | rfl
  · exact h z a
  · exact ⟨h0, h1⟩

theorem Digs.snoc {B : Int} {zs : List Int} (h : Digs B zs) {s : Int} (h0 : 0 ≤ s) (h1 : s < B) : Digs B (zs ++ [s]) := by
  intro z hz
  rcases List.mem_append.1 hz with a | a
  · exact h z a
  · simp at a
    subst a
    exact ⟨h0, h1⟩

theorem Digs.at {B : Int} {zs : List Int} (h : Digs B zs) (hB : 0 < B) (i : Nat) : 0 ≤ zs.getD i 0 ∧ zs.getD i 0 < B := by
  by_cases hi : i < zs.length
  · have : zs.getD i 0 = zs[i] := by simp [List.getD, hi]
    rw [this]
    exact h _ (List.getElem_mem hi)
  · simp [List.getD, List.getElem?_eq_none (Nat.le_of_not_lt hi), hB]

theorem grow_step {B p h m c lo c' T U X : Int} (he : lo + B * c' = h * m + c) (hI : X + p * c = m * T + U) : X + p * (lo - h) + p * B * c' = m * (T + p * h) + (U - p * h) := by
  have e1 : p * lo + p * (B * c') = p * (h * m) + p * c := by rw [← Int.mul_add, ← Int.mul_add, he]
  have e2 : p * (h * m) = m * (p * h) := by rw [← Int.mul_assoc, Int.mul_comm]
  rw [Int.mul_sub, Int.mul_add, Int.mul_assoc]
  omega
end Gn
open Go.RowKit Go.Deep

/-- What times tells. -/
def TimesTold (base : Nat) (B : Int) (gs : List Int) (c : Int) (w : World) (e : Ending) (w' : World) : Prop :=
  ∃ mv gs', e = .returned mv ∧ Row64 base w' mv gs' ∧ Gn.Digs B gs' ∧ Gn.gv B gs' = 4294967296 * Gn.gv B gs + c ∧ gs'.length ≤ gs.length + 2 ∧ Below base w w'

def TInv (base : Nat) (B : Int) (hs os : List Int) (c0 c : Int) (i : Nat) (mv : Value) (w wr : World) : Prop :=
  Row64 base wr mv os ∧ os.length = hs.length ∧ Gn.Digs B os ∧ (∀ j, i ≤ j → os.getD j 0 = hs.getD j 0) ∧ Gn.gv B os + Gn.pb B i * c = 4294967296 * Gn.gv B (hs.take i) + (Gn.gv B hs - Gn.gv B (hs.take i) + c0) ∧ Below base w wr

theorem TInv.step {base : Nat} {B : Int} {hs os : List Int} {c0 c : Int} {i g n cap : Nat} {w wr : World} (I : TInv base B hs os c0 c i (.slice (some ⟨g, 0, none⟩) n cap) w wr) (hi : i < hs.length) {lo c' : Int} (he : lo + B * c' = hs.getD i 0 * 4294967296 + c) (h0 : 0 ≤ lo) (h1 : lo < B) (hb : base ≤ g) :
    TInv base B hs (os.set i lo) c0 c' (i + 1) (.slice (some ⟨g, 0, none⟩) n cap) w (wr.setCell ⟨g, i, none⟩ (.int .u64 lo)) := by
  obtain ⟨i1, i2, i3, i4, i5, i6⟩ := I
  refine ⟨i1.set i lo, by simpa using i2, i3.set i h0 h1, fun j hj => ?_, ?_, i6.trans ⟨rfl, rfl, rfl, by simp [World.setCell], fun j hj => ?_⟩⟩
  · rw [← i4 j (by omega)]
    simp [List.getD, show ¬ i = j by omega]
  · rw [Gn.gv_set B os i lo (by omega), i4 i (Nat.le_refl _), Gn.gv_take_succ B hs i hi]
    have := Gn.grow_step he i5
    rw [Gn.pb]
    generalize Gn.pb B i = p at *
    rw [show B * p * c' = p * B * c' by rw [Int.mul_comm B p]]
    omega
  · simp only [World.setCell, Array.getElem?_modify]
    rw [if_neg (by omega)]

def UInv (base : Nat) (B : Int) (hs os : List Int) (c0 c : Int) (mv : Value) (w wr : World) : Prop :=
  Row64 base wr mv os ∧ Gn.Digs B os ∧ Gn.gv B os + Gn.pb B os.length * c = 4294967296 * Gn.gv B hs + c0 ∧ Below base w wr ∧ (os.length = hs.length ∧ c < 4294967296 ∨ os.length = hs.length + 1 ∧ c < 65536 ∨ os.length = hs.length + 2 ∧ c ≤ 0)

theorem UInv.step {base : Nat} {B : Int} {hs os : List Int} {c0 c : Int} {mv : Value} {w wr : World} (I : UInv base B hs os c0 c mv w wr) (hB : 65536 ≤ B) (hl : hs.length ≤ 1000000) (hc : 0 < c) (hb : base ≤ w.heap.size) :
    ∃ mv' w', (Builtin.append_ #[28, 28] 28 #[mv, .slice (some ⟨wr.heap.size, 0, none⟩) 1 1]).run Tryd.prog (wr.alloc (.cells #[.int .u64 (c % B)] 27)) = .ok mv' w' ∧ UInv base B hs (os ++ [c % B]) c0 (c / B) mv' w w' := by
  obtain ⟨i1, i2, i3, i4, i5⟩ := I
  obtain ⟨mv', w2, ap, r2, z2, b2, _⟩ := i1.push (c % B) (by omega) (by have := i4.size; omega)
  refine ⟨mv', w2, ap, r2, i2.snoc (Int.emod_nonneg _ (by omega)) (Int.emod_lt_of_pos _ (by omega)), ?_, i4.trans b2, ?_⟩
  · rw [Gn.gv_snoc, List.length_append, List.length_cons, List.length_nil, Nat.zero_add, Gn.pb, ← i3]
    have e := Int.emod_add_mul_ediv c B
    generalize Gn.pb B os.length = q
    rw [Int.mul_comm B q, Int.mul_assoc, Int.add_assoc, ← Int.mul_add, e]
  · have h1 : c < 4294967296 → c / B < 65536 := fun h => Int.ediv_lt_of_lt_mul (by omega) (by omega)
    have h2 : c < 65536 → c / B < 1 := fun h => Int.ediv_lt_of_lt_mul (by omega) (by omega)
    rw [List.length_append, List.length_cons, List.length_nil]
    omega

set_option maxRecDepth 100000 in
set_option maxHeartbeats 2000000 in
theorem times_any (base : Nat) (mv : Value) (hs : List Int) (B c : Int) (w : World) (hr : Row64 base w mv hs) (hh : Gn.Digs B hs) (hl : hs.length ≤ 1000000) (hm0 : 65536 ≤ B) (hm1 : B < 2147483648) (hc0 : 0 ≤ c) (hc1 : c < 4294967296) (hb : base ≤ w.heap.size) :
    Calls Tryd.prog 62 #[mv, .int .u64 c, .int .u64 B] w fun e w' => TimesTold base B hs c w e w' := by
  obtain ⟨pm, cp, hmv⟩ := hr.shape
  subst hmv
  obtain ⟨n, HN⟩ : ∃ n, Hid (hs.length = n) := ⟨_, rfl⟩
  rw [HN.out] at hr ⊢
  have hn : (n : Int) ≤ 1000000 := by have := HN.out; omega
  have I0 : Hid (TInv base B hs hs c c 0 (.slice pm n cp) w w) := ⟨hr, rfl, hh, fun _ _ => rfl, by simp [Gn.gv, Gn.pb], Below.refl _ _⟩
  have HH := hid hh
  have HB := hid hb
  have GB : Hid (0 < n → ∃ g, pm = some ⟨g, 0, none⟩ ∧ base ≤ g) := fun h => by
    rcases hr.2 with ⟨e, _⟩ | ⟨g, cap, cur, e, h1, _⟩
    · simp only [Value.slice.injEq] at e
      omega
    · simp only [Value.slice.injEq] at e
      exact ⟨g, e.1, h1⟩
  obtain ⟨cc, HCC⟩ : ∃ cc, Hid (c = cc) := ⟨_, rfl⟩
  rw [HCC.out] at I0
  have hcc0 : 0 ≤ cc := by have := HCC.out; omega
  have hcc1 : cc < 4294967296 := by have := HCC.out; omega
  rw [HCC.out]
  clear hr hh hb hc0 hc1 hl HCC
  have hB0 : B ≠ 0 := by omega
  go_enter Tryd.func62, Tryd.ntmps62
  go_wp2_with fail
  go_loopw [1, 7, 8] (fun a i _ wr => ∃ (j : Nat) (x : Int) (os : List Int), a = .int .u64 x ∧ i = .int .i64 (j : Int) ∧ j ≤ n ∧ 0 ≤ x ∧ x < 4294967296 ∧ Hid (TInv base B hs os cc x j (.slice pm n cp) w wr)) (fun _ i _ _ => n - (intOf i).toNat)
  case atStart => exact ⟨0, cc, hs, rfl, rfl, Nat.zero_le _, hcc0, hcc1, I0.out⟩
  case round =>
    clear I0
    obtain ⟨j, x, os, rfl, rfl, hj, hx0, hx1, I⟩ := hrel
    by_cases hlt : j < n
    · have hji : (j : Int) < (n : Int) := by omega
      obtain ⟨g, hg, hbg⟩ := GB.out (by omega)
      subst hg
      obtain ⟨h, hH⟩ : ∃ h, Hid (hs.getD j 0 = h) := ⟨_, rfl⟩
      have hcell : wr.cell? ⟨g, j, none⟩ = some (.int .u64 h) := by
        obtain ⟨g', cp', e, cs⟩ := I.out.1.cells (fun c => by have h1 := I.out.2.1; rw [c] at h1; have := HN.out; simp at h1; omega)
        simp only [Value.slice.injEq, Option.some.injEq] at e
        obtain ⟨e1, _, _⟩ := e
        cases e1
        have := cs j (by have := I.out.2.1; have := HN.out; omega)
        rw [Nat.zero_add, I.out.2.2.2.1 j (Nat.le_refl _), hH.out] at this
        exact this
      have hfr := I.out.1.free j
      have hhb := HH.out.at (by omega) j
      rw [hH.out] at hhb
      obtain ⟨h0, h1⟩ := hhb
      obtain ⟨p, hp, P⟩ : ∃ p, IntKind.u64.wrap (h * 4294967296) = p ∧ Hid (p = h * 4294967296) := ⟨_, by rw [IntKind.wrap_u64, Int.emod_eq_of_lt (by omega) (by omega)], rfl⟩
      have p0 : 0 ≤ p := by have := P.out; omega
      have p1 : p < 9223372036854775808 := by have := P.out; omega
      obtain ⟨t, ht, T⟩ : ∃ t, IntKind.u64.wrap (p + x) = t ∧ Hid (t = p + x) := ⟨_, by rw [IntKind.wrap_u64, Int.emod_eq_of_lt (by omega) (by omega)], rfl⟩
      have t0 : 0 ≤ t := by have := T.out; omega
      obtain ⟨lo, hlo⟩ : ∃ lo, t % B = lo := ⟨_, rfl⟩
      obtain ⟨c', hc'⟩ : ∃ c', t / B = c' := ⟨_, rfl⟩
      have l0 : 0 ≤ lo := by rw [← hlo]; exact Int.emod_nonneg _ hB0
      have l1 : lo < B := by rw [← hlo]; exact Int.emod_lt_of_pos _ (by omega)
      have c0 : 0 ≤ c' := by rw [← hc']; exact Int.ediv_nonneg t0 (by omega)
      have c1 : c' < 4294967296 := by
        rw [← hc']
        refine Int.ediv_lt_of_lt_mul (by omega) ?_
        have := P.out
        have := T.out
        omega
      have e : lo + B * c' = h * 4294967296 + x := by
        have := Int.emod_add_mul_ediv t B
        rw [hlo, hc'] at this
        have := P.out
        have := T.out
        omega
      have hlo2 : t.tmod B = lo := by rw [Int.tmod_eq_emod_of_nonneg t0]; exact hlo
      have hc2 : t.tdiv B = c' := by rw [Int.tdiv_eq_ediv_of_nonneg t0]; exact hc'
      have ST : Hid (TInv base B hs (os.set j lo) cc c' (j + 1) (.slice (some ⟨g, 0, none⟩) n cp) w (wr.setCell ⟨g, j, none⟩ (.int .u64 lo))) := I.out.step (by have := HN.out; omega) (by rw [hH.out]; omega) l0 l1 hbg
      clear I e
      go_wp2_with fail
      go_roundw
      case rel => exact ⟨j + 1, c', _, by first | rfl | rw [hc'], by go_num, by omega, c0, c1, ST.out⟩
      case measure => simp [intOf]; omega
    · obtain rfl : j = n := by omega
      obtain ⟨i1, i2, i3, i4, i5, i6⟩ := I.out
      rw [List.take_of_length_le (by have := HN.out; omega), show Gn.gv B hs - Gn.gv B hs + cc = cc by omega] at i5
      have U0 : Hid (UInv base B hs os cc x (.slice pm j cp) w wr) := ⟨i1, i3, by rw [i2, HN.out]; exact i5, i6, .inl ⟨i2, hx1⟩⟩
      clear I i1 i2 i3 i4 i5 i6
      go_wp2_with fail
      go_loopw [0, 1] (fun a c w2 => ∃ (mv2 : Value) (y : Int) (os2 : List Int), a = mv2 ∧ c = .int .u64 y ∧ 0 ≤ y ∧ y < 4294967296 ∧ Hid (UInv base B hs os2 cc y mv2 w w2)) (fun _ c _ => (intOf c).toNat)
      case atStart => exact ⟨_, x, os, rfl, rfl, hx0, hx1, U0.out⟩
      case round =>
        clear U0
        obtain ⟨mv2, y, os2, hmv, rfl, hy0, hy1, I⟩ := hrel
        have hmv := hmv.symm
        subst hmv
        by_cases hz : y = 0
        · subst hz
          obtain ⟨i1, i2, i3, i4, i5⟩ := I.out
          have F : Hid (TimesTold base B hs cc w (.returned mv2) wr) := ⟨_, os2, rfl, i1, i2, by rw [Int.mul_zero, Int.add_zero] at i3; exact i3, by omega, i4⟩
          clear I i1 i2 i3 i4 i5
          go_wp2_with fail
          go_ret
          exact F.out
        · have hyp : 0 < y := by omega
          obtain ⟨mv', w2, ap, I2⟩ := I.out.step hm0 (by have := HN.out; omega) hyp HB.out
          obtain ⟨lo, hlo⟩ : ∃ lo, y % B = lo := ⟨_, rfl⟩
          obtain ⟨c', hc'⟩ : ∃ c', y / B = c' := ⟨_, rfl⟩
          rw [hlo] at ap I2
          rw [hc'] at I2
          have c0 : 0 ≤ c' := by rw [← hc']; exact Int.ediv_nonneg hy0 (by omega)
          have c1 : c' < y := by rw [← hc']; exact Int.ediv_lt_self_of_pos_of_ne_one hyp (by omega)
          have hlo2 : y.tmod B = lo := by rw [Int.tmod_eq_emod_of_nonneg hy0]; exact hlo
          have hc2 : y.tdiv B = c' := by rw [Int.tdiv_eq_ediv_of_nonneg hy0]; exact hc'
          have AP := hid ap
          have I3 := hid I2
          clear ap I2 I
          go_wp2_with (at_builtin; refine wpList_append_d rfl _ _ rfl AP.out (by rfl) (by rfl) ?_; clear AP)
          go_roundw
          case rel => exact ⟨mv', c', os2 ++ [lo], rfl, by first | rfl | rw [hc'], c0, by omega, I3.out⟩
          case measure => simp [intOf]; omega
end Go.Proofs.YtbldddagddmbgaaDoor

namespace Go.Proofs.YtbldddagddmbgaaDoor
open Go.RowKit Go.Deep

/-- The number of limbs, as the statements count it. -/
theorem slimbs_any (p : Option Addr) (n cap : Nat) (zs : List Int) (w : World) (hn : zs.length = n) (hm : n ≤ 140737488355328) (h : Lies w p zs) :
    Calls Tryd.prog 60 #[.slice p n cap] w fun e w' => e = .returned (.int .i64 (Nm.tsize zs)) ∧ w' = w := by
  rcases h with rfl | ⟨b, off, rfl, hcell⟩
  · have hn0 : n = 0 := by simpa using hn.symm
    subst hn0
    go_enter Tryd.func60, Tryd.ntmps60
    go_wp2
    refine wp_loop_rounds 1 ?_
    rw [rounds_succ]
    go_wp2
    go_ret
    exact ⟨rfl, rfl⟩
  · have H : Hid (zs.length = n) := hn
    have HC : Hid (∀ i, i < zs.length → w.cell? ⟨b, off + i, none⟩ = some (.int .u64 (zs.getD i 0))) := hcell
    clear hn hcell
    go_enter Tryd.func60, Tryd.ntmps60
    go_wp2
    go_loop [3] (fun t => ∃ k : Nat, k ≤ n ∧ t = .int .i64 k ∧ Hid (∀ j, k ≤ j → zs.getD j 0 = 0)) (fun t => (intOf t).toNat)
    case atStart => exact ⟨n, Nat.le_refl _, rfl, fun j hj => by simp [List.getD, List.getElem?_eq_none (show zs.length ≤ j by have := H.out; omega)]⟩
    case round =>
      obtain ⟨k, hk, rfl, hz⟩ := hrel
      by_cases h0 : k = 0
      · subst h0
        go_wp2
        go_ret
        exact ⟨by rw [Nm.tsize_unique zs 0 hz.out (.inl rfl)]; rfl, rfl⟩
      · obtain ⟨j, rfl⟩ : ∃ j, k = j + 1 := ⟨k - 1, by omega⟩
        obtain ⟨x, hx, X⟩ : ∃ x, w.cell? ⟨b, off + j, none⟩ = some (.int .u64 x) ∧ Hid (x = zs.getD j 0) := ⟨_, HC.out j (by have := H.out; omega), rfl⟩
        by_cases hx0 : x = 0
        · subst hx0
          go_wp2
          go_round
          case rel =>
            refine ⟨j, by omega, rfl, fun i hi => ?_⟩
            by_cases e : i = j
            · subst e; exact X.out.symm
            · exact hz.out i (by omega)
          case measure => simp [intOf]
        · go_wp2
          go_ret
          exact ⟨by rw [Nm.tsize_unique zs (j + 1) hz.out (.inr (by rw [Nat.add_sub_cancel, ← X.out]; exact hx0))]; rfl, rfl⟩

def vv (x : Int) : Int := if 48 ≤ x ∧ x ≤ 57 then x - 48 else if 97 ≤ x ∧ x ≤ 122 then x - 97 + 10 else if 65 ≤ x ∧ x ≤ 90 then x - 65 + 10 else 99

theorem vv_wv (x B : Int) (h36 : B ≤ 36) : (vv x < B ↔ wv x < B) ∧ 0 ≤ vv x ∧ vv x ≤ 99 := by
  unfold vv wv
  split
  · omega
  · split
    · omega
    · split <;> omega

theorem retV64 {a b : Int} (h : a = b) : Ending.returned (.int .i64 a) = .returned (.int .i64 b) := by rw [h]

/-- The byte of a digit. -/
def dgt (v : Int) (up : Bool) : Int := if v < 10 then 48 + v else if up then 65 + v - 10 else 97 + v - 10

theorem ret_u8 {a b : Int} (h : a = b) : Ending.returned (.int .u8 a) = .returned (.int .u8 b) := by rw [h]

set_option maxRecDepth 100000 in
theorem sdigit_any (v : Int) (up : Bool) (w : World) (h0 : 0 ≤ v) (h1 : v < 36) : Calls Tryd.prog 63 #[.int .i64 v, .bool up] w fun e w' => e = .returned (.int .u8 (dgt v up)) ∧ w' = w := by
  by_cases h : v < 10
  · have E : Hid (48 + v = dgt v up) := by show _ = _; rw [dgt, if_pos h]
    go_enter Tryd.func63, Tryd.ntmps63
    go_wp2
    go_ret
    exact ⟨ret_u8 E.out, rfl⟩
  · cases up with
    | true =>
      have E : Hid (65 + v - 10 = dgt v true) := by show _ = _; rw [dgt, if_neg h]; rfl
      have h2 : 10 ≤ v := by omega
      clear h
      go_enter Tryd.func63, Tryd.ntmps63
      go_wp2
      go_ret
      exact ⟨ret_u8 E.out, rfl⟩
    | false =>
      have E : Hid (97 + v - 10 = dgt v false) := by show _ = _; rw [dgt, if_neg h]; rfl
      have h2 : 10 ≤ v := by omega
      clear h
      go_enter Tryd.func63, Tryd.ntmps63
      go_wp2
      go_ret
      exact ⟨ret_u8 E.out, rfl⟩

set_option maxRecDepth 100000 in
set_option maxHeartbeats 1000000 in
theorem sgroup_any (B : Int) (w : World) (h2 : 2 ≤ B) (h36 : B ≤ 36) :
    Calls Tryd.prog 61 #[.int .i64 B] w fun e w' => (∃ (k : Nat) (P : Int), e = .returned (.tuple #[.int .i64 (k : Int), .int .u64 P]) ∧ P = B ^ k ∧ k ≤ 30 ∧ 1 ≤ P ∧ P < 2147483648 ∧ 2147483648 ≤ P * B) ∧ w' = w := by
  go_enter Tryd.func61, Tryd.ntmps61
  go_wp2_with fail
  go_loop [4, 5] (fun c p => ∃ (P : Int) (k : Nat), p = .int .u64 P ∧ c = .int .i64 (k : Int) ∧ 1 ≤ P ∧ P < 2147483648 ∧ Hid (P = B ^ k ∧ k ≤ 30)) (fun c _ => 31 - (intOf c).toNat)
  case atStart => exact ⟨1, 0, rfl, rfl, by omega, by omega, by rw [Int.pow_zero], by omega⟩
  case round =>
    obtain ⟨P, k, rfl, rfl, hP1, hP2, F⟩ := hrel
    have hk : (k : Int) ≤ 30 := by have := F.out.2; omega
    have hm0 : P * 1 ≤ P * B := Int.mul_le_mul_of_nonneg_left (by omega) (by omega)
    have hm1 : P * B ≤ P * 36 := Int.mul_le_mul_of_nonneg_left h36 (by omega)
    obtain ⟨Q, hQ⟩ : ∃ Q, P * B = Q := ⟨_, rfl⟩
    have q1 : IntKind.u64.wrap (P * B) = Q := by rw [hQ, IntKind.wrap_u64]; omega
    have hq0 : 1 ≤ Q := by omega
    have hq1 : Q < 18446744073709551616 := by omega
    have HQ := hid hQ
    clear hm0 hm1 hQ
    by_cases hlt : Q < 2147483648
    · have K2 : Hid (Q = B ^ (k + 1) ∧ k + 1 ≤ 30) := by
        have e : Q = B ^ (k + 1) := by rw [Int.pow_succ, ← F.out.1, HQ.out]
        refine ⟨e, ?_⟩
        have := Ln.small (A := B ^ (k + 1)) (L := 31) h2 (Int.le_refl _) (by rw [← e, show (2 : Int) ^ 31 = 2147483648 by decide]; exact hlt)
        omega
      go_wp2_with fail
      go_round
      case rel => exact ⟨Q, k + 1, rfl, by go_num, hq0, hlt, K2.out⟩
      case measure => simp [intOf]; have := F.out.2; omega
    · go_wp2_with fail
      go_ret2
      exact ⟨⟨k, P, rfl, F.out.1, F.out.2, hP1, hP2, by rw [HQ.out]; omega⟩, rfl⟩
end Go.Proofs.YtbldddagddmbgaaDoor

namespace Go.Proofs.YtbldddagddmbgaaDoor
open Go.RowKit Go.Deep
namespace Gn

theorem pb_pow (B : Int) : ∀ n, pb B n = B ^ n
  | 0 => by simp [pb]
  | n + 1 => by
    have : pb B (n + 1) = B * pb B n := by first | rfl | (simp only [pb]; omega)
    rw [this, pb_pow B n, Int.pow_succ, Int.mul_comm]
theorem gv_lt {B : Int} (hB : 0 < B) : ∀ (zs : List Int), Digs B zs → 0 ≤ gv B zs ∧ gv B zs < B ^ zs.length
  | [], _ => by simp [gv]
  | z :: zs, h => by
    have hz := h z (by simp)
    have ih := gv_lt hB zs (fun y hy => h y (by simp [hy]))
    have e : gv B (z :: zs) = z + B * gv B zs := by first | rfl | (simp only [gv]; omega)
    rw [e, List.length_cons, Int.pow_succ]
    have m1 : 0 ≤ B * gv B zs := Int.mul_nonneg (by omega) ih.1
    have m2 : B * (gv B zs + 1) ≤ B * B ^ zs.length := Int.mul_le_mul_of_nonneg_left (by omega) (by omega)
    rw [Int.mul_add] at m2
    rw [Int.mul_comm (B ^ zs.length) B]
    omega
theorem gv_at {B : Int} (hB : 0 < B) : ∀ (zs : List Int) (i : Nat), Digs B zs → i < zs.length → gv B zs / B ^ i % B = zs.getD i 0
  | [], i, _, hi => by simp at hi
  | z :: zs, 0, h, _ => by
    have hz := h z (by simp)
    have e : gv B (z :: zs) = z + B * gv B zs := by first | rfl | (simp only [gv]; omega)
    rw [e, Int.pow_zero, Int.ediv_one, Int.add_mul_emod_self_left, Int.emod_eq_of_lt hz.1 hz.2]
    rfl
  | z :: zs, i + 1, h, hi => by
    have hz := h z (by simp)
    have e : gv B (z :: zs) = z + B * gv B zs := by first | rfl | (simp only [gv]; omega)
    have ih := gv_at hB zs i (fun y hy => h y (by simp [hy])) (by simpa using hi)
    have p : (z + B * gv B zs) / B ^ (i + 1) = gv B zs / B ^ i := by
      rw [Int.pow_succ, Int.mul_comm (B ^ i) B, ← Int.ediv_ediv_of_nonneg (by omega), Int.add_mul_ediv_left _ _ (by omega), Int.ediv_eq_zero_of_lt hz.1 hz.2, Int.zero_add]
    rw [e, p, ih]
    rfl
/-- A digit of a group is a digit of the number. -/
theorem mod_div {B : Int} (hB : 0 < B) (X : Int) (m : Nat) : ∀ j : Nat, X % B ^ (j + m) / B ^ j = X / B ^ j % B ^ m
  | 0 => by simp
  | j + 1 => by
    have e := Dn.split_mod hB (j + m) X
    have ih := mod_div hB (X / B) m j
    have q : X % B ^ (j + 1 + m) / B ^ (j + 1) = X % B ^ (j + m + 1) / B / B ^ j := by
      rw [show j + 1 + m = j + m + 1 by omega, Int.pow_succ B j, Int.mul_comm (B ^ j) B, ← Int.ediv_ediv_of_nonneg (by omega)]
    rw [q, e.2.1, ih]
    rw [Int.pow_succ, Int.mul_comm (B ^ j) B, ← Int.ediv_ediv_of_nonneg (by omega)]
theorem dig_at {B P : Int} {k : Nat} (hB : 0 < B) (hP : P = B ^ k) (zs : List Int) (h : Digs P zs) (i j : Nat) (hi : i < zs.length) (hj : j < k) : zs.getD i 0 / B ^ j % B = gv P zs / B ^ (i * k + j) % B := by
  have p0 : 0 < P := by rw [hP]; exact Int.pow_pos hB
  rw [← gv_at p0 zs i h hi]
  obtain ⟨r, hr⟩ : ∃ r, k = j + (r + 1) := ⟨k - j - 1, by omega⟩
  have e1 : gv P zs / P ^ i % P / B ^ j = gv P zs / P ^ i / B ^ j % B ^ (r + 1) := by
    conv => lhs; rw [show (gv P zs / P ^ i % P) = gv P zs / P ^ i % B ^ (j + (r + 1)) by rw [hP, ← hr]]
    exact mod_div hB _ _ _
  rw [e1, Int.emod_emod_of_dvd _ (by rw [Int.pow_succ]; exact Int.dvd_mul_left _ _)]
  have e2 : gv P zs / P ^ i / B ^ j = gv P zs / B ^ (i * k + j) := by
    rw [Int.ediv_ediv_of_nonneg (Int.le_of_lt (Int.pow_pos p0)), Int.pow_add, hP, ← Int.pow_mul, Nat.mul_comm k i]
  rw [e2]

/-- The letters of the low digits, lowest first. -/
def bk (B V : Int) (up : Bool) : Nat → List Int
  | 0 => []
  | t + 1 => bk B V up t ++ [dgt (V / B ^ t % B) up]
theorem bk_len (B V : Int) (up : Bool) : ∀ t, (bk B V up t).length = t
  | 0 => rfl
  | t + 1 => by rw [bk, List.length_append, bk_len B V up t]; rfl
theorem bk_at (B V : Int) (up : Bool) : ∀ t s, s < t → (bk B V up t).getD s 0 = dgt (V / B ^ s % B) up
  | 0, s, h => by omega
  | t + 1, s, h => by
    rw [bk, List.getD_eq_getElem?_getD]
    rcases Nat.lt_or_ge s t with q | q
    · rw [List.getElem?_append_left (by rw [bk_len]; exact q), ← List.getD_eq_getElem?_getD, bk_at B V up t s q]
    · have : s = t := by omega
      subst this
      rw [List.getElem?_append_right (by rw [bk_len]; omega), bk_len, Nat.sub_self]
      rfl
theorem dg_next {B : Int} (hB : 0 < B) (n : Nat) (V : Int) : Dn.dg B (n + 1) V = V / B ^ n % B :: Dn.dg B n V := by
  rw [Dn.dg_head hB, Dn.dg_mod hB]
theorem bk_rev {B : Int} (hB : 0 < B) (V : Int) (up : Bool) : ∀ t, (bk B V up t).reverse = (Dn.dg B t V).map (fun d => dgt d up)
  | 0 => rfl
  | t + 1 => by rw [bk, List.reverse_append, bk_rev hB V up t, dg_next hB]; rfl

theorem dgt_letter : ∀ k : Fin 36, ∀ up : Bool, dgt (k.val : Int) up = (lettersOf up).getD k.val 0 ∧ (dgt (k.val : Int) up = 48 ↔ k.val = 0) ∧ (0 ≤ dgt (k.val : Int) up ∧ dgt (k.val : Int) up < 256) := by decide
theorem dgt_is {d : Int} (h0 : 0 ≤ d) (h1 : d < 36) (up : Bool) : dgt d up = (lettersOf up).getD d.toNat 0 ∧ (dgt d up = 48 ↔ d = 0) ∧ (0 ≤ dgt d up ∧ dgt d up < 256) := by
  have := dgt_letter ⟨d.toNat, by omega⟩ up
  simp only at this
  rw [show ((d.toNat : Nat) : Int) = d by omega] at this
  exact ⟨this.1, ⟨fun q => by have := this.2.1.1 q; omega, fun q => this.2.1.2 (by omega)⟩, this.2.2⟩
theorem dig_bd {B : Int} (hB : 0 < B) (V : Int) (s : Nat) : 0 ≤ V / B ^ s % B ∧ V / B ^ s % B < B := ⟨Int.emod_nonneg _ (by omega), Int.emod_lt_of_pos _ hB⟩
theorem map_lets {B : Int} (hB : 0 < B) (h36 : B ≤ 36) (up : Bool) (m : Nat) (V : Int) : (Dn.dg B m V).map (fun d => dgt d up) = lets (lettersOf up) (Dn.dg B m V) := by
  unfold lets
  apply List.map_congr_left
  intro d hd
  have := Dn.dg_mem hB m V d hd
  exact (dgt_is this.1 (by omega) up).1

/-- Zeros at the head of a number's digits. -/
theorem low_of {B : Int} (hB : 0 < B) {V : Int} (h0 : 0 ≤ V) (m : Nat) : ∀ T, m ≤ T → V < B ^ T → (∀ s, m ≤ s → s < T → V / B ^ s % B = 0) → V < B ^ m := by
  intro T
  induction T with
  | zero => intro h1 h2 _; rw [show m = 0 by omega]; exact h2
  | succ T ih =>
    intro h1 h2 h3
    rcases Nat.lt_or_ge T m with q | q
    · rw [show m = T + 1 by omega]; exact h2
    · refine ih q ?_ (fun s a b => h3 s a (by omega))
      have z := h3 T q (by omega)
      have p : 0 < B ^ T := Int.pow_pos hB
      have l : V / B ^ T < B := by
        apply Int.ediv_lt_of_lt_mul p
        rw [Int.pow_succ, Int.mul_comm] at h2
        exact h2
      have n : 0 ≤ V / B ^ T := Int.ediv_nonneg h0 (Int.le_of_lt p)
      rw [Int.emod_eq_of_lt n l] at z
      by_cases c : V < B ^ T
      · exact c
      · have : 1 ≤ V / B ^ T := (Int.le_ediv_iff_mul_le p).2 (by omega)
        omega
theorem strip_is {B : Int} (hB : 0 < B) {V : Int} (h0 : 0 < V) {m T : Nat} (hm : m ≤ T) (hT : V < B ^ T) (hz : ∀ s, m ≤ s → s < T → V / B ^ s % B = 0) (ht : m ≤ 1 ∨ V / B ^ (m - 1) % B ≠ 0) : Dn.strip (Dn.dg B T V) = Dn.dg B m V := by
  have lm := low_of hB (by omega) m T hm hT hz
  rw [Dn.strip_dg hB (by omega) hT lm]
  cases m with
  | zero => rw [Int.pow_zero] at lm; omega
  | succ m =>
    have nz : V / B ^ m % B ≠ 0 := by
      rcases ht with q | q
      · have : m = 0 := by omega
        subst this
        rw [Int.pow_zero, Int.ediv_one]
        rw [show B ^ (0 + 1) = B by rw [Nat.zero_add, Int.pow_one]] at lm
        rw [Int.emod_eq_of_lt (by omega) lm]; omega
      · simpa using q
    rw [dg_next hB]
    unfold Dn.strip
    rw [List.dropWhile_cons_of_neg (by simpa using nz)]
end Gn
end Go.Proofs.YtbldddagddmbgaaDoor

namespace Go.Proofs.YtbldddagddmbgaaDoor
open Go.RowKit Go.Deep

theorem wpList_append_b {ty : TypeId} {ops : Array Oper} {rest : List Oper} {o : Oper} {a : Act} {Q : Exit → Act → World → Prop} (hgd : o.guard = none) (s x : Operand)
    (ho : o.op = .call { callee := .builtin .append, args := #[s, x], argTypes := #[ty, ty] }) {v y v' : Value} {w w' : World} (hr : (Builtin.append_ #[ty, ty] o.type #[v, y]).run Tryd.prog w = .ok v' w') (hs : a.eval s = v) (hx : a.eval x = y)
    (h : wpList Tryd.prog ops Q rest (a.put o.dst v') w') : wpList Tryd.prog ops Q (o :: rest) a w := by
  refine wpList_plain hgd fun K hK => ?_
  unfold Oper.wp execOp
  simp only [ho, resolve, invoke, builtin, Sem.run_bind, Sem.run_pure, Result.andThen_ok, List.map_toArray, List.map_cons, List.map_nil, hs, hx, hr]
  exact hK _ _ h

/-- The bytes, in a block of our own from base on. -/
def Row8 (base : Nat) (w : World) (mv : Value) (xs : List Int) : Prop := w.ownsRow base 5 1 mv xs.length (xs.map (Value.int .u8))

theorem Row8.below {base : Nat} {w w' : World} {mv : Value} {xs : List Int} (h : Row8 base w mv xs) (hb : Below w.heap.size w w') : Row8 base w' mv xs :=
  World.ownsRow.kept (row := none) h ⟨hb.os, hb.tape, hb.output, hb.size, fun j hj _ => hb.block j hj⟩ (by cases h : Value.ownBlock mv <;> simp)

theorem Row8.push {base : Nat} {w : World} {mv : Value} {xs : List Int} (ho : Row8 base w mv xs) (x : Int) (hn : xs.length < 140737488351232) (hb : base ≤ w.heap.size) :
    ∃ mv' w', (Builtin.append_ #[64, 64] 64 #[mv, .slice (some ⟨w.heap.size, 0, none⟩) 1 1]).run Tryd.prog (w.alloc (.cells #[.int .u8 x] 5)) = .ok mv' w' ∧ Row8 base w' mv' (xs ++ [x]) ∧ w.heap.size ≤ w'.heap.size ∧
      Below base w w' ∧ (∀ j, j < w.heap.size → some j ≠ mv.ownBlock → w'.heap[j]? = w.heap[j]?) := by
  obtain ⟨i, hi, hz⟩ := Option.map_eq_some_iff.1 info8
  simp only [Prod.mk.injEq] at hz
  obtain ⟨z1, z2, z3⟩ := hz
  have bm : Below w.heap.size w (w.alloc (.cells #[.int .u8 x] 5)) := (Below.refl _ _).alloc (Nat.le_refl _) _
  have hs : (w.alloc (.cells #[.int .u8 x] 5)).heap.size = w.heap.size + 1 := World.size_alloc _ _
  have ho' := World.ownsRow.alloc ho (.cells #[.int .u8 x] 5)
  have hcell : (w.alloc (.cells #[.int .u8 x] 5)).cell? ⟨w.heap.size, 0, none⟩ = some (.int .u8 x) :=
    (OwnB.alloc w [x]).cell 0 (by simp)
  obtain ⟨v', w', hr, h1, h2, _⟩ := run_append_own (P := Tryd.prog) (w.alloc (.cells #[.int .u8 x] 5)) base 64 64 5 i (.int .u8 0) 1 1 Tryd.underlying64 hi z1 z2 z3 rfl (by omega) mv xs.length (xs.map (Value.int .u8)) ho'
    ⟨w.heap.size, 0, none⟩ 1 1 [.int .u8 x] rfl (fun j u hu => by
      cases j with
      | zero =>
        simp at hu
        subst hu
        rw [Go.WideShapes.add_plain]
        exact hcell
      | succ j => simp at hu) (fun u hu => by simp at hu; subst hu; rfl) (by simp only [maxLen]; omega) (by omega) (by rw [hs]; omega)
  refine ⟨v', w', hr, by simpa [Row8] using h1, by have := h2.size; omega, ?_, fun j hj hne => ?_⟩
  · have hb2 : Below base (w.alloc (.cells #[.int .u8 x] 5)) w' := by
      refine ⟨h2.os, h2.tape, h2.output, h2.size, fun j hj => h2.block j (by rw [hs]; omega) ?_⟩
      intro hk
      have := (ho'.lt j hk.symm).1
      omega
    exact (bm.mono hb).trans hb2
  · rw [h2.block j (by rw [hs]; omega) hne]
    exact bm.block j hj

/-- The row's shape. -/
theorem Row8.shape {base : Nat} {w : World} {mv : Value} {xs : List Int} (h : Row8 base w mv xs) : ∃ pm cp, mv = .slice pm xs.length cp := by
  rcases h.2 with ⟨rfl, h0⟩ | ⟨g, cp, cur, rfl, _⟩
  · exact ⟨none, 0, by rw [h0]⟩
  · exact ⟨_, cp, rfl⟩

/-- string(b) of such a row that has an address. -/
theorem Row8.cells {base : Nat} {w : World} {mv : Value} {xs : List Int} (h : Row8 base w mv xs) (h0 : xs ≠ []) : ∃ g cp, mv = .slice (some ⟨g, 0, none⟩) xs.length cp ∧ ∀ i, i < xs.length → w.cell? ⟨g, 0 + i, none⟩ = some (.int .u8 (xs.getD i 0)) := by
  rcases h.2 with ⟨rfl, hn⟩ | ⟨g, cp, cur, rfl, _⟩
  · exact absurd (List.eq_nil_of_length_eq_zero hn) h0
  · refine ⟨g, cp, rfl, fun i hi => ?_⟩
    have := World.ownsRow.cells h (g := g) rfl i (.int .u8 (xs.getD i 0)) (by simp [List.getD, hi])
    rw [Go.WideShapes.add_plain] at this
    exact this
end Go.Proofs.YtbldddagddmbgaaDoor

namespace Go.Proofs.YtbldddagddmbgaaDoor
open Go.RowKit Go.Deep

theorem srow64_empty (w : World) : Row64 w.heap.size (w.alloc (.cells #[] 27)) (.slice (some ⟨w.heap.size, 0, none⟩) 0 0) [] := by
  refine ⟨rfl, .inr ⟨w.heap.size, 0, #[], rfl, Nat.le_refl _, ?_, Nat.le_refl _, by simp only [maxLen]; omega, rfl, rfl⟩⟩
  show (w.heap.push _)[w.heap.size]? = _
  rw [Array.getElem?_push, if_pos rfl]
theorem srow8_empty (w : World) : Row8 w.heap.size (w.alloc (.cells #[] 5)) (.slice (some ⟨w.heap.size, 0, none⟩) 0 0) [] := by
  refine ⟨rfl, .inr ⟨w.heap.size, 0, #[], rfl, Nat.le_refl _, ?_, Nat.le_refl _, by simp only [maxLen]; omega, rfl, rfl⟩⟩
  show (w.heap.push _)[w.heap.size]? = _
  rw [Array.getElem?_push, if_pos rfl]
theorem alloc_bs (w : World) (A : Obj) : Below w.heap.size w (w.alloc A) := Below.alloc (w := w) (Below.refl w.heap.size w) (Nat.le_refl _) A
theorem smake0 (c : Nat) (hc : c ≤ 1000000) (w : World) : (Instr.makeSlice 64 (.int .i64 0) (.int .i64 (c : Int))).run Tryd.prog w = .ok (.slice (some ⟨w.heap.size, 0, none⟩) 0 c) (w.alloc (.cells (madeCells #[.int .u8 0] c) 5)) ∧ Row8 w.heap.size (w.alloc (.cells (madeCells #[.int .u8 0] c) 5)) (.slice (some ⟨w.heap.size, 0, none⟩) 0 c) [] := by
  obtain ⟨i, hi, hz⟩ := Option.map_eq_some_iff.1 info8
  simp only [Prod.mk.injEq] at hz
  obtain ⟨z1, z2, z3⟩ := hz
  have hr := run_make (P := Tryd.prog) w 64 5 i (.int .u8 0) Tryd.underlying64 hi z1 .i64 .i64 0 (c : Int) (Int.le_refl _) (by omega) (by rw [z3]; omega) (by omega)
  rw [z2] at hr
  simp only [Int.toNat_zero, Int.toNat_natCast, Nat.mul_one] at hr
  exact ⟨hr, World.ownsRow_made w _ c (Nat.le_refl _) (by simp only [maxLen]; omega) (by rw [size_madeCells, Nat.mul_one])⟩
theorem lets_b (up : Bool) (ds : List Int) : ∀ x ∈ lets (lettersOf up) ds, 0 ≤ x ∧ x < 256 := by
  intro x hx
  obtain ⟨d, _, rfl⟩ := List.mem_map.1 hx
  have k : ∀ (l : List Int), (∀ y ∈ l, 0 ≤ y ∧ y < 256) → 0 ≤ l.getD d.toNat 0 ∧ l.getD d.toNat 0 < 256 := by
    intro l hl
    rw [List.getD_eq_getElem?_getD]
    cases h : l[d.toNat]? with
    | none => simp
    | some y => exact hl y (List.mem_of_getElem? h)
  apply k
  cases up
  · show ∀ y ∈ smallL, _
    decide
  · show ∀ y ∈ capL, _
    decide

def InTold (za : List Int) (B : Int) (up : Bool) (w : World) (e : Ending) (w' : World) : Prop := ∃ s xs E, e = .returned (.tuple #[.string s, .int .i64 E]) ∧ Str s xs ∧ InIs za B up xs E ∧ Below w.heap.size w w'

set_option maxRecDepth 100000 in
set_option maxHeartbeats 8000000 in
theorem sinBase_any (p : Option Addr) (n cap : Nat) (za : List Int) (B : Int) (up : Bool) (w : World) (ha : Arg w p n cap za) :
    Calls Tryd.prog 44 #[.slice p n cap, .int .i64 B, .bool up] w fun e w' => InTold za B up w e w' := by
  obtain ⟨a1, a2, a3, a4, a5⟩ := ha
  have LM := hid (slimbs_any p n cap za w a1 (by omega) a4)
  have BR := hid (Below.refl w.heap.size w)
  by_cases hb : 4096 < Nm.tsize za
  · have F : Hid (InTold za B up w (.returned (.tuple #[.string ⟨#[]⟩, .int .i64 2])) w) := ⟨_, [], _, rfl, rfl, .big hb, BR.out⟩
    have hbi : (4096 : Int) < (Nm.tsize za : Int) := by omega
    clear a1 a2 a3 a4 a5 hb
    go_enter Tryd.func44, Tryd.ntmps44
    go_wp2_with fail
    with_reducible refine LM.out.mono ?_
    rintro e w1 ⟨rfl, e1⟩
    rw [e1]
    go_wp2_with fail
    go_ret2
    exact F.out
  have hbi : ¬ (4096 : Int) < (Nm.tsize za : Int) := by omega
  by_cases h2 : B < 2
  · have F : Hid (InTold za B up w (.returned (.tuple #[.string ⟨#[]⟩, .int .i64 32])) w) := ⟨_, [], _, rfl, rfl, .base (by omega) (.inl h2), BR.out⟩
    clear a1 a2 a3 a4 a5 hb
    go_enter Tryd.func44, Tryd.ntmps44
    go_wp2_with fail
    with_reducible refine LM.out.mono ?_
    rintro e w1 ⟨rfl, e1⟩
    rw [e1]
    go_wp2_with fail
    go_ret2
    exact F.out
  by_cases h36 : 36 < B
  · have F : Hid (InTold za B up w (.returned (.tuple #[.string ⟨#[]⟩, .int .i64 32])) w) := ⟨_, [], _, rfl, rfl, .base (by omega) (.inr h36), BR.out⟩
    clear a1 a2 a3 a4 a5 hb
    go_enter Tryd.func44, Tryd.ntmps44
    go_wp2_with fail
    with_reducible refine LM.out.mono ?_
    rintro e w1 ⟨rfl, e1⟩
    rw [e1]
    go_wp2_with fail
    go_ret2
    exact F.out
  have B2 : 2 ≤ B := by omega
  have B36 : B ≤ 36 := by omega
  have GR := hid (sgroup_any B w B2 B36)
  obtain ⟨V, hV⟩ : ∃ V, V = Nm.val za := ⟨_, rfl⟩
  have v0 := (Nm.val_bd za a5).1
  have tz := Nm.tsize_zero_iff a5
  have tl := Nm.tsize_le za
  have TZV : Hid (V = 0 → Nm.tsize za = 0) := fun q => tz.2 (by rw [← hV]; exact q)
  have ZR0 : Hid (V = 0 → ∀ w', Below w.heap.size w w' → InTold za B up w (.returned (.tuple #[.string ⟨#[48]⟩, .int .i64 0])) w') := fun q w' k => ⟨_, [48], _, rfl, rfl, .zero (tz.2 (by rw [← hV]; exact q)) B2 B36, k⟩
  have FI0 : Hid (∀ T mm s, V < B ^ T → V ≠ 0 → mm ≤ T → (∀ s, mm ≤ s → s < T → V / B ^ s % B = 0) → (mm ≤ 1 ∨ V / B ^ (mm - 1) % B ≠ 0) → Str s (lets (lettersOf up) (Dn.dg B mm V)) → ∀ w', Below w.heap.size w w' → InTold za B up w (.returned (.tuple #[.string s, .int .i64 0])) w') := by
    intro T mm s hT vne hm hz ht hs w' k
    refine ⟨s, _, _, rfl, hs, ?_, k⟩
    rw [← Gn.strip_is (by omega) (by omega) hm hT hz ht, hV]
    exact .ok T (by omega) (by omega) B2 B36 (by rw [← hV]; exact hT)
  have TZ : Hid (∀ j, Nm.tsize za ≤ j → za.getD j 0 = 0) := Nm.tsize_zero za
  have DZ : Hid (Nm.val (za.drop (Nm.tsize za)) = 0) := by
    have e := Nm.val_drop za (Nm.tsize za) tl
    have e2 := Nm.val_trim za
    unfold Nm.trim at e2
    rw [e2] at e
    have pp := Nm.pw_pos (Nm.tsize za)
    have : Nm.pw (Nm.tsize za) * Nm.val (za.drop (Nm.tsize za)) = 0 := by omega
    rcases Int.mul_eq_zero.1 this with q | q
    · omega
    · exact q
  have DN : Hid (∀ j, j < za.length → Nm.val (za.drop j) = za.getD j 0 + 18446744073709551616 * Nm.val (za.drop (j + 1))) := by
    intro j hj
    rw [List.drop_eq_getElem_cons hj, Nm.val, List.getD_eq_getElem?_getD, List.getElem?_eq_getElem hj]
    rfl
  have LB : Hid (∀ j, 0 ≤ za.getD j 0 ∧ za.getD j 0 < 18446744073709551616) := fun j => a5.at j
  have HA : Hid (Lies w p za) := a4
  have TT : Hid (Nm.tsize za ≤ 4096) := by show _ ≤ _; omega
  have TL : Hid (Nm.tsize za ≤ za.length) := tl
  have VD : Hid (Nm.val (za.drop 0) = V) := by rw [Hid, List.drop_zero, hV]
  have V0 : Hid (0 ≤ V) := by rw [hV]; exact v0
  have nl : (n : Int) ≤ 17592186044416 := by omega
  clear a2 a4 a5 hb h2 h36 v0 tz tl hV
  have DB : Hid (0 < B ∧ B ≤ 36) := ⟨by omega, B36⟩
  have NL : Hid (za.length = n) := a1
  clear a1
  go_enter Tryd.func44, Tryd.ntmps44
  go_wp2_with fail
  with_reducible refine LM.out.mono ?_
  rintro e w1 ⟨rfl, e1⟩
  rw [e1]
  clear e1 LM w1
  obtain ⟨tN, HT⟩ : ∃ tN, Hid (tN = Nm.tsize za) := ⟨_, rfl⟩
  rw [← HT.out] at hbi TZ DZ TT TL TZV
  rw [← HT.out]
  clear HT
  go_wp2_with fail
  with_reducible refine GR.out.mono ?_
  rintro e w1 ⟨⟨k, P, rfl, hP, k30, P1, P2, P3⟩, e1⟩
  rw [e1]
  clear e1 w1 GR
  have P4 : 65536 ≤ P := by
    have : P * B ≤ P * 36 := Int.mul_le_mul_of_nonneg_left B36 (by omega)
    omega
  have HP := hid hP
  have R0 := hid (srow64_empty w)
  have A0 := hid (alloc_bs w (.cells #[] 27))
  have tNi : (tN : Int) ≤ 4096 := by have := TT.out; omega
  clear hP P3
  go_upto_region 8 with fail
  generalize (w.alloc (.cells #[] 27)) = wG at *
  go_wp2_with fail
  go_loopg [11, 12] tN (fun m gq iv wr => ∃ (mv : Value) (gs : List Int) (c : Int), gq = mv ∧ iv = .int .i64 c ∧ c = (m : Int) - 1 ∧ Hid (m ≤ tN ∧ Row64 w.heap.size wr mv gs ∧ Gn.Digs P gs ∧ Gn.gv P gs = Nm.val (za.drop m) ∧ gs.length ≤ 4 * (tN - m) ∧ Below w.heap.size w wr))
  case atStart => exact ⟨_, [], _, rfl, rfl, rfl, Nat.le_refl _, R0.out, (by intro z hz; simp at hz), by rw [DZ.out]; rfl, by simp, A0.out⟩
  case round =>
    obtain ⟨mv, gs, c, hmv, rfl, hc, I⟩ := hrel
    have hmv := hmv.symm
    subst hmv
    clear R0 A0
    cases gk with
    | succ r =>
      obtain rfl : c = (r : Int) := by omega
      clear hc
      have rt : r < tN := by have := I.out.1; omega
      have rl : r < za.length := by have := TL.out; omega
      have rn : (r : Int) < (n : Int) := by have := NL.out; omega
      have r0 : 0 ≤ (r : Int) := by omega
      obtain ⟨b, off, hp, hcell⟩ : ∃ b off, p = some ⟨b, off, none⟩ ∧ ∀ i, i < za.length → w.cell? ⟨b, off + i, none⟩ = some (.int .u64 (za.getD i 0)) := by
        rcases HA.out with q | q
        · rw [q] at rl; simp at rl
        · exact q
      subst hp
      have c0 := hcell r rl
      have lt0 := cell_lt c0
      have CC : Hid (∀ wk, Below w.heap.size w wk → wk.cell? ⟨b, off + r, none⟩ = some (.int .u64 (za.getD r 0))) := fun wk hk => by rw [hk.cell (p := ⟨b, off + r, none⟩) lt0]; exact c0
      have c1 := CC.out wr I.out.2.2.2.2.2
      have xb := LB.out r
      have DNR := hid (DN.out r rl)
      generalize za.getD r 0 = x at *
      obtain ⟨x0, x1⟩ := xb
      have rm := r_mask32 x x0 x1
      obtain ⟨hi, hhi, HI⟩ : ∃ hi, x / 4294967296 = hi ∧ Hid (hi = x / 4294967296) := ⟨_, rfl, rfl⟩
      obtain ⟨lo, hlo, LO⟩ : ∃ lo, x % 4294967296 = lo ∧ Hid (lo = x % 4294967296) := ⟨_, rfl, rfl⟩
      have hib : 0 ≤ hi ∧ hi < 4294967296 := by rw [← hhi]; omega
      have lob : 0 ≤ lo ∧ lo < 4294967296 := by rw [← hlo]; omega
      have T1 := hid (times_any w.heap.size mv gs P hi wr I.out.2.1 I.out.2.2.1 (by have := I.out.2.2.2.2.1; have := TT.out; omega) P4 P2 hib.1 hib.2 I.out.2.2.2.2.2.size)
      have T2 := hid (fun mv' gs' wk r1 r2 r3 r4 => times_any w.heap.size mv' gs' P lo wk r1 r2 r3 P4 P2 lob.1 lob.2 r4)
      rw [hlo] at rm
      have TTH := TT
      clear hcell c0 lt0 hib lob ZR0 FI0 DN
      go_wp2_with fail
      with_reducible refine T1.out.mono ?_
      rintro e w2 ⟨mv1, gs1, rfl, q1, q2, q3, q4, q5⟩
      have I2 : Hid (r + 1 ≤ tN ∧ Row64 w.heap.size w2 mv1 gs1 ∧ Gn.Digs P gs1 ∧ Gn.gv P gs1 = 4294967296 * Nm.val (za.drop (r + 1)) + hi ∧ gs1.length ≤ 4 * (tN - (r + 1)) + 2 ∧ Below w.heap.size w w2) := ⟨I.out.1, q1, q2, by rw [q3, I.out.2.2.2.1], by have := I.out.2.2.2.2.1; omega, I.out.2.2.2.2.2.trans q5⟩
      have c2 := CC.out w2 I2.out.2.2.2.2.2
      have T3 := hid (T2.out mv1 gs1 w2 q1 q2 (by have := I2.out.2.2.2.2.1; have := TT.out; omega) I2.out.2.2.2.2.2.size)
      clear q1 q2 q3 q4 q5 T1 T2 I c1
      go_wp2_with fail
      with_reducible refine T3.out.mono ?_
      rintro e w3 ⟨mv2, gs2, rfl, q1, q2, q3, q4, q5⟩
      have F : Hid (r ≤ tN ∧ Row64 w.heap.size w3 mv2 gs2 ∧ Gn.Digs P gs2 ∧ Gn.gv P gs2 = Nm.val (za.drop r) ∧ gs2.length ≤ 4 * (tN - r) ∧ Below w.heap.size w w3) := ⟨by omega, q1, q2, by rw [q3, I2.out.2.2.2.1, DNR.out, HI.out, LO.out]; omega, by have := I2.out.2.2.2.2.1; omega, I2.out.2.2.2.2.2.trans q5⟩
      clear q1 q2 q3 q4 q5 T3 I2 c2 hhi hlo rm
      go_wp2_with fail
      go_roundg r
      case measure => omega
      case rel => exact ⟨mv2, gs2, _, rfl, rfl, by omega, F.out⟩
    | zero =>
      obtain rfl : c = -1 := by omega
      clear hc
      obtain ⟨wE, rfl⟩ : ∃ wE, wE = wr := ⟨wr, rfl⟩
      obtain ⟨-, g1, g2, g3, g4, g5⟩ := I.out
      rw [VD.out] at g3
      have B1 := hid g5
      obtain ⟨pm, cp, es⟩ := g1.shape
      obtain ⟨G, HG⟩ : ∃ G, Hid (gs.length = G) := ⟨_, rfl⟩
      rw [HG.out] at es
      have GB : Hid (G ≤ 16384) := by have := TT.out; have := HG.out; show _ ≤ _; omega
      have Gi : (G : Int) ≤ 16384 := by have := GB.out; omega
      have CG : Hid (gs ≠ [] → ∃ gb, pm = some ⟨gb, 0, none⟩ ∧ ∀ wk, Below wE.heap.size wE wk → ∀ i, i < G → wk.cell? ⟨gb, i, none⟩ = some (.int .u64 (gs.getD i 0))) := by
        intro q
        obtain ⟨gb, cp', e2, cl⟩ := g1.cells q
        rw [HG.out, es] at e2
        cases e2
        refine ⟨gb, rfl, fun wk hk i hi => ?_⟩
        have c := cl i (by rw [HG.out]; exact hi)
        rw [Nat.zero_add] at c
        rw [hk.cell (p := ⟨gb, i, none⟩) (cell_lt c)]
        exact c
      have DG : Hid (∀ i j, i < G → j < k → gs.getD i 0 / B ^ j % B = V / B ^ (i * k + j) % B) := by
        intro i j hi hj
        rw [← g3]
        exact Gn.dig_at DB.out.1 HP.out gs g2 i j (by rw [HG.out]; exact hi) hj
      have GBD : Hid (∀ i, 0 ≤ gs.getD i 0 ∧ gs.getD i 0 < P) := fun i => Gn.Digs.at g2 (by omega) i
      obtain ⟨T, HT⟩ : ∃ T, Hid (T = G * k) := ⟨_, rfl⟩
      have VT : Hid (V < B ^ T) := by
        have q := (Gn.gv_lt (by omega) gs g2).2
        rw [g3, HG.out, HP.out, ← Int.pow_mul, Nat.mul_comm k G, ← HT.out] at q
        exact q
      have TB : Hid (T ≤ 491520) := by
        have h1 := GB.out
        have h2 : G * k ≤ 16384 * 30 := Nat.mul_le_mul h1 k30
        rw [← HT.out] at h2
        exact h2
      have ZR : Hid (T = 0 → ∀ w', Below w.heap.size w w' → InTold za B up w (.returned (.tuple #[.string ⟨#[48]⟩, .int .i64 0])) w') := by
        intro q
        have v := VT.out
        rw [q, Int.pow_zero] at v
        exact ZR0.out (by have := V0.out; omega)
      have FI : Hid (V ≠ 0 → ∀ mm s, mm ≤ T → (∀ s, mm ≤ s → s < T → V / B ^ s % B = 0) → (mm ≤ 1 ∨ V / B ^ (mm - 1) % B ≠ 0) → Str s (lets (lettersOf up) (Dn.dg B mm V)) → ∀ w', Below w.heap.size w w' → InTold za B up w (.returned (.tuple #[.string s, .int .i64 0])) w') := fun q mm s => FI0.out T mm s VT.out q
      have VN : Hid (T ≠ 0 → V ≠ 0) := by
        intro q v
        have z := TZV.out v
        have : G = 0 := by have := HG.out; omega
        apply q
        rw [HT.out, this, Nat.zero_mul]
      have R8 := hid (srow8_empty wE)
      have A8 := hid (alloc_bs wE (.cells #[] 5))
      have BZ : Hid (w.heap.size ≤ wE.heap.size) := B1.out.size
      have TI : Hid (∀ i j, i < G → j < k → i * k + j < 491520) := by
        intro i j hi hj
        have h1 : (i + 1) * k ≤ G * k := Nat.mul_le_mul_right k hi
        rw [Nat.succ_mul] at h1
        have := TB.out
        have := HT.out
        omega
      have gne : Hid (0 < G → gs ≠ []) := fun h q => by have := HG.out; rw [q] at this; simp at this; omega
      have PB : Hid (P < 2147483648) := P2
      have ki : (k : Int) ≤ 30 := by omega
      subst es
      clear I g1 g2 g3 g4 g5 VD FI0 ZR0 TZV VT HG GB HA DZ DN TZ LB TL TT NL hbi tNi nl P1 P2 P4 HP k30 V0
      go_upto_region 14 with fail
      generalize (wE.alloc (.cells #[] 5)) = wB at *
      go_wp2_with fail
      go_loopg [13, 14, 15, 16] G (fun m bv iv gq jq wk => ∃ (mv' : Value) (i : Nat), bv = mv' ∧ i + m = G ∧ iv = .int .i64 (i : Int) ∧ Hid (Row8 wE.heap.size wk mv' (Gn.bk B V up (i * k)) ∧ Below wE.heap.size wE wk))
      case atStart => exact ⟨_, 0, rfl, by omega, rfl, by rw [Nat.zero_mul]; exact R8.out, A8.out⟩
      case round =>
        obtain ⟨mvb, i, hmvb, hi, rfl, I⟩ := hrel
        have hmvb := hmvb.symm
        subst hmvb
        clear R8 A8
        by_cases il : i < G
        · have ili : (i : Int) < (G : Int) := by omega
          obtain ⟨gb, hpm, cl⟩ := CG.out (gne.out (by omega))
          subst hpm
          have c0 := cl wr I.out.2 i il
          have gbd := GBD.out i
          have DGI := hid (fun j hj => DG.out i j il hj)
          have TII := hid (fun j hj => TI.out i j il hj)
          generalize gs.getD i 0 = g0 at *
          obtain ⟨gb0, gb1⟩ := gbd
          have GH : Hid (0 ≤ g0 ∧ g0 < 2147483648) := ⟨gb0, by have := PB.out; omega⟩
          clear cl CG DG GBD TI gb1 FI ZR VN
          go_wp2_with fail
          go_loopg [13, 15, 16] k (fun m bv gq jq wk => ∃ (mv' : Value) (j : Nat) (q : Int), bv = mv' ∧ j + m = k ∧ jq = .int .i64 (j : Int) ∧ gq = .int .u64 q ∧ Hid (q = g0 / B ^ j ∧ Row8 wE.heap.size wk mv' (Gn.bk B V up (i * k + j)) ∧ Below wE.heap.size wE wk))
          case atStart => exact ⟨_, 0, g0, rfl, by omega, rfl, rfl, by rw [Int.pow_zero, Int.ediv_one], I.out.1, I.out.2⟩
          case round =>
            obtain ⟨mvc, j, q, hmvc, hj, rfl, rfl, J⟩ := hrel
            have hmvc := hmvc.symm
            subst hmvc
            clear c0 I
            by_cases jl : j < k
            · have jli : (j : Int) < (k : Int) := by omega
              have qb : 0 ≤ q ∧ q < 2147483648 := by
                rw [J.out.1]
                have pp : 0 < B ^ j := Int.pow_pos DB.out.1
                have h1 := Int.ediv_nonneg GH.out.1 (Int.le_of_lt pp)
                have h2 : g0 / B ^ j ≤ g0 := Int.ediv_le_self _ GH.out.1
                have := GH.out.2
                omega
              obtain ⟨d, hd, HD⟩ : ∃ d, q % B = d ∧ Hid (d = q % B) := ⟨_, rfl, rfl⟩
              obtain ⟨q2, hq2, HQ⟩ : ∃ q2, q / B = q2 ∧ Hid (q2 = q / B) := ⟨_, rfl, rfl⟩
              have db : 0 ≤ d ∧ d < 36 := by
                rw [← hd]
                have h1 := Int.emod_nonneg q (show B ≠ 0 by omega)
                have h2 := Int.emod_lt_of_pos q DB.out.1
                have := DB.out.2
                omega
              obtain ⟨db0, db1⟩ := db
              obtain ⟨qb0, qb1⟩ := qb
              have q2b : 0 ≤ q2 := by rw [← hq2]; exact Int.ediv_nonneg qb0 (by omega)
              have SD := hid (fun W' => sdigit_any d up W' db0 db1)
              have ed : d = V / B ^ (i * k + j) % B := by rw [HD.out, J.out.1]; exact DGI.out j jl
              obtain ⟨mv', w2, ap, r2, z2, b2, _⟩ := J.out.2.1.push (dgt d up) (by rw [Gn.bk_len]; have := TII.out j jl; omega) J.out.2.2.size
              have F : Hid (q2 = g0 / B ^ (j + 1) ∧ Row8 wE.heap.size w2 mv' (Gn.bk B V up (i * k + (j + 1))) ∧ Below wE.heap.size wE w2) := by
                refine ⟨?_, ?_, J.out.2.2.trans b2⟩
                · rw [HQ.out, J.out.1, Int.ediv_ediv_of_nonneg (Int.le_of_lt (Int.pow_pos DB.out.1)), Int.pow_succ]
                · rw [← Nat.add_assoc, Gn.bk, ← ed]; exact r2
              have AP := hid ap
              clear ap r2 z2 b2 ed J DGI TII GH
              generalize dgt d up = xd at *
              go_wp2_with fail
              with_reducible refine (SD.out _).mono ?_
              rintro e w9 ⟨rfl, e9⟩
              rw [e9]
              clear e9 w9 SD
              go_wp2_with (at_builtin; refine wpList_append_b rfl _ _ rfl AP.out (by rfl) (by rfl) ?_; clear AP)
              go_roundg (k - (j + 1))
              case measure => omega
              case rel => exact ⟨mv', j + 1, q2, rfl, by omega, by go_num, by rw [HQ.out], F.out⟩
            · have jli : ¬ (j : Int) < (k : Int) := by omega
              have F : Hid (Row8 wE.heap.size wr mvc (Gn.bk B V up ((i + 1) * k)) ∧ Below wE.heap.size wE wr) := by
                have e : (i + 1) * k = i * k + j := by rw [Nat.succ_mul]; omega
                rw [e]
                exact J.out.2
              clear J DGI TII GH
              go_wp2_with fail
              go_roundg (G - (i + 1))
              case measure => omega
              case rel => exact ⟨mvc, i + 1, rfl, by omega, by go_num, F.out⟩
        · have ili : ¬ (i : Int) < (G : Int) := by omega
          have QS : Hid (Row8 wE.heap.size wr mvb (Gn.bk B V up T) ∧ Below wE.heap.size wE wr) := by
            have e : T = i * k := by rw [HT.out, show i = G by omega]
            rw [e]; exact I.out
          obtain ⟨pb, cb0, es3⟩ := QS.out.1.shape
          rw [Gn.bk_len] at es3
          subst es3
          have Ti : (T : Int) ≤ 491520 := by have := TB.out; omega
          clear I CG DG GBD TI gne PB HT
          go_wp2_with fail
          go_loopg [17] T (fun m mq wk => mq = .int .i64 (m : Int) ∧ Hid (m ≤ T ∧ (∀ s, m ≤ s → s < T → V / B ^ s % B = 0) ∧ (m = 0 → T = 0)) ∧ Hid (Row8 wE.heap.size wk (.slice pb T cb0) (Gn.bk B V up T) ∧ Below wE.heap.size wE wk))
          case atStart => exact ⟨rfl, ⟨Nat.le_refl _, fun s a b => by omega, fun q => q⟩, QS.out⟩
          case round =>
            obtain ⟨rfl, M, Q0⟩ := hrel
            obtain ⟨mm, rfl⟩ : ∃ mm, mm = gk := ⟨gk, rfl⟩
            clear QS
            by_cases m1 : 1 < mm
            · have m1i : (1 : Int) < (mm : Int) := by omega
              have mT : mm ≤ T := M.out.1
              have mTi : (mm : Int) ≤ (T : Int) := by omega
              obtain ⟨r, hr⟩ : ∃ r : Nat, mm = r + 1 := ⟨mm - 1, by omega⟩
              have ri : (mm : Int) - 1 = (r : Int) := by omega
              have rT : (r : Int) < (T : Int) := by omega
              have r0 : 0 ≤ (r : Int) := by omega
              have bt0 : Gn.bk B V up T ≠ [] := fun q => by have := congrArg List.length q; rw [Gn.bk_len, List.length_nil] at this; omega
              obtain ⟨gc, cc, ec, cl⟩ := Q0.out.1.cells bt0
              rw [Gn.bk_len] at ec cl
              cases ec
              have c0 := cl r (by omega)
              rw [Nat.zero_add, Gn.bk_at B V up T r (by omega)] at c0
              have dd := Gn.dgt_is (Gn.dig_bd DB.out.1 V r).1 (Int.lt_of_lt_of_le (Gn.dig_bd DB.out.1 V r).2 DB.out.2) up
              by_cases hz : V / B ^ r % B = 0
              · have e48 : dgt (V / B ^ r % B) up = 48 := dd.2.1.2 hz
                rw [e48] at c0
                have F : Hid (r ≤ T ∧ (∀ s, r ≤ s → s < T → V / B ^ s % B = 0) ∧ (r = 0 → T = 0)) := ⟨by omega, fun s a b => by
                  rcases Nat.lt_or_ge r s with q | q
                  · exact M.out.2.1 s (by omega) b
                  · rw [show s = r by omega]; exact hz, fun q => by omega⟩
                have WK : IntKind.i64.wrap ((mm : Int) - 1) = (r : Int) := by rw [IntKind.wrap_i64]; omega
                clear M cl dd hz e48 bt0 ZR FI VN
                have HR := hid hr
                clear hr
                go_wp2_with fail
                go_roundg r
                case measure => have := HR.out; omega
                case rel => exact ⟨by go_num, F.out, Q0.out⟩
              · have e48 : dgt (V / B ^ r % B) up ≠ 48 := fun q => hz (dd.2.1.1 q)
                have m2 : mm ≤ 1 ∨ V / B ^ (mm - 1) % B ≠ 0 := .inr (by rw [hr, Nat.add_sub_cancel]; exact hz)
                have M2 := hid m2
                generalize hx : dgt (V / B ^ r % B) up = x at *
                have x48 : (x == 48) = false := by simpa using e48
                have WK : IntKind.i64.wrap ((mm : Int) - 1) = (r : Int) := by rw [IntKind.wrap_i64]; omega
                clear cl dd hz bt0 hx e48 m2 hr
                go_upto_region 26 with fail
                clear c0 x48 ri rT r0 WK m1i mTi
                have m2 := M2.out
                obtain ⟨wL, rfl⟩ : ∃ wL, wL = wr := ⟨wr, rfl⟩
                obtain ⟨m0, m1, m3⟩ := M.out
                have Q := hid Q0.out
                clear Q0 M
                by_cases mz : mm = 0
                · have F := hid (ZR.out (m3 mz))
                  subst mz
                  have QB := hid Q.out.2
                  clear m0 m1 m2 m3 Q ZR FI
                  go_wp2_with fail
                  go_ret2
                  exact F.out _ (B1.out.trans (QB.out.mono BZ.out))
                · have mi : ¬ (mm : Int) = 0 := by omega
                  have mi2 : ((mm : Int) == 0) = false := by simpa using mi
                  have mb : (mm : Int) ≤ 500000 := by have := TB.out; omega
                  have FX := hid (fun s hs => FI.out (VN.out (by omega)) mm s m0 m1 m2 hs)
                  have mk := (smake0 mm (by have := TB.out; omega) wL).1
                  have O0 := hid (smake0 mm (by have := TB.out; omega) wL).2
                  have A0 := alloc_b wL (.cells (madeCells #[.int .u8 0] mm) 5)
                  have bt0 : Gn.bk B V up T ≠ [] := fun q => by have := congrArg List.length q; rw [Gn.bk_len, List.length_nil] at this; omega
                  obtain ⟨gb, cb, eb, cells⟩ := Q.out.1.cells bt0
                  rw [Gn.bk_len] at eb cells
                  have CB : Hid (∀ wk, Below wL.heap.size wL wk → ∀ s, s < T → wk.cell? ⟨gb, s, none⟩ = some (.int .u8 (dgt (V / B ^ s % B) up))) := by
                    intro wk hk s hs
                    have c := cells s hs
                    rw [Nat.zero_add, Gn.bk_at B V up T s hs] at c
                    rw [hk.cell (p := ⟨gb, s, none⟩) (cell_lt c)]
                    exact c
                  cases eb
                  have HQ := hid (B1.out.trans (Q.out.2.mono BZ.out))
                  have MT : Hid (mm ≤ T) := m0
                  have MZ := hid mz
                  have BW : Hid (w.heap.size ≤ wL.heap.size) := HQ.out.size
                  have AX := hid A0
                  clear m0 m1 m2 m3 Q ZR FI mz mi cells bt0 A0 VN
                  go_upto_region 29 with fail
                  generalize hwx : (wL.alloc (.cells (madeCells #[.int .u8 0] mm) 5)) = wM at *
                  clear hwx mk
                  go_wp2_with fail
                  go_loopg [18, 19] mm (fun r ov iv wk => ∃ (mvo : Value) (c : Int), ov = mvo ∧ iv = .int .i64 c ∧ c = (r : Int) - 1 ∧ Hid (r ≤ mm ∧ Row8 wL.heap.size wk mvo ((Gn.bk B V up mm).drop r).reverse ∧ Below wL.heap.size wL wk))
                  case atStart =>
                    refine ⟨_, _, rfl, rfl, by omega, Nat.le_refl _, ?_, AX.out⟩
                    rw [List.drop_of_length_le (by rw [Gn.bk_len]; omega)]
                    exact O0.out
                  case round =>
                    obtain ⟨mvo, c, hov, rfl, hc, I⟩ := hrel
                    have hov := hov.symm
                    subst hov
                    have CBH := hid (fun s hs => CB.out _ I.out.2.2 s hs)
                    cases gk with
                    | zero =>
                      have hcn : ¬ 0 ≤ c := by omega
                      have R8 := I.out.2.1
                      rw [List.drop_zero, Gn.bk_rev DB.out.1 V up mm, Gn.map_lets DB.out.1 DB.out.2 up mm V] at R8
                      have ln : (lets (lettersOf up) (Dn.dg B mm V)).length = mm := by rw [lets, List.length_map, Dn.dg_length]
                      have ne : lets (lettersOf up) (Dn.dg B mm V) ≠ [] := fun q => by rw [q, List.length_nil] at ln; exact MZ.out ln.symm
                      obtain ⟨go, co, eo, cl⟩ := R8.cells ne
                      rw [ln] at eo cl
                      have ST := Str.of_nums (xs := lets (lettersOf up) (Dn.dg B mm V)) (lets_b up _)
                      have cv : (convert 64 9 mvo).run Tryd.prog wr = .ok (.string (strOfNums (lets (lettersOf up) (Dn.dg B mm V)))) wr := by
                        rw [eo]
                        exact run_convert_bytes_arg (P := Tryd.prog) wr 64 5 Tryd.underlying64 Tryd.underlying5 go 0 mm co _ ln (fun i hi => cl i hi) 9 Tryd.underlying9
                      have F := hid (FX.out _ ST wr (HQ.out.trans (I.out.2.2.mono BW.out)))
                      clear I CBH R8 ln ne cl ST CB FX eo
                      generalize strOfNums (lets (lettersOf up) (Dn.dg B mm V)) = SS at *
                      go_wp2_with fail
                      go_ret2
                      exact F.out
                    | succ r =>
                      have hcr : c = (r : Int) := by omega
                      have hr0 : 0 ≤ (r : Int) := by omega
                      have rm : r < mm := by have := I.out.1; omega
                      have rT : r < T := by have := MT.out; omega
                      have rTi : (r : Int) < (T : Int) := by omega
                      have cr := CBH.out r rT
                      obtain ⟨mv', w2, ap, r2, z2, b2, _⟩ := I.out.2.1.push (dgt (V / B ^ r % B) up) (by rw [List.length_reverse, List.length_drop, Gn.bk_len]; omega) I.out.2.2.size
                      have ed : (Gn.bk B V up mm).drop r = dgt (V / B ^ r % B) up :: (Gn.bk B V up mm).drop (r + 1) := by
                        rw [List.drop_eq_getElem_cons (by rw [Gn.bk_len]; exact rm)]
                        have := Gn.bk_at B V up mm r rm
                        rw [List.getD_eq_getElem?_getD, List.getElem?_eq_getElem (by rw [Gn.bk_len]; exact rm)] at this
                        rw [← this]; rfl
                      have F : Hid (r ≤ mm ∧ Row8 wL.heap.size w2 mv' ((Gn.bk B V up mm).drop r).reverse ∧ Below wL.heap.size wL w2) := ⟨by omega, by rw [ed, List.reverse_cons]; exact r2, I.out.2.2.trans b2⟩
                      have AP := hid ap
                      clear ap r2 z2 b2 ed I CBH CB FX
                      subst hcr
                      clear hc
                      generalize dgt (V / B ^ r % B) up = x at *
                      go_wp2_with (at_builtin; refine wpList_append_b rfl _ _ rfl AP.out (by rfl) (by rfl) ?_; clear AP)
                      go_roundg r
                      case measure => omega
                      case rel => exact ⟨mv', _, rfl, rfl, by omega, F.out⟩
            · have m1i : ¬ (1 : Int) < (mm : Int) := by omega
              have m2 : mm ≤ 1 ∨ V / B ^ (mm - 1) % B ≠ 0 := .inl (by omega)
              have M2 := hid m2
              clear m2
              go_upto_region 26 with fail
              have m2 := M2.out
              obtain ⟨wL, rfl⟩ : ∃ wL, wL = wr := ⟨wr, rfl⟩
              obtain ⟨m0, m1, m3⟩ := M.out
              have Q := hid Q0.out
              clear Q0 M
              by_cases mz : mm = 0
              · have F := hid (ZR.out (m3 mz))
                subst mz
                have QB := hid Q.out.2
                clear m0 m1 m2 m3 Q ZR FI
                go_wp2_with fail
                go_ret2
                exact F.out _ (B1.out.trans (QB.out.mono BZ.out))
              · have mi : ¬ (mm : Int) = 0 := by omega
                have mi2 : ((mm : Int) == 0) = false := by simpa using mi
                have mb : (mm : Int) ≤ 500000 := by have := TB.out; omega
                have FX := hid (fun s hs => FI.out (VN.out (by omega)) mm s m0 m1 m2 hs)
                have mk := (smake0 mm (by have := TB.out; omega) wL).1
                have O0 := hid (smake0 mm (by have := TB.out; omega) wL).2
                have A0 := alloc_b wL (.cells (madeCells #[.int .u8 0] mm) 5)
                have bt0 : Gn.bk B V up T ≠ [] := fun q => by have := congrArg List.length q; rw [Gn.bk_len, List.length_nil] at this; omega
                obtain ⟨gb, cb, eb, cells⟩ := Q.out.1.cells bt0
                rw [Gn.bk_len] at eb cells
                have CB : Hid (∀ wk, Below wL.heap.size wL wk → ∀ s, s < T → wk.cell? ⟨gb, s, none⟩ = some (.int .u8 (dgt (V / B ^ s % B) up))) := by
                  intro wk hk s hs
                  have c := cells s hs
                  rw [Nat.zero_add, Gn.bk_at B V up T s hs] at c
                  rw [hk.cell (p := ⟨gb, s, none⟩) (cell_lt c)]
                  exact c
                cases eb
                have HQ := hid (B1.out.trans (Q.out.2.mono BZ.out))
                have MT : Hid (mm ≤ T) := m0
                have MZ := hid mz
                have BW : Hid (w.heap.size ≤ wL.heap.size) := HQ.out.size
                have AX := hid A0
                clear m0 m1 m2 m3 Q ZR FI mz mi cells bt0 A0 VN
                go_upto_region 29 with fail
                generalize hwx : (wL.alloc (.cells (madeCells #[.int .u8 0] mm) 5)) = wM at *
                clear hwx mk
                go_wp2_with fail
                go_loopg [18, 19] mm (fun r ov iv wk => ∃ (mvo : Value) (c : Int), ov = mvo ∧ iv = .int .i64 c ∧ c = (r : Int) - 1 ∧ Hid (r ≤ mm ∧ Row8 wL.heap.size wk mvo ((Gn.bk B V up mm).drop r).reverse ∧ Below wL.heap.size wL wk))
                case atStart =>
                  refine ⟨_, _, rfl, rfl, by omega, Nat.le_refl _, ?_, AX.out⟩
                  rw [List.drop_of_length_le (by rw [Gn.bk_len]; omega)]
                  exact O0.out
                case round =>
                  obtain ⟨mvo, c, hov, rfl, hc, I⟩ := hrel
                  have hov := hov.symm
                  subst hov
                  have CBH := hid (fun s hs => CB.out _ I.out.2.2 s hs)
                  cases gk with
                  | zero =>
                    have hcn : ¬ 0 ≤ c := by omega
                    have R8 := I.out.2.1
                    rw [List.drop_zero, Gn.bk_rev DB.out.1 V up mm, Gn.map_lets DB.out.1 DB.out.2 up mm V] at R8
                    have ln : (lets (lettersOf up) (Dn.dg B mm V)).length = mm := by rw [lets, List.length_map, Dn.dg_length]
                    have ne : lets (lettersOf up) (Dn.dg B mm V) ≠ [] := fun q => by rw [q, List.length_nil] at ln; exact MZ.out ln.symm
                    obtain ⟨go, co, eo, cl⟩ := R8.cells ne
                    rw [ln] at eo cl
                    have ST := Str.of_nums (xs := lets (lettersOf up) (Dn.dg B mm V)) (lets_b up _)
                    have cv : (convert 64 9 mvo).run Tryd.prog wr = .ok (.string (strOfNums (lets (lettersOf up) (Dn.dg B mm V)))) wr := by
                      rw [eo]
                      exact run_convert_bytes_arg (P := Tryd.prog) wr 64 5 Tryd.underlying64 Tryd.underlying5 go 0 mm co _ ln (fun i hi => cl i hi) 9 Tryd.underlying9
                    have F := hid (FX.out _ ST wr (HQ.out.trans (I.out.2.2.mono BW.out)))
                    clear I CBH R8 ln ne cl ST CB FX eo
                    generalize strOfNums (lets (lettersOf up) (Dn.dg B mm V)) = SS at *
                    go_wp2_with fail
                    go_ret2
                    exact F.out
                  | succ r =>
                    have hcr : c = (r : Int) := by omega
                    have hr0 : 0 ≤ (r : Int) := by omega
                    have rm : r < mm := by have := I.out.1; omega
                    have rT : r < T := by have := MT.out; omega
                    have rTi : (r : Int) < (T : Int) := by omega
                    have cr := CBH.out r rT
                    obtain ⟨mv', w2, ap, r2, z2, b2, _⟩ := I.out.2.1.push (dgt (V / B ^ r % B) up) (by rw [List.length_reverse, List.length_drop, Gn.bk_len]; omega) I.out.2.2.size
                    have ed : (Gn.bk B V up mm).drop r = dgt (V / B ^ r % B) up :: (Gn.bk B V up mm).drop (r + 1) := by
                      rw [List.drop_eq_getElem_cons (by rw [Gn.bk_len]; exact rm)]
                      have := Gn.bk_at B V up mm r rm
                      rw [List.getD_eq_getElem?_getD, List.getElem?_eq_getElem (by rw [Gn.bk_len]; exact rm)] at this
                      rw [← this]; rfl
                    have F : Hid (r ≤ mm ∧ Row8 wL.heap.size w2 mv' ((Gn.bk B V up mm).drop r).reverse ∧ Below wL.heap.size wL w2) := ⟨by omega, by rw [ed, List.reverse_cons]; exact r2, I.out.2.2.trans b2⟩
                    have AP := hid ap
                    clear ap r2 z2 b2 ed I CBH CB FX
                    subst hcr
                    clear hc
                    generalize dgt (V / B ^ r % B) up = x at *
                    go_wp2_with (at_builtin; refine wpList_append_b rfl _ _ rfl AP.out (by rfl) (by rfl) ?_; clear AP)
                    go_roundg r
                    case measure => omega
                    case rel => exact ⟨mv', _, rfl, rfl, by omega, F.out⟩

set_option maxRecDepth 100000 in
theorem sdigits_any (p : Option Addr) (n cap : Nat) (za : List Int) (w : World) (ha : Arg w p n cap za) :
    Calls Tryd.prog 40 #[.slice p n cap] w fun e w' => InTold za 10 false w e w' := by
  have IB := hid (sinBase_any p n cap za 10 false w ha)
  clear ha
  go_enter Tryd.func40, Tryd.ntmps40
  go_wp2_with fail
  with_reducible refine IB.out.mono ?_
  rintro e w1 ⟨s, xs, E, rfl, h1, h2, h3⟩
  have F : Hid (InTold za 10 false w (.returned (.tuple #[.string s, .int .i64 E])) w1) := ⟨s, xs, E, rfl, h1, h2, h3⟩
  clear h1 h2 h3
  go_wp2_with fail
  go_ret2
  exact F.out
end Go.Proofs.YtbldddagddmbgaaDoor
