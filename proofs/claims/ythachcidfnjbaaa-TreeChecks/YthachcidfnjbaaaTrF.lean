/-
  tree: look's answer, as a machine of its own; nodes in memory.
-/
import Derived.Test.YthachcidfnjbaaaTrE
namespace Go.Proofs.Ythachcidfnjbaaa
open Go Go.RowKit Go.Deep

namespace Tr
/-- The depth of a node behind a row. -/
def nd (r : List (Int × Int)) (x : Nd) : Int := 1 + dp (r.drop (r.length - x.n.toNat))
/-- The row behind a node. -/
def nx (r : List (Int × Int)) (x : Nd) : List (Int × Int) := r.take (r.length - x.n.toNat) ++ [(x.kind, nd r x)]
def dn (r : List (Int × Int)) (x : Nd) (k : Nat) (d : Int) : Int := if 200 < nd r x then min d k else d
/-- What is told of the nodes that are left, behind a row. -/
def go (N : Int) : List Nd → List (Int × Int) → Nat → Int → Int × Int × Int
  | [], r, _, d => if r.length ≠ 1 then (0, N, 243) else if d < N then (0, d, 241) else ((r.headD (0, 0)).2, 0, 0)
  | x :: l, r, k, d => if st x r then go N l (nx r x) (k + 1) (dn r x k d) else (0, (k : Int), 243)
def lk (l : List Nd) : Int × Int × Int := if 10000 < l.length then (0, 10000, 242) else go l.length l [] 0 l.length
theorem go_step {N : Int} {l : List Nd} {k : Nat} {x : Nd} {r : List (Int × Int)} {d : Int} (hx : l[k]? = some x) (h : st x r) : go N (l.drop k) r k d = go N (l.drop (k + 1)) (nx r x) (k + 1) (dn r x k d) := by
  have e : l.drop k = x :: l.drop (k + 1) := by
    obtain ⟨h1, h2⟩ := List.getElem?_eq_some_iff.1 hx
    rw [List.drop_eq_getElem_cons h1, h2]
  rw [e, go, if_pos h]
theorem go_stop {N : Int} {l : List Nd} {k : Nat} {x : Nd} {r : List (Int × Int)} {d : Int} (hx : l[k]? = some x) (h : ¬ st x r) : go N (l.drop k) r k d = (0, (k : Int), 243) := by
  have e : l.drop k = x :: l.drop (k + 1) := by
    obtain ⟨h1, h2⟩ := List.getElem?_eq_some_iff.1 hx
    rw [List.drop_eq_getElem_cons h1, h2]
  rw [e, go, if_neg h]
theorem nx_len {r : List (Int × Int)} {x : Nd} (k : Nat) (hr : r.length ≤ k) : (nx r x).length ≤ k + 1 := by
  rw [nx, List.length_append, List.length_take, List.length_singleton]; omega
theorem cr_least (f : Int) : 0 ≤ (cr f).least := by
  unfold cr nth
  repeat' split
  all_goals decide
theorem ls_ite {c : Prop} [Decidable c] {a b : Rl} (ha : 0 ≤ a.least) (hb : 0 ≤ b.least) : 0 ≤ (if c then a else b).least := by
  split
  · exact ha
  · exact hb
theorem ru_least (k f : Int) : 0 ≤ (ru k f).least := by
  unfold ru
  iterate 13 refine ls_ite (by first | decide | exact cr_least f) ?_
  decide
theorem st_n {x : Nd} {r : List (Int × Int)} (h : st x r) : 0 ≤ x.n ∧ x.n ≤ r.length := ⟨Int.le_trans (ru_least _ _) h.1.2.2.2.2.1, h.2.1⟩
/-- Nodes in memory. -/
def LN (w : World) (p : Option Addr) (l : List Nd) : Prop := ∀ i x, l[i]? = some x → ∃ b off, p = some ⟨b, off, none⟩ ∧ w.cell? ⟨b, off + i * 6, none⟩ = some (.int .i64 x.kind) ∧ w.cell? ⟨b, off + i * 6 + 1, none⟩ = some (.int .i64 x.op) ∧ w.cell? ⟨b, off + i * 6 + 2, none⟩ = some (.int .i64 x.ref) ∧ w.cell? ⟨b, off + i * 6 + 3, none⟩ = some (.int .i64 x.n) ∧ w.cell? ⟨b, off + i * 6 + 4, none⟩ = some (.int .u64 x.num) ∧ w.cell? ⟨b, off + i * 6 + 5, none⟩ = some (.string x.str)
theorem LN.on {w w' : World} {p : Option Addr} {l : List Nd} (h : LN w p l) (b : Below w.heap.size w w') : LN w' p l := fun i x hi => by
  obtain ⟨bl, off, e, c0, c1, c2, c3, c4, c5⟩ := h i x hi
  refine ⟨bl, off, e, ?_, ?_, ?_, ?_, ?_, ?_⟩
  · rw [b.cell (cell_lt c0)]; exact c0
  · rw [b.cell (cell_lt c1)]; exact c1
  · rw [b.cell (cell_lt c2)]; exact c2
  · rw [b.cell (cell_lt c3)]; exact c3
  · rw [b.cell (cell_lt c4)]; exact c4
  · rw [b.cell (cell_lt c5)]; exact c5
end Tr

set_option maxHeartbeats 400000 in
theorem tdeep_nil (pp : Option Addr) (cap : Nat) (w : World) : Calls Try.prog 21 #[.slice pp 0 cap] w fun e w' => e = .returned (.int .i64 0) ∧ Below w.heap.size w w' := by
  go_enter Try.func21, Try.ntmps21
  go_wp2_with fail
  go_loopg [3, 8] 0 (fun m dv iv wr => iv = .int .i64 0 ∧ dv = .int .i64 0 ∧ Hid (wr = w))
  case atStart => exact ⟨rfl, rfl, rfl⟩
  case round =>
    obtain ⟨rfl, rfl, hB⟩ := hrel
    go_wp2_with fail
    go_ret
    refine ⟨rfl, ?_⟩
    rw [hB.out]; exact Below.refl _ _
end Go.Proofs.Ythachcidfnjbaaa
