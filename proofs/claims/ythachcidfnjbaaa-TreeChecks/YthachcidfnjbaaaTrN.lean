/-
  tree: nodes and their rules, in whole numbers.
-/
import Derived.Test.YthachcidfnjbaaaTrM
namespace Go.Proofs.Ythachcidfnjbaaa
open Go Go.RowKit Go.Deep

namespace Tr
structure Nd where
  kind : Int
  op : Int
  ref : Int
  n : Int
  num : Int
  str : ByteArray
def en (x : Nd) : List Value := [.int .i64 x.kind, .int .i64 x.op, .int .i64 x.ref, .int .i64 x.n, .int .u64 x.num, .string x.str]
theorem en_len (x : Nd) : (en x).length = 6 := rfl
structure Rl where
  ops : Int
  refs : Int
  least : Int
  most : Int
  num : Bool
  str : Bool
  target : Int
def er (r : Rl) : Array Value := #[.int .i64 r.ops, .int .i64 r.refs, .int .i64 r.least, .int .i64 r.most, .bool r.num, .bool r.str, .int .i64 r.target]
def nth : Rl := ⟨0, 0, 1, 0, false, false, 0⟩
/-- The rule of a function. -/
def cr (f : Int) : Rl :=
  if f = 1 ∨ f = 6 ∨ f = 7 ∨ f = 8 ∨ f = 9 then ⟨13, 0, 1, 1, false, false, 0⟩
  else if f = 2 then ⟨13, 0, 2, 3, false, false, 0⟩
  else if f = 3 then ⟨13, 0, 2, 2, false, false, 0⟩
  else if f = 4 ∨ f = 12 then ⟨13, 0, 1, 65536, false, false, 0⟩
  else if f = 5 then ⟨13, 63, 2, 2, false, false, 0⟩
  else if f = 10 ∨ f = 11 then ⟨13, 0, 3, 3, false, false, 3⟩
  else if f = 13 then ⟨13, 63, 0, 0, false, false, 0⟩
  else nth
/-- The rule of a kind. -/
def ru (k f : Int) : Rl :=
  if k = 1 then ⟨0, 0, 0, 0, true, false, 0⟩
  else if k = 2 then ⟨0, 0, 0, 0, false, true, 0⟩
  else if k = 3 then ⟨0, 255, 0, 0, false, false, 0⟩
  else if k = 5 ∨ k = 6 then ⟨0, 63, 1, 65536, false, false, 0⟩
  else if k = 4 ∨ k = 7 ∨ k = 8 ∨ k = 9 then ⟨0, 0, 1, 1, false, false, 0⟩
  else if k = 11 ∨ k = 13 ∨ k = 14 then ⟨0, 0, 2, 2, false, false, 0⟩
  else if k = 10 then ⟨6, 0, 2, 2, false, false, 0⟩
  else if k = 12 then ⟨6, 0, 2, 2, false, false, 0⟩
  else if k = 15 then ⟨0, 0, 3, 3, false, false, 0⟩
  else if k = 16 then ⟨0, 0, 2, 2, false, false, 1⟩
  else if k = 17 then ⟨6, 0, 2, 2, false, false, 1⟩
  else if k = 18 then ⟨4, 0, 1, 1, false, false, 1⟩
  else if k = 19 then cr f
  else nth
/-- The fields hold what the rule lets them. -/
def fit (x : Nd) (r : Rl) : Prop := min 1 r.ops ≤ x.op ∧ x.op ≤ r.ops ∧ 0 ≤ x.ref ∧ x.ref ≤ r.refs ∧ r.least ≤ x.n ∧ x.n ≤ r.most ∧ (r.num = true ∨ x.num = 0) ∧ (r.str = true ∨ x.str.toList = [])
def isT (k : Int) : Prop := 3 ≤ k ∧ k ≤ 5
/-- The deepest of a row. -/
def dp (r : List (Int × Int)) : Int := r.foldl (fun d a => max d a.2) 0
def es (a : Int × Int) : List Value := [.int .i64 a.1, .int .i64 a.2]
theorem es_len (a : Int × Int) : (es a).length = 2 := rfl
def ei (a : Int) : List Value := [.int .i64 a]
theorem ei_len (a : Int) : (ei a).length = 1 := rfl
/-- A node stands behind a row. -/
def st (x : Nd) (r : List (Int × Int)) : Prop := fit x (ru x.kind x.op) ∧ x.n ≤ r.length ∧ ((ru x.kind x.op).target = 0 ∨ isT (r.getD (r.length - x.n.toNat + ((ru x.kind x.op).target.toNat - 1)) (0, 0)).1)
instance (x : Nd) (r : Rl) : Decidable (fit x r) := by unfold fit; exact inferInstance
instance (k : Int) : Decidable (isT k) := by unfold isT; exact inferInstance
instance (x : Nd) (r : List (Int × Int)) : Decidable (st x r) := by unfold st; exact inferInstance
end Tr
end Go.Proofs.Ythachcidfnjbaaa
