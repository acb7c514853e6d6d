/-
  code's reader, in lists of bytes: what it tells, and that what is written is read again.
-/
import Derived.Test.YtnobafmleellhaaDoorCdP
namespace Go.Proofs.YtnobafmleellhaaDoor
open Go Go.RowKit Go.Deep Go.Shelf

namespace Cd
/-- A reader's place and fault. -/
structure Rd where
  a : Nat
  f : Option Nat
def rf (s : Rd) (p : Nat) : Rd := if s.f.isSome then s else ⟨s.a, some p⟩
abbrev Rdr (α : Type) : Type := Ch.L8 → Rd → α × Rd
def bnd {α β : Type} (r : Rdr α) (k : α → Rdr β) : Rdr β := fun B s => k (r B s).1 B (r B s).2
def ret {α : Type} (v : α) : Rdr α := fun _ s => (v, s)
def take (n : Nat) : Rdr Ch.L8 := fun B s =>
  if s.f.isSome then ([], s) else if B.length - s.a < n then ([], ⟨s.a, some B.length⟩) else ((B.drop s.a).take n, ⟨s.a + n, none⟩)
def next : Rdr UInt8 := bnd (take 1) fun l => ret (l.headD 0)
def mk1 (i : Nat) (c : UInt8) : Rdr Unit := bnd next fun x => fun _ s => ((), if x = c then s else rf s i)
def mark : Rdr Unit := bnd (mk1 0 65) fun _ => bnd (mk1 1 66) fun _ => bnd (mk1 2 67) fun _ => mk1 3 49
/-- Behind a digit that is the last one. -/
def nbe (first i n : Nat) (c : UInt8) : Rdr Nat := fun _ s =>
  let s' := if (c.toNat = 0 ∧ 0 < i) ∨ 2147483647 < n then rf s first else s
  if s'.f.isSome then (0, s') else (n, s')
def nbl (first : Nat) : Nat → Nat → Nat → Rdr Nat
  | 0, _, _ => fun _ s => (0, rf s first)
  | k + 1, i, n => bnd next fun c => if 128 ≤ c.toNat then nbl first k (i + 1) (n + c.toNat % 128 * 2 ^ (7 * i)) else nbe first i (n + c.toNat % 128 * 2 ^ (7 * i)) c
def nb : Rdr Nat := fun B s => nbl s.a 5 0 0 B s
/-- Bytes as a number, the lowest first. -/
def le : Ch.L8 → Nat
  | [] => 0
  | c :: l => c.toNat + 256 * le l
def wd (l : Ch.L8) (j : Nat) : Int := (le ((l.drop (8 * j)).take 8) : Nat)
def wds (n : Nat) (l : Ch.L8) : List Int := (List.range n).map (wd l)
def dbs : Rdr (List Int) := bnd nb fun n => bnd (take (8 * n)) fun l => ret (wds (l.length / 8) l)
def tx1r : Rdr ByteArray := bnd nb fun n => bnd (take n) fun l => ret ⟨l.toArray⟩
def rep {α : Type} (r : Rdr α) : Nat → Rdr (List α)
  | 0 => ret []
  | k + 1 => fun B s => if s.f.isSome then ([], s) else bnd r (fun x => bnd (rep r k) fun l => ret (x :: l)) B s
def txs : Rdr (List ByteArray) := bnd nb (rep tx1r)
def fld (b : Bool) : Rdr Nat := if b then nb else ret 0
def in1 : Rdr In := fun B s =>
  bnd next (fun c => if 1 ≤ c.toNat ∧ c.toNat ≤ 33 then bnd (fld (decide ((row c.toNat).a ≠ 0))) fun a => bnd (fld (decide ((row c.toNat).b ≠ 0))) fun b => ret (⟨c.toNat, a, b⟩ : In)
    else fun _ s' => (⟨0, 0, 0⟩, rf s' s.a)) B s
def ins : Rdr (List In) := bnd nb (rep in1)
/-- All of it; the last test too. -/
def dcd : Rdr (List Int × List ByteArray × List In) := bnd mark fun _ => bnd dbs fun d => bnd txs fun t => bnd ins fun o => fun B s => ((d, t, o), if s.a < B.length then rf s s.a else s)

/-- Behind a fault nothing changes. -/
def Stuck {α : Type} (r : Rdr α) : Prop := ∀ B s, s.f.isSome = true → (r B s).2 = s
theorem stuck_ret {α : Type} (v : α) : Stuck (ret v) := fun _ _ _ => rfl
theorem stuck_bnd {α β : Type} {r : Rdr α} {k : α → Rdr β} (h : Stuck r) (hk : ∀ v, Stuck (k v)) : Stuck (bnd r k) := fun B s hs => by
  show (k (r B s).1 B (r B s).2).2 = s
  rw [h B s hs]
  exact hk _ B s hs
theorem rf_stuck {s : Rd} {p : Nat} (h : s.f.isSome = true) : rf s p = s := by unfold rf; rw [if_pos h]
theorem stuck_take (n : Nat) : Stuck (take n) := fun B s hs => by unfold take; rw [if_pos hs]
theorem stuck_next : Stuck next := stuck_bnd (stuck_take 1) fun _ => stuck_ret _
theorem stuck_mk1 (i : Nat) (c : UInt8) : Stuck (mk1 i c) := stuck_bnd stuck_next fun x => fun _ s hs => by
  show (if x = c then s else rf s i) = s
  split
  · rfl
  · exact rf_stuck hs
theorem stuck_mark : Stuck mark := stuck_bnd (stuck_mk1 0 65) fun _ => stuck_bnd (stuck_mk1 1 66) fun _ => stuck_bnd (stuck_mk1 2 67) fun _ => stuck_mk1 3 49
theorem stuck_nbe (first i n : Nat) (c : UInt8) : Stuck (nbe first i n c) := fun B s hs => by
  have e : (if (c.toNat = 0 ∧ 0 < i) ∨ 2147483647 < n then rf s first else s) = s := by
    split
    · exact rf_stuck hs
    · rfl
  unfold nbe
  simp only [e, hs, if_true]
theorem stuck_nbl (first : Nat) : ∀ (k i n : Nat), Stuck (nbl first k i n)
  | 0, _, _ => fun _ s hs => rf_stuck hs
  | k + 1, i, n => stuck_bnd stuck_next fun c => by
    split
    · exact stuck_nbl first k _ _
    · exact stuck_nbe _ _ _ _
theorem stuck_nb : Stuck nb := fun B s hs => stuck_nbl _ _ _ _ B s hs
theorem stuck_dbs : Stuck dbs := stuck_bnd stuck_nb fun _ => stuck_bnd (stuck_take _) fun _ => stuck_ret _
theorem stuck_tx1r : Stuck tx1r := stuck_bnd stuck_nb fun _ => stuck_bnd (stuck_take _) fun _ => stuck_ret _
theorem stuck_rep {α : Type} {r : Rdr α} : ∀ k, Stuck (rep r k)
  | 0 => stuck_ret _
  | k + 1 => fun B s hs => by
    show (if s.f.isSome = true then (([], s) : List α × Rd) else _).2 = s
    rw [if_pos hs]
theorem stuck_txs : Stuck txs := stuck_bnd stuck_nb fun _ => stuck_rep _
theorem stuck_fld (b : Bool) : Stuck (fld b) := by
  cases b
  · exact stuck_ret _
  · exact stuck_nb
theorem stuck_in1 : Stuck in1 := fun B s hs => by
  refine stuck_bnd stuck_next (fun c => ?_) B s hs
  split
  · exact stuck_bnd (stuck_fld _) fun _ => stuck_bnd (stuck_fld _) fun _ => stuck_ret _
  · exact fun _ s' hs' => rf_stuck hs'
theorem stuck_ins : Stuck ins := stuck_bnd stuck_nb fun _ => stuck_rep _

/-- What is read where these bytes stand; cut off, the end is told. -/
structure Reads {α : Type} (r : Rdr α) (E : Ch.L8) (v : α) : Prop where
  ok : ∀ pre post, r (pre ++ E ++ post) ⟨pre.length, none⟩ = (v, ⟨pre.length + E.length, none⟩)
  cut : ∀ pre j, j < E.length → (r (pre ++ E.take j) ⟨pre.length, none⟩).2.f = some (pre.length + j)
theorem reads_ret {α : Type} (v : α) : Reads (ret v) [] v := ⟨fun pre post => by simp [ret], fun pre j h => by simp at h⟩
theorem reads_bnd {α β : Type} {r : Rdr α} {k : α → Rdr β} {E F : Ch.L8} {v : α} {u : β} (h : Reads r E v) (hk : Reads (k v) F u) (st : ∀ x, Stuck (k x)) : Reads (bnd r k) (E ++ F) u := by
  refine ⟨fun pre post => ?_, fun pre j hj => ?_⟩
  · have e := h.ok pre (F ++ post)
    have e2 := hk.ok (pre ++ E) post
    show k (r _ _).1 _ (r _ _).2 = _
    rw [show pre ++ (E ++ F) ++ post = pre ++ E ++ (F ++ post) by simp, e]
    rw [List.length_append] at e2
    show k v _ ⟨pre.length + E.length, none⟩ = _
    rw [show pre ++ E ++ (F ++ post) = pre ++ E ++ F ++ post by simp, e2, List.length_append, Nat.add_assoc]
  · by_cases c : j < E.length
    · have e := h.cut pre j c
      have et : (E ++ F).take j = E.take j := by rw [List.take_append_of_le_length (by omega)]
      rw [et]
      show (k (r _ _).1 _ (r _ _).2).2.f = _
      rw [st _ _ _ (by rw [e]; rfl)]
      exact e
    · have e := h.ok pre (F.take (j - E.length))
      have et : (E ++ F).take j = E ++ F.take (j - E.length) := by
        rw [List.take_append, List.take_of_length_le (by omega)]
      rw [et]
      show (k (r _ _).1 _ (r _ _).2).2.f = _
      rw [show pre ++ (E ++ F.take (j - E.length)) = pre ++ E ++ F.take (j - E.length) by simp, e]
      rw [List.length_append] at hj
      have e2 := hk.cut (pre ++ E) (j - E.length) (by omega)
      rw [List.length_append] at e2
      refine e2.trans ?_
      congr 1; omega
theorem reads_take (E : Ch.L8) : Reads (take E.length) E E := by
  refine ⟨fun pre post => ?_, fun pre j hj => ?_⟩
  · unfold take
    rw [if_neg (by simp), if_neg (by simp)]
    simp
  · unfold take
    rw [if_neg (by simp), if_pos (by simp; omega)]
    simp; omega
theorem reads_next (c : UInt8) : Reads next [c] c := reads_bnd (F := []) (reads_take [c]) (reads_ret _) fun _ => stuck_ret _
theorem reads_mk1 (i : Nat) (c : UInt8) : Reads (mk1 i c) [c] () := by
  have := reads_bnd (k := fun x => fun _ s => ((), if x = c then s else rf s i)) (F := []) (u := ()) (reads_next c) ⟨fun pre post => by simp, fun pre j h => by simp at h⟩ (fun x => fun _ s hs => by
    show (if x = c then s else rf s i) = s
    split
    · rfl
    · exact rf_stuck hs)
  exact this
theorem reads_mark : Reads mark [65, 66, 67, 49] () :=
  reads_bnd (reads_mk1 0 65) (reads_bnd (reads_mk1 1 66) (reads_bnd (reads_mk1 2 67) (reads_mk1 3 49) fun _ => stuck_mk1 _ _) fun _ => stuck_bnd (stuck_mk1 _ _) fun _ => stuck_mk1 _ _) fun _ => stuck_bnd (stuck_mk1 _ _) fun _ => stuck_bnd (stuck_mk1 _ _) fun _ => stuck_mk1 _ _
end Cd
end Go.Proofs.YtnobafmleellhaaDoor
