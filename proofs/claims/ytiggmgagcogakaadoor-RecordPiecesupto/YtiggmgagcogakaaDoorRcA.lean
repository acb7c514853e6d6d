/-
  record: rounds of iterators, at the wide fence; single.
-/
import Derived.Test.YtiggmgagcogakaaDoorChMem
import Derived.RangeFuncNested
import Derived.RangeFuncBound
import Derived.RangeFuncCalls
import Derived.RangeFuncLeaves
import Derived.Shelf.Abstract
import Derived.Shelf.RegionOpen
import Derived.WalkKit
import Derived.OwnWalkIn
import Derived.TacticsInMore
import Derived.LoopNIn
import Derived.LoopIn
namespace Go.Proofs.YtiggmgagcogakaaDoor
open Go Go.RowKit Go.Deep Go.Shelf

attribute [local go_sem] Oper.semAt_some

/-- A round that yield asks for, at the wide fence, however deep. -/
def Yd (l : Nat) (args : Array Value) (W : World) (R : Ending → World → Prop) : Prop := ∀ m, YieldAt Fence.wide m Tryd.prog l args W R
theorem yd_of {m l : Nat} {args : Array Value} {W : World} {R : Ending → World → Prop} (h : YieldAt Fence.wide m Tryd.prog l args W R) : Yd l args W R := fun m' => by
  obtain ⟨fn, tmps, assign, body, hy, h1, h2⟩ := h
  exact ⟨fn, tmps, assign, body, hy, h1, fun c cs _ => h2 c cs (room_wide _)⟩
/-- The blocks of Z lie as they lay. -/
def Kz (Z : Nat → Prop) (W W' : World) : Prop := W.heap.size ≤ W'.heap.size ∧ ∀ j, Z j → W'.heap[j]? = W.heap[j]?
theorem Kz.refl (Z : Nat → Prop) (W : World) : Kz Z W W := ⟨Nat.le_refl _, fun _ _ => rfl⟩
theorem Kz.trans {Z : Nat → Prop} {A B C : World} (h : Kz Z A B) (k : Kz Z B C) : Kz Z A C := ⟨Nat.le_trans h.1 k.1, fun j hj => (k.2 j hj).trans (h.2 j hj)⟩
theorem Kz.cell {Z : Nat → Prop} {A B : World} (h : Kz Z A B) {b i : Nat} {v : Value} (hb : Z b) (hc : A.cell? ⟨b, i, none⟩ = some v) : B.cell? ⟨b, i, none⟩ = some v := by
  rw [← hc]
  exact World.cell?_of_block (h.2 b hb)
theorem Kz.of {Z : Nat → Prop} {A B : World} (h : Below A.heap.size A B) (hz : ∀ j, Z j → j < A.heap.size) : Kz Z A B := ⟨h.size, fun j hj => h.block j (hz j hj)⟩
theorem Kz.mono {Z Y : Nat → Prop} {A B : World} (h : Kz Z A B) (q : ∀ j, Y j → Z j) : Kz Y A B := ⟨h.1, fun j hj => h.2 j (q j hj)⟩
/-- An iterator of places: N rounds, each with its two numbers. -/
def Fd (g : Nat) (lb : Array Value) (fr up : Nat → Nat) (N : Nat) (Z : Nat → Prop) (w : World) : Prop :=
  ∀ (l : Nat) (J Jx : Nat → World → Prop) (W : World), Kz Z w W → (∀ k A B, J k A → Below A.heap.size A B → J k B) →
    (∀ k W1, k < N → J k W1 → Yd l #[.int .i64 (fr k : Int), .int .i64 (up k : Int)] W1 fun e W' => (e = .returned (.bool true) ∧ J (k + 1) W' ∧ Kz Z W1 W') ∨ (e = .returned (.bool false) ∧ Jx (k + 1) W')) →
    J 0 W → CallsIn Fence.wide 0 Tryd.prog g (#[.func (.yield l) #[] #[]] ++ lb) W fun e W' => (∃ v, e = .returned v) ∧ (J N W' ∨ ∃ k, k ≤ N ∧ Jx k W')

set_option maxRecDepth 100000 in
set_option maxHeartbeats 2000000 in
theorem single1_feeds (s : ByteArray) (b : Nat) (Z : Nat → Prop) (w : World) (hb : Z b) (hc : w.cell? ⟨b, 0, none⟩ = some (.string s)) (hs : s.size ≤ 140737488355400) :
    Fd 32 #[.pointer (some ⟨b, 0, none⟩)] (fun k => k) (fun k => k + 1) s.size Z w := fun l J Jx W hW hJ hY h0 => by
  have hc' := hW.cell hb hc
  have hsi : (s.size : Int) ≤ 140737488355400 := by omega
  refine callsIn_of_wp Tryd.func32 rfl trivial ?_ rfl
  simp only [Tryd.ntmps32, List.size_toArray, List.length_cons, List.length_nil, Nat.reduceAdd, Nat.reduceSub, Array.replicate_succ, Array.replicate_zero, List.push_toArray, List.append_toArray, List.nil_append, List.cons_append]
  gi_wp2
  gi_loopw [6] (fun i wr => ∃ k : Nat, k ≤ s.size ∧ i = .int .i64 k ∧ J k wr) (fun i _ => s.size - (intOf i).toNat)
  case atStart => exact ⟨0, Nat.zero_le _, rfl, h0⟩
  case round =>
    obtain ⟨k, hk, rfl, hJs⟩ := hrel
    by_cases hlt : k < s.size
    · have hli : (k : Int) < (s.size : Int) := by omega
      obtain ⟨fn, tmps, assign, body, hy, hR⟩ := hY k wr hlt hJs 0
      rw [show ((k + 1 : Nat) : Int) = (k : Int) + 1 from rfl] at hy
      gi_wp2
      refine ⟨rfl, hR.mono ?_⟩
      rintro e W3 (⟨rfl, hJ3, hk3⟩ | ⟨rfl, hJx3⟩)
      · gi_wp2
        go_roundw
        case rel => exact ⟨k + 1, by omega, by simp, hJ3⟩
        case measure => simp [intOf]; omega
      · gi_wp2
        refine bodyPost_ret (results_none rfl _ _ _) rfl ?_
        exact ⟨⟨_, rfl⟩, .inr ⟨k + 1, by omega, hJx3⟩⟩
    · obtain rfl : k = s.size := by omega
      gi_wp2
      go_end0
      exact ⟨⟨_, rfl⟩, .inl hJs⟩
end Go.Proofs.YtiggmgagcogakaaDoor
