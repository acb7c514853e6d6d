/-
  code: listed, quoted, bits.
-/
import Derived.Test.YtnobafmleellhabDoorCdP
import Derived.Laws.BitsLemmas
namespace Go.Proofs.YtnobafmleellhabDoor
open Go Go.RowKit Go.Deep Go.Shelf

namespace Cd
def hexL : Ch.L8 := [48, 49, 50, 51, 52, 53, 54, 55, 56, 57, 97, 98, 99, 100, 101, 102]
def hx (d : Nat) : UInt8 := hexL.getD d 0
def pr (c : UInt8) : Prop := 32 ≤ c.toNat ∧ c.toNat ≤ 126 ∧ c.toNat ≠ 34 ∧ c.toNat ≠ 92
instance (c : UInt8) : Decidable (pr c) := by unfold pr; exact inferInstance
def ls (c : UInt8) : Ch.L8 := if pr c then [c] else [92, 120, hx (c.toNat / 16), hx (c.toNat % 16)]
def qt (s : Ch.L8) : Ch.L8 := 34 :: s.flatMap ls ++ [34]
end Cd
theorem byte_getD (s : ByteArray) (j : Nat) (h : j < s.size) : s[j] = s.data.toList.getD j 0 := by
  have := Lib.data_getElem? s j h
  simp [List.getD, this]
theorem hex_at : ∀ j (h : j < (⟨#[48, 49, 50, 51, 52, 53, 54, 55, 56, 57, 97, 98, 99, 100, 101, 102]⟩ : ByteArray).size), (((⟨#[48, 49, 50, 51, 52, 53, 54, 55, 56, 57, 97, 98, 99, 100, 101, 102]⟩ : ByteArray)[j]'h).toNat : Int) = ((Cd.hx j).toNat : Int) := fun j h => by
  rw [byte_getD]; rfl
theorem cd_and15 (n : Nat) (hn : n < 256) : bits .and .u8 (n : Int) 15 = ((n % 16 : Nat) : Int) := by
  have h15 : (BitVec.ofInt 8 15).toNat = 2 ^ 4 - 1 := by decide
  have e1 : (BitVec.ofInt 8 (n : Int)).toNat = n := by
    rw [BitVec.ofInt_natCast, BitVec.toNat_ofNat]; exact Nat.mod_eq_of_lt (by omega)
  show IntKind.u8.wrap ((BitVec.ofInt 8 (n : Int) &&& BitVec.ofInt 8 15).toNat : Nat) = _
  rw [BitVec.toNat_and, e1, h15, Nat.and_two_pow_sub_one_eq_mod, IntKind.wrap_u8]
  omega
theorem cd_and15l (n : Nat) (hn : n < 18446744073709551616) : bits .and .u64 (n : Int) 15 = ((n % 16 : Nat) : Int) := by
  have h := bits_and_u64_nat n 15 (by omega) (by omega)
  have e : n &&& 15 = n % 16 := Nat.and_two_pow_sub_one_eq_mod n 4
  rw [e] at h
  exact h
set_option maxRecDepth 100000 in
set_option maxHeartbeats 2000000 in
theorem clst_any {w : World} {wb : Nat} {L : Ch.L8} (h : WS w wb L) (c : UInt8) :
    Calls Tryd.prog 39 #[.pointer (some ⟨wb, 0, none⟩), .int .u8 (c.toNat : Int)] w fun e w' => e = .returned (.tuple #[]) ∧ WS w' wb (L ++ Cd.ls c) ∧ Fk wb w w' := by
  have b0 : (0 : Int) ≤ (c.toNat : Int) := by omega
  have b1 : (c.toNat : Int) < 256 := by have := c.toNat_lt; omega
  by_cases hp : Cd.pr c
  · have PU := hid (cput1_any h c _ rfl)
    rw [show Cd.ls c = [c] by unfold Cd.ls; rw [if_pos hp]]
    obtain ⟨p1, p2, p3, p4⟩ := hp
    have q1 : (32 : Int) ≤ (c.toNat : Int) := by omega
    have q2 : (c.toNat : Int) ≤ 126 := by omega
    have q3 : ((c.toNat : Int) == 34) = false := beq_false_of_ne (by omega)
    have q4 : ((c.toNat : Int) == 92) = false := beq_false_of_ne (by omega)
    have q5 : ¬ (c.toNat : Int) = 34 := by omega
    have q6 : ¬ (c.toNat : Int) = 92 := by omega
    have q7 : ((c.toNat : Int) != 34) = true := bne_iff_ne.2 (by omega)
    have q8 : ((c.toNat : Int) != 92) = true := bne_iff_ne.2 (by omega)
    have q9 : decide ((c.toNat : Int) = 34) = false := decide_eq_false (by omega)
    have q10 : decide ((c.toNat : Int) = 92) = false := decide_eq_false (by omega)
    clear p1 p2 p3 p4 h
    generalize (c.toNat : Int) = n at *
    go_enter Tryd.func39, Tryd.ntmps39
    go_wp2_with (go_at_call 31; with_reducible refine PU.out.mono ?_; rintro e w2 ⟨rfl, g1, g2⟩; have F := hid (And.intro g1 g2); clear g1 g2 PU)
    (try simp only [Exit.inBlock, Exit.then])
    refine bodyPost_ret (results_none rfl _ _ _) rfl ?_
    exact ⟨rfl, F.out⟩
  · have e : Cd.ls c = [92, 120, Cd.hx (c.toNat / 16), Cd.hx (c.toNat % 16)] := by unfold Cd.ls; rw [if_neg hp]
    rw [e]
    have PU : Hid (∀ u v : Nat, Calls Tryd.prog 31 #[.pointer (some ⟨wb, 0, none⟩), .slice (some ⟨w.heap.size, 0, none⟩) 4 4] (w.alloc (.cells #[.int .u8 92, .int .u8 120, .int .u8 ((Cd.hx u).toNat : Int), .int .u8 ((Cd.hx v).toNat : Int)] 5)).drew fun e w' => e = .returned (.tuple #[]) ∧ WS w' wb (L ++ [92, 120, Cd.hx u, Cd.hx v]) ∧ Fk wb w w') := fun u v => by
      have a := Below.drew (alloc_b w (.cells #[.int .u8 92, .int .u8 120, .int .u8 ((Cd.hx u).toNat : Int), .int .u8 ((Cd.hx v).toNat : Int)] 5))
      refine (cadd_any (h.on a) [92, 120, Cd.hx u, Cd.hx v] 4 rfl (Bx.new w 5 _) (by have := h.lt; omega) (by omega)).mono ?_
      rintro e w' ⟨rfl, g1, g2⟩
      exact ⟨rfl, g1, (Fk.of a (Nat.le_of_lt h.lt)).trans g2⟩
    have hq : c.toNat < 32 ∨ (32 ≤ c.toNat ∧ 126 < c.toNat) ∨ c.toNat = 34 ∨ c.toNat = 92 := by unfold Cd.pr at hp; omega
    clear e hp h
    generalize c.toNat = n at *
    have hn : n < 256 := by omega
    obtain ⟨u, hu⟩ : ∃ u, n / 16 = u := ⟨_, rfl⟩
    obtain ⟨v, hv⟩ : ∃ v, n % 16 = v := ⟨_, rfl⟩
    rw [hu, hv]
    have i1 : (n : Int) / 16 = (u : Int) := by omega
    have i2 : (n : Int) % 16 = (v : Int) := by omega
    have i3 : u < 16 := by omega
    have i4 : v < 16 := by omega
    have i5 : (u : Int) < 16 := by omega
    have i6 : (v : Int) < 16 := by omega
    have AN := cd_and15 n hn
    rw [hv] at AN
    clear hu hv hn
    have hxu := hex_at u
    have hxv := hex_at v
    rcases hq with q | ⟨q0, q⟩ | q | q
    · have q1 : ¬ (32 : Int) ≤ (n : Int) := by omega
      clear q
      go_enter Tryd.func39, Tryd.ntmps39
      go_wp2_with fail
      go_region_held3 (fun _ => True) (trivial) (first | (go_at_call 31; with_reducible refine (PU.out u v).mono ?_; rintro e w2 ⟨rfl, g1, g2⟩; have F := hid (And.intro g1 g2); clear g1 g2 PU))
      all_goals
        go_wp2_with fail
        go_end0
        exact ⟨rfl, F.out⟩
    · have q1 : (32 : Int) ≤ (n : Int) := by omega
      have q2 : ¬ (n : Int) ≤ 126 := by omega
      clear q q0
      go_enter Tryd.func39, Tryd.ntmps39
      go_wp2_with fail
      go_region_held3 (fun _ => True) (trivial) (first | (go_at_call 31; with_reducible refine (PU.out u v).mono ?_; rintro e w2 ⟨rfl, g1, g2⟩; have F := hid (And.intro g1 g2); clear g1 g2 PU))
      all_goals
        go_wp2_with fail
        go_end0
        exact ⟨rfl, F.out⟩
    · have q1 : (32 : Int) ≤ (n : Int) := by omega
      have q2 : (n : Int) ≤ 126 := by omega
      have q4 : ((n : Int) == 34) = true := by rw [q]; rfl
      have q5 : ((n : Int) != 34) = false := by rw [q]; rfl
      have q6 : decide ((n : Int) = 34) = true := decide_eq_true (by omega)
      clear q
      go_enter Tryd.func39, Tryd.ntmps39
      go_wp2_with fail
      go_region_held3 (fun _ => True) (trivial) (first | (go_at_call 31; with_reducible refine (PU.out u v).mono ?_; rintro e w2 ⟨rfl, g1, g2⟩; have F := hid (And.intro g1 g2); clear g1 g2 PU))
      all_goals
        go_wp2_with fail
        go_end0
        exact ⟨rfl, F.out⟩
    · have q1 : (32 : Int) ≤ (n : Int) := by omega
      have q2 : (n : Int) ≤ 126 := by omega
      have q3 : ((n : Int) == 34) = false := beq_false_of_ne (by omega)
      have q7 : ¬ (n : Int) = 34 := by omega
      have q4 : ((n : Int) == 92) = true := by rw [q]; rfl
      have q5 : ((n : Int) != 92) = false := by rw [q]; rfl
      have q6 : decide ((n : Int) = 92) = true := decide_eq_true (by omega)
      clear q
      go_enter Tryd.func39, Tryd.ntmps39
      go_wp2_with fail
      go_region_held3 (fun _ => True) (trivial) (first | (go_at_call 31; with_reducible refine (PU.out u v).mono ?_; rintro e w2 ⟨rfl, g1, g2⟩; have F := hid (And.intro g1 g2); clear g1 g2 PU))
      all_goals
        go_wp2_with fail
        go_end0
        exact ⟨rfl, F.out⟩
end Go.Proofs.YtnobafmleellhabDoor
