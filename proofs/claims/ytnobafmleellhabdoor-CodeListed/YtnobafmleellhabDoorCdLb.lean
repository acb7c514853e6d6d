/-
  abacuslaw26: number.
-/
import Derived.Test.YtnobafmleellhabDoorCdLa
import Derived.Laws.Concat
namespace Go.Proofs.YtnobafmleellhabDoor
open Go Go.RowKit Go.Deep Go.Shelf

namespace Cd
def c10 (k : Nat) : UInt8 := UInt8.ofNat (48 + k)
/-- The digits behind a place: what is still to come, and what is told. -/
def dn (n m : Nat) (v : Ch.L8) : Prop := Lib.decDigits n = (if m = 0 then [] else Lib.decDigits m) ++ v
theorem dn_first (n : Nat) : dn n (n / 10) [c10 (n % 10)] := by
  unfold dn c10
  by_cases h : n < 10
  · rw [Lib.decDigits, dif_pos h, if_pos (by omega), Nat.mod_eq_of_lt h]; rfl
  · rw [if_neg (by omega)]; conv => lhs; rw [Lib.decDigits, dif_neg h]
theorem dn_next {n m : Nat} {v : Ch.L8} (h : dn n m v) (hm : 0 < m) : dn n (m / 10) (c10 (m % 10) :: v) := by
  unfold dn c10 at *
  rw [if_neg (by omega)] at h
  by_cases c : m < 10
  · rw [h, Lib.decDigits, dif_pos c, if_pos (by omega), Nat.mod_eq_of_lt c]; rfl
  · rw [h, if_neg (by omega)]
    conv => lhs; rw [Lib.decDigits, dif_neg c]
    rw [List.append_assoc]; rfl
theorem dn_len {n m : Nat} {v : Ch.L8} (h : dn n m v) (hn : n ≤ 9223372036854775807) : v.length ≤ 21 := by
  have := Lib.itoa_length_le n (by omega) (by omega)
  rw [Lib.itoa_nonneg, h, List.length_append] at this
  omega
end Cd
theorem cv_one (W : World) (k : Nat) (hk : k < 10) : (convert 42 9 (.slice (some ⟨W.heap.size, 0, none⟩) 1 1)).run Tryd.prog (W.alloc (.cells #[.int .u8 (48 + (k : Int))] 5)) = .ok (.string (Ch.tx [Cd.c10 k])) (W.alloc (.cells #[.int .u8 (48 + (k : Int))] 5)) := by
  refine run_convert_bytes_back (P := Tryd.prog) _ 42 9 5 ⟨W.heap.size, 0, none⟩ 1 [Cd.c10 k] Tryd.underlying42 Tryd.underlying5 Tryd.underlying9 fun j hj => ?_
  have j0 : j = 0 := by simpa using hj
  subst j0
  have e : ((Cd.c10 k).toNat : Int) = 48 + (k : Int) := by
    rw [Cd.c10, UInt8.toNat_ofNat']; omega
  have := (Bx.new W 5 #[.int .u8 (48 + (k : Int))]).cell 0 (.int .u8 (48 + (k : Int))) rfl
  rw [show ([Cd.c10 k])[0] = Cd.c10 k from rfl, e]
  exact this
set_option maxRecDepth 100000 in
set_option maxHeartbeats 2000000 in
theorem lnumb_any (n : Nat) (w : World) (hn : n ≤ 9223372036854775807) :
    Calls Tryd.prog 13 #[.int .i64 (n : Int)] w fun e w' => e = .returned (.string ⟨(Lib.itoa n).toArray⟩) ∧ Below w.heap.size w w' := by
  have n0 : (0 : Int) ≤ (n : Int) := by omega
  have n1 : (n : Int) ≤ 9223372036854775807 := by omega
  have F0 := hid (Cd.dn_first n)
  have FE : Hid (∀ v, Cd.dn n 0 v → v = Lib.itoa n) := fun v h => by
    unfold Cd.dn at h
    rw [if_pos rfl, List.nil_append] at h
    rw [Lib.itoa_nonneg, h]
  have FL : Hid (∀ m v, Cd.dn n m v → v.length ≤ 21) := fun m v h => Cd.dn_len h hn
  have FN : Hid (∀ m v, Cd.dn n m v → 0 < m → _) := fun m v h k => Cd.dn_next h k
  generalize Lib.itoa n = I at *
  obtain ⟨d, hd⟩ : ∃ d, n % 10 = d := ⟨_, rfl⟩
  obtain ⟨u, hu⟩ : ∃ u, n / 10 = u := ⟨_, rfl⟩
  rw [hd, hu] at F0
  have e1 : (n : Int).tmod 10 = (d : Int) := by rw [Int.tmod_eq_emod_of_nonneg n0]; omega
  have e2 : (n : Int).tdiv 10 = (u : Int) := by rw [Int.tdiv_eq_ediv_of_nonneg n0]; omega
  have d0 : (0 : Int) ≤ (d : Int) := by omega
  have d1 : (d : Int) < 10 := by omega
  have u1 : u ≤ 922337203685477580 := by omega
  have CV := fun W => cv_one W d (by omega)
  clear hd hu
  go_enter Tryd.func13, Tryd.ntmps13
  go_upto_region 3 with fail
  have B0 := hid (alloc_b w (.cells #[.int .u8 (48 + (d : Int))] 5))
  generalize w.alloc (.cells #[.int .u8 (48 + (d : Int))] 5) = w1 at *
  clear CV e1 e2 d0 d1
  have S0 : Hid (Cd.dn n u [Cd.c10 d] ∧ u ≤ 922337203685477580 ∧ Below w.heap.size w w1) := ⟨F0.out, u1, B0.out⟩
  go_loopg [0, 3] u (fun m nv sv wr => ∃ (k : Nat) (v : Ch.L8), k + 0 = m ∧ nv = .int .i64 (k : Int) ∧ sv = .string (Ch.tx v) ∧ Hid (Cd.dn n k v ∧ k ≤ 922337203685477580 ∧ Below w.heap.size w wr))
  case atStart => exact ⟨u, _, rfl, rfl, rfl, S0⟩
  case round =>
    obtain ⟨m, v, hk, rfl, rfl, J⟩ := hrel
    clear S0 F0 B0
    by_cases hm : 0 < m
    · obtain ⟨d, hd⟩ : ∃ d, m % 10 = d := ⟨_, rfl⟩
      obtain ⟨u, hu⟩ : ∃ u, m / 10 = u := ⟨_, rfl⟩
      have mi : (0 : Int) < (m : Int) := by omega
      have F0 := hid (FN.out m v J.out.1 hm)
      rw [hd, hu] at F0
      have e1 : (m : Int).tmod 10 = (d : Int) := by rw [Int.tmod_eq_emod_of_nonneg (by omega)]; omega
      have e2 : (m : Int).tdiv 10 = (u : Int) := by rw [Int.tdiv_eq_ediv_of_nonneg (by omega)]; omega
      have d0 : (0 : Int) ≤ (d : Int) := by omega
      have d1 : (d : Int) < 10 := by omega
      have m1 : (m : Int) ≤ 922337203685477580 := by have := J.out.2.1; omega
      have u1 : u ≤ 922337203685477580 := by omega
      have u2 : (u : Int) ≤ 922337203685477580 := by omega
      have um : u < m := by omega
      have CV := fun W => cv_one W d (by omega)
      have s1 : (Ch.tx [Cd.c10 d]).size = 1 := rfl
      have s2 : (Ch.tx v).size ≤ 21 := FL.out m v J.out.1
      have AP : Ch.tx [Cd.c10 d] ++ Ch.tx v = Ch.tx (Cd.c10 d :: v) := ByteArray.mk_append_mk [Cd.c10 d] v
      have B0 := hid (below_on J.out.2.2 (alloc_b wr (.cells #[.int .u8 (48 + (d : Int))] 5)))
      have S1 : Hid (Cd.dn n u (Cd.c10 d :: v) ∧ u ≤ 922337203685477580 ∧ Below w.heap.size w (wr.alloc (.cells #[.int .u8 (48 + (d : Int))] 5))) := ⟨F0.out, u1, B0.out⟩
      clear hd hu F0 B0 J
      go_wp2_with fail
      go_roundg u
      case measure => omega
      case rel => exact ⟨u, _, by omega, rfl, rfl, S1⟩
    · have m0 : m = 0 := by omega
      subst m0
      have E := FE.out v J.out.1
      go_wp2_with fail
      go_ret
      exact ⟨by rw [← E]; rfl, J.out.2.2⟩
end Go.Proofs.YtnobafmleellhabDoor
