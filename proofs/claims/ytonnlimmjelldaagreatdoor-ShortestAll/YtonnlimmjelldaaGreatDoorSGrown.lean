/-
  layer 3's reference: grown.
-/
import Derived.Test.YtonnlimmjelldaaGreatDoorSPush
import Derived.Test.YtonnlimmjelldaaGreatDoorRefNum
import Derived.Test.YtonnlimmjelldaaGreatDoorSmallA
import Derived.Laws.Bits64b
namespace Go.Proofs.YtonnlimmjelldaaGreatDoor
namespace Nm
theorem sv32_set : ∀ (zs : List Int) (i : Nat) (s : Int), i < zs.length → v32 (zs.set i s) = v32 zs + p32 i * (s - zs.getD i 0)
  | [], _, _, h => by simp at h
  | z :: zs, 0, s, _ => by simp only [List.set_cons_zero, v32, p32, List.getD_cons_zero]; omega
  | z :: zs, i + 1, s, h => by
    have := sv32_set zs i s (by simpa using h)
    simp only [List.set_cons_succ, v32, p32, List.getD_cons_succ, this, Int.mul_add, Int.mul_assoc]
    omega

theorem Halves.set {zs : List Int} (h : Halves zs) (i : Nat) {s : Int} (h0 : 0 ≤ s) (h1 : s < 4294967296) : Halves (zs.set i s) := by
  intro z hz
  rcases List.mem_or_eq_of_mem_set hz with a | rfl
  · exact h z a
  · exact ⟨h0, h1⟩

/-- No half too many. -/
def Tight (hs : List Int) : Prop := hs = [] ∨ p32 (hs.length - 1) ≤ v32 hs

theorem grow_step {p h m c lo c' T U X : Int} (he : lo + 4294967296 * c' = h * m + c) (hI : X + p * c = m * T + U) : X + p * (lo - h) + p * 4294967296 * c' = m * (T + p * h) + (U - p * h) := by
  have e1 : p * lo + p * (4294967296 * c') = p * (h * m) + p * c := by rw [← Int.mul_add, ← Int.mul_add, he]
  have e2 : p * (h * m) = m * (p * h) := by rw [← Int.mul_assoc, Int.mul_comm]
  rw [Int.mul_sub, Int.mul_add, Int.mul_assoc]
  omega
end Nm
open Go.RowKit Go.Deep

theorem r_mask32 (x : Int) (h0 : 0 ≤ x) (h1 : x < 18446744073709551616) : bits .and .u64 x 4294967295 = x % 4294967296 := by
  obtain ⟨n, rfl⟩ := Int.eq_ofNat_of_zero_le h0
  have h := bits_and_u64_nat n 4294967295 (by omega) (by omega)
  have e : n &&& 4294967295 = n % 4294967296 := Nat.and_two_pow_sub_one_eq_mod n 32
  rw [e] at h
  rw [show (4294967295 : Int) = ((4294967295 : Nat) : Int) from rfl, h]
  omega


/-- What grown tells. -/
def GrownTold (base : Nat) (hs : List Int) (m c : Int) (w : World) (e : Ending) (w' : World) : Prop :=
  ∃ mv hs', e = .returned mv ∧ Row64 base w' mv hs' ∧ Nm.Halves hs' ∧ Nm.v32 hs' = m * Nm.v32 hs + c ∧ hs'.length ≤ hs.length + 1 ∧ (Nm.Tight hs → Nm.Tight hs') ∧ Below base w w'

def GInv (base : Nat) (hs os : List Int) (m c0 c : Int) (i : Nat) (mv : Value) (w wr : World) : Prop :=
  Row64 base wr mv os ∧ os.length = hs.length ∧ Nm.Halves os ∧ (∀ j, i ≤ j → os.getD j 0 = hs.getD j 0) ∧ Nm.v32 os + Nm.p32 i * c = m * Nm.v32 (hs.take i) + (Nm.v32 hs - Nm.v32 (hs.take i) + c0) ∧ Below base w wr

theorem GInv.step {base : Nat} {hs os : List Int} {m c0 c : Int} {i g n cap : Nat} {w wr : World} (I : GInv base hs os m c0 c i (.slice (some ⟨g, 0, none⟩) n cap) w wr) (hi : i < hs.length) {lo c' : Int} (he : lo + 4294967296 * c' = hs.getD i 0 * m + c) (h0 : 0 ≤ lo) (h1 : lo < 4294967296) (hb : base ≤ g) :
    GInv base hs (os.set i lo) m c0 c' (i + 1) (.slice (some ⟨g, 0, none⟩) n cap) w (wr.setCell ⟨g, i, none⟩ (.int .u64 lo)) := by
  obtain ⟨i1, i2, i3, i4, i5, i6⟩ := I
  refine ⟨i1.set i lo, by simpa using i2, i3.set i h0 h1, fun j hj => ?_, ?_, i6.trans ⟨rfl, rfl, rfl, by simp [World.setCell], fun j hj => ?_⟩⟩
  · rw [← i4 j (by omega)]
    simp [List.getD, show ¬ i = j by omega]
  · rw [Nm.sv32_set os i lo (by omega), i4 i (Nat.le_refl _), Nm.v32_take_succ hs i hi]
    have := Nm.grow_step he i5
    rw [Nm.p32]
    generalize Nm.p32 i = p at *
    rw [show 4294967296 * p * c' = p * 4294967296 * c' by rw [Int.mul_comm 4294967296 p]]
    omega
  · simp only [World.setCell, Array.getElem?_modify]
    rw [if_neg (by omega)]

end Go.Proofs.YtonnlimmjelldaaGreatDoor
