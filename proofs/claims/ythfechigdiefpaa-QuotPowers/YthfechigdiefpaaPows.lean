/-
  Texts put together: QPow5, QPowers.
-/
import Derived.Test.YthfechigdiefpaaQPow2
import Derived.Test.YthfechigdiefpaaRPow23
import Derived.Test.YthfechigdiefpaaPairs
namespace Go.Proofs.Ythfechigdiefpaa
open Go.RowKit Go.Deep

theorem pow5_gives (k : Int) (n : Nat) (w : World) (hk : k = (n : Int)) (hk1 : k ≤ 9223372036854775807) :
    Calls Try.prog 28 #[.int .i64 k] w fun e w' => Gives (5 ^ n) w e w' := by
  have hb : Below w.heap.size w (w.alloc (.cells #[.int .u64 5] 26)) := (Below.refl _ _).alloc (Nat.le_refl _) _
  have A : Arg (w.alloc (.cells #[.int .u64 5] 26)) (some ⟨w.heap.size, 0, none⟩) 1 1 [5] := ⟨rfl, Nat.le_refl _, by omega, (Own.alloc w [5]).lies, limb_one (by omega)⟩
  have P := hid (pow_gives _ 1 1 [5] 5 k n _ A (by simp [Nm.tsize]) (by simp [Nm.val]) hk hk1)
  have HB := hid hb
  clear hb A hk
  go_enter Try.func28, Try.ntmps28
  go_wp2_with fail
  refine P.out.mono ?_
  rintro e w1 ⟨h | h, hb1⟩
  · obtain ⟨h1, r, os, rfl, A1⟩ := h
    have G : Hid (Gives (5 ^ n) w (.returned (.tuple #[.slice r (List.length os) (List.length os), .int .i64 0])) w1) := ⟨.inl ⟨h1, r, os, rfl, A1.upT HB.out.size⟩, chain HB.out hb1 (Nat.le_refl _)⟩
    clear h1 A1 hb1
    go_wp2_with fail
    go_ret2
    exact G.out
  · obtain ⟨h1, rfl⟩ := h
    have G : Hid (Gives (5 ^ n) w (.returned (.tuple #[.slice none 0 0, .int .i64 2])) w1) := ⟨.inr ⟨h1, rfl⟩, chain HB.out hb1 (Nat.le_refl _)⟩
    clear h1 hb1
    go_wp2_with fail
    go_ret2
    exact G.out
end Go.Proofs.Ythfechigdiefpaa

namespace Go.Proofs.Ythfechigdiefpaa
open Go.RowKit Go.Deep

theorem alike_zero (w : World) : Calls Try.prog 13 #[.slice none 0 0, .slice none 0 0] w fun e w' => e = .returned (.bool true) ∧ Below w.heap.size w w' :=
  alike_is true none none 0 0 0 0 [] [] w ⟨rfl, Nat.le_refl _, by omega, Lies.nil _ _, Nm.Limbs.nil⟩ ⟨rfl, Nat.le_refl _, by omega, Lies.nil _ _, Nm.Limbs.nil⟩ rfl

/-- What one of the three calls answers: an error, with nothing; or a number. -/
def Says (E T : Int) (B : Nat) (r : Option Addr) (os : List Int) (w : World) : Prop := (E = 0 ∧ T < Nm.pw 4096 ∧ Ans B w r os T) ∨ (E ≠ 0 ∧ r = none ∧ os = [])

theorem Says.below {E T : Int} {B : Nat} {r : Option Addr} {os : List Int} {w w' : World} (h : Says E T B r os w) (hb : Below w.heap.size w w') : Says E T B r os w' := by
  rcases h with ⟨h1, h2, h3⟩ | h
  · exact .inl ⟨h1, h2, h3.below hb (Nat.le_refl _)⟩
  · exact .inr h

theorem says_alike {E T : Int} {B B' : Nat} {r s : Option Addr} {os us : List Int} {w : World} (h : Says E T B r os w) (k : Says E T B' s us w) :
    Calls Try.prog 13 #[.slice r (List.length os) (List.length os), .slice s (List.length us) (List.length us)] w fun e w' => e = .returned (.bool true) ∧ Below w.heap.size w w' := by
  rcases h with ⟨h1, h2, h3⟩ | ⟨h1, rfl, rfl⟩
  · rcases k with ⟨_, _, k3⟩ | ⟨k1, _, _⟩
    · exact alike_ans h3 k3 (by have := h3.small h2; omega)
    · exact absurd h1 k1
  · rcases k with ⟨k1, _, _⟩ | ⟨_, rfl, rfl⟩
    · exact absurd k1 h1
    · exact alike_zero w

/-- The error of a power: the size of what came in, its exponent, the size of the answer. -/
noncomputable def powE (big : Prop) (k T : Int) : Int := by
  classical
  exact if big then 2 else if k < 0 then 1 else if Nm.pw 4096 ≤ T then 2 else 0

theorem Gives.says {T k : Int} {n : Nat} {big : Prop} {w : World} {e : Ending} {w' : World} (hb : ¬ big) (hk : 0 ≤ k) (h : Gives T w e w') (_hn : k.toNat = n) :
    ∃ r os, e = .returned (.tuple #[.slice r (List.length os) (List.length os), .int .i64 (powE big k T)]) ∧ Hid (Says (powE big k T) T w.heap.size r os w') ∧ Below w.heap.size w w' := by
  obtain ⟨h | h, hbl⟩ := h
  · obtain ⟨h1, r, os, rfl, h2⟩ := h
    have e0 : powE big k T = 0 := by
      simp only [powE]
      rw [if_neg hb, if_neg (by omega), if_neg (Int.not_le.2 h1)]
    rw [e0]
    exact ⟨r, os, rfl, .inl ⟨rfl, h1, h2⟩, hbl⟩
  · obtain ⟨h1, rfl⟩ := h
    have e0 : powE big k T = 2 := by
      simp only [powE]
      rw [if_neg hb, if_neg (by omega), if_pos h1]
    rw [e0]
    exact ⟨none, [], rfl, .inr ⟨by omega, rfl, rfl⟩, hbl⟩

theorem says_big {big : Prop} {k T : Int} (hb : big) : powE big k T = 2 := by
  simp only [powE]
  rw [if_pos hb]

theorem says_neg {big : Prop} {k T : Int} (hb : ¬ big) (hk : k < 0) : powE big k T = 1 := by
  simp only [powE]
  rw [if_neg hb, if_pos hk]

/-- What Pow answers, whatever comes in. -/
def SaysAll (big : Prop) (k T : Int) (w : World) (e : Ending) (w' : World) : Prop :=
  ∃ r os, e = .returned (.tuple #[.slice r (List.length os) (List.length os), .int .i64 (powE big k T)]) ∧ Hid (Says (powE big k T) T w.heap.size r os w') ∧ Below w.heap.size w w'

theorem says_two {big : Prop} {k T : Int} {w w' : World} (hb : big) (hbl : Below w.heap.size w w') : SaysAll big k T w (.returned (.tuple #[.slice none 0 0, .int .i64 2])) w' := by
  refine ⟨none, [], by rw [says_big hb]; rfl, ?_, hbl⟩
  rw [says_big hb]
  exact .inr ⟨by omega, rfl, rfl⟩

theorem says_one {big : Prop} {k T : Int} {w w' : World} (hb : ¬ big) (hk : k < 0) (hbl : Below w.heap.size w w') : SaysAll big k T w (.returned (.tuple #[.slice none 0 0, .int .i64 1])) w' := by
  refine ⟨none, [], by rw [says_neg hb hk]; rfl, ?_, hbl⟩
  rw [says_neg hb hk]
  exact .inr ⟨by omega, rfl, rfl⟩

theorem pow_says (p : Option Addr) (m cap : Nat) (zs : List Int) (A k : Int) (w : World) (ha : Arg w p m cap zs) (hA : Nm.val zs = A) (hk : k ≤ 9223372036854775807) :
    Calls Try.prog 26 #[.slice p m cap, .int .i64 k] w fun e w' => SaysAll (4096 < Nm.tsize zs) k (A ^ k.toNat) w e w' := by
  by_cases hb : 4096 < Nm.tsize zs
  · refine (pow_big p m cap zs k w ha hb).mono ?_
    rintro e w' ⟨rfl, rfl⟩
    exact says_two hb (Below.refl _ _)
  by_cases hn : k < 0
  · refine (pow_neg p m cap zs k w ha (by omega) hn).mono ?_
    rintro e w' ⟨rfl, rfl⟩
    exact says_one hb hn (Below.refl _ _)
  · exact (pow_gives p m cap zs A k k.toNat w ha (by omega) hA (by omega) hk).mono fun e w' h => h.says hb (by omega) rfl

theorem rpow_says (p : Option Addr) (m cap : Nat) (zs : List Int) (A k : Int) (w : World) (ha : Arg w p m cap zs) (hA : Nm.val zs = A) (hk : k ≤ 9223372036854775807) :
    Calls Try.prog 25 #[.slice p m cap, .int .i64 k] w fun e w' => SaysAll (4096 < Nm.tsize zs) k (A ^ k.toNat) w e w' := by
  by_cases hb : 4096 < Nm.tsize zs
  · refine (rpow_big p m cap zs k w ha hb).mono ?_
    rintro e w' ⟨rfl, rfl⟩
    exact says_two hb (Below.refl _ _)
  by_cases hn : k < 0
  · refine (rpow_neg p m cap zs k w ha (by omega) hn).mono ?_
    rintro e w' ⟨rfl, rfl⟩
    exact says_one hb hn (Below.refl _ _)
  · exact (rpow_gives p m cap zs A k k.toNat w ha (by omega) hA (by omega) (by omega)).mono fun e w' h => h.says hb (by omega) rfl

theorem five_says (k : Int) (w : World) (hk : k ≤ 9223372036854775807) : Calls Try.prog 28 #[.int .i64 k] w fun e w' => SaysAll False k (5 ^ k.toNat) w e w' := by
  by_cases hn : k < 0
  · refine (five_neg k w hn).mono ?_
    rintro e w' ⟨rfl, hb⟩
    exact says_one (fun h => h) hn hb
  · exact (pow5_gives k k.toNat w (by omega) hk).mono fun e w' h => h.says (fun h => h) (by omega) rfl

theorem rfive_says (k : Int) (w : World) (hk : k ≤ 9223372036854775807) : Calls Try.prog 27 #[.int .i64 k] w fun e w' => SaysAll False k (5 ^ k.toNat) w e w' := by
  by_cases hn : k < 0
  · refine (rfive_neg k w hn).mono ?_
    rintro e w' ⟨rfl, hb⟩
    exact says_one (fun h => h) hn hb
  · exact (rpow5_gives k k.toNat w (by omega) (by omega)).mono fun e w' h => h.says (fun h => h) (by omega) rfl

theorem ten_says (k : Int) (w : World) (hk : k ≤ 9223372036854775807) : Calls Try.prog 30 #[.int .i64 k] w fun e w' => SaysAll False k (10 ^ k.toNat) w e w' := by
  by_cases hn : k < 0
  · refine (ten_neg k w hn).mono ?_
    rintro e w' ⟨rfl, hb⟩
    exact says_one (fun h => h) hn hb
  · exact (pow10_gives k k.toNat w (by omega) hk).mono fun e w' h => h.says (fun h => h) (by omega) rfl

theorem rten_says (k : Int) (w : World) (hk : k ≤ 9223372036854775807) : Calls Try.prog 29 #[.int .i64 k] w fun e w' => SaysAll False k (10 ^ k.toNat) w e w' := by
  by_cases hn : k < 0
  · refine (rten_neg k w hn).mono ?_
    rintro e w' ⟨rfl, hb⟩
    exact says_one (fun h => h) hn hb
  · exact (rpow10_gives k k.toNat w (by omega) (by omega)).mono fun e w' h => h.says (fun h => h) (by omega) rfl

set_option maxRecDepth 100000 in
set_option maxHeartbeats 4000000 in
theorem powers_true (it : PIt) (w : World) (hi : PArg w it) :
    Calls Try.prog 10 #[.agg #[.slice it.p1 it.n1 it.c1, .slice it.p2 it.n2 it.c2, .int .i64 it.N]] w fun e w' => e = .returned (.bool true) ∧ Below w.heap.size w w' := by
  obtain ⟨p1, n1, c1, z1, p2, n2, c2, z2, k⟩ := it
  obtain ⟨h1, _, h3⟩ := hi
  simp only at h1 h3 ⊢
  have hk := h3.2
  have HK := hid hk
  have HV := hid (show Nm.val z1 = Nm.val z1 from rfl)
  have hbB : Below w.heap.size w (w.alloc (.cells #[.slice p1 n1 c1, .slice p2 n2 c2, .int .i64 k] 28)) := (Below.refl _ _).alloc (Nat.le_refl _) _
  have hcB : (w.alloc (.cells #[.slice p1 n1 c1, .slice p2 n2 c2, .int .i64 k] 28)).heap[w.heap.size]? = some (.cells #[.slice p1 n1 c1, .slice p2 n2 c2, .int .i64 k] 28 (0, 0)) := by
    show (w.heap.push _)[w.heap.size]? = _
    rw [Array.getElem?_push, if_pos rfl]
  have hc0 : (w.alloc (.cells #[.slice p1 n1 c1, .slice p2 n2 c2, .int .i64 k] 28)).cell? ⟨w.heap.size, 0, none⟩ = some (.slice p1 n1 c1) := by
    simp only [World.cell?, hcB]; rfl
  have hc2 : (w.alloc (.cells #[.slice p1 n1 c1, .slice p2 n2 c2, .int .i64 k] 28)).cell? ⟨w.heap.size, 2, none⟩ = some (.int .i64 k) := by
    simp only [World.cell?, hcB]; rfl
  have HAB := hid (h1.below hbB (Nat.le_refl _))
  obtain ⟨wB, hwB⟩ : ∃ wB, w.alloc (.cells #[.slice p1 n1 c1, .slice p2 n2 c2, .int .i64 k] 28) = wB := ⟨_, rfl⟩
  rw [hwB] at hbB hc0 hc2 HAB
  have HBB := hid hbB
  have C0 := hid hc0
  have C2 := hid hc2
  have HWB := hid hwB
  obtain ⟨A, HVA⟩ : ∃ A, Hid (Nm.val z1 = A) := ⟨_, rfl⟩
  clear h1 h3 hk hbB hcB hc0 hc2 hwB
  go_enter Try.func10, Try.ntmps10
  go_wp2_with fail
  rw [HWB.out]
  refine (rpow_says p1 n1 c1 z1 A k _ HAB.out HVA.out HK.out).mono ?_
  rintro e w1 ⟨r1, os1, rfl, S1, d1⟩
  obtain ⟨E, HE⟩ : ∃ E, Hid (powE (4096 < Nm.tsize z1) k (A ^ k.toNat) = E) := ⟨_, rfl⟩
  rw [HE.out] at S1 ⊢
  have D1 := hid (chain HBB.out d1 (Nat.le_refl _))
  have HA1 := hid (HAB.out.below d1 (Nat.le_refl _))
  have k0 : w1.cell? ⟨w.heap.size, 0, none⟩ = some (.slice p1 n1 c1) := by rw [d1.cell (p := ⟨w.heap.size, 0, none⟩) (cell_lt C0.out)]; exact C0.out
  have k2 : w1.cell? ⟨w.heap.size, 2, none⟩ = some (.int .i64 k) := by rw [d1.cell (p := ⟨w.heap.size, 2, none⟩) (cell_lt C2.out)]; exact C2.out
  have K2 := hid k2
  clear d1 HAB HBB
  go_wp2_with fail
  refine (pow_says p1 n1 c1 z1 A k _ HA1.out HVA.out HK.out).mono ?_
  rintro e w2 ⟨r2, os2, rfl, S2, d2⟩
  rw [HE.out] at S2 ⊢
  have D2 := hid (chain D1.out d2 (Nat.le_refl _))
  have S1' := hid (S1.out.below d2)
  have k2' : w2.cell? ⟨w.heap.size, 2, none⟩ = some (.int .i64 k) := by rw [d2.cell (p := ⟨w.heap.size, 2, none⟩) (cell_lt K2.out)]; exact K2.out
  have K2' := hid k2'
  clear d2 k0 k2 k2' HA1 S1 D1
  go_wp2_with fail
  refine (says_alike S2.out S1'.out).mono ?_
  rintro e w3 ⟨rfl, d3⟩
  have D3 := hid (chain D2.out d3 (Nat.le_refl _))
  have k3 : w3.cell? ⟨w.heap.size, 2, none⟩ = some (.int .i64 k) := by rw [d3.cell (p := ⟨w.heap.size, 2, none⟩) (cell_lt K2'.out)]; exact K2'.out
  have K3 := hid k3
  clear d3 D2 S2 S1' K2 K2'
  go_wp2_with fail
  refine (rfive_says k _ HK.out).mono ?_
  rintro e w4 ⟨r4, os4, rfl, S4, d4⟩
  obtain ⟨E5, HE5⟩ : ∃ E, Hid (powE False k (5 ^ k.toNat) = E) := ⟨_, rfl⟩
  rw [HE5.out] at S4 ⊢
  have D4 := hid (chain D3.out d4 (Nat.le_refl _))
  have k4 : w4.cell? ⟨w.heap.size, 2, none⟩ = some (.int .i64 k) := by rw [d4.cell (p := ⟨w.heap.size, 2, none⟩) (cell_lt K3.out)]; exact K3.out
  have K4 := hid k4
  clear d4 D3 k3 K3
  go_wp2_with fail
  refine (five_says k _ HK.out).mono ?_
  rintro e w5 ⟨r5, os5, rfl, S5, d5⟩
  rw [HE5.out] at S5 ⊢
  have D5 := hid (chain D4.out d5 (Nat.le_refl _))
  have S4' := hid (S4.out.below d5)
  have k5 : w5.cell? ⟨w.heap.size, 2, none⟩ = some (.int .i64 k) := by rw [d5.cell (p := ⟨w.heap.size, 2, none⟩) (cell_lt K4.out)]; exact K4.out
  have K5 := hid k5
  clear d5 D4 k4 K4 S4 k5
  go_wp2_with fail
  refine (says_alike S5.out S4'.out).mono ?_
  rintro e w6 ⟨rfl, d6⟩
  have D6 := hid (chain D5.out d6 (Nat.le_refl _))
  have k6 : w6.cell? ⟨w.heap.size, 2, none⟩ = some (.int .i64 k) := by rw [d6.cell (p := ⟨w.heap.size, 2, none⟩) (cell_lt K5.out)]; exact K5.out
  have K6 := hid k6
  clear d6 D5 K5 S5 S4'
  go_wp2_with fail
  refine (rten_says k _ HK.out).mono ?_
  rintro e w7 ⟨r7, os7, rfl, S7, d7⟩
  obtain ⟨E7, HE7⟩ : ∃ E, Hid (powE False k (10 ^ k.toNat) = E) := ⟨_, rfl⟩
  rw [HE7.out] at S7 ⊢
  have D7 := hid (chain D6.out d7 (Nat.le_refl _))
  have k7 : w7.cell? ⟨w.heap.size, 2, none⟩ = some (.int .i64 k) := by rw [d7.cell (p := ⟨w.heap.size, 2, none⟩) (cell_lt K6.out)]; exact K6.out
  clear d7 D6 k6 K6
  go_wp2_with fail
  refine (ten_says k _ HK.out).mono ?_
  rintro e w8 ⟨r8, os8, rfl, S8, d8⟩
  rw [HE7.out] at S8 ⊢
  have D8 := hid (chain D7.out d8 (Nat.le_refl _))
  have S7' := hid (S7.out.below d8)
  clear d8 D7 k7 S7
  go_wp2_with fail
  refine (says_alike S8.out S7'.out).mono ?_
  rintro e w9 ⟨rfl, d9⟩
  have D9 := hid (chain D8.out d9 (Nat.le_refl _))
  clear d9
  go_wp2_with fail
  go_ret
  exact ⟨rfl, D9.out⟩
end Go.Proofs.Ythfechigdiefpaa
