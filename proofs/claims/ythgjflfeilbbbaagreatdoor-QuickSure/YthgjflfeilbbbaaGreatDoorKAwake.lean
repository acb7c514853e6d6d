/-
  law09: awake, exactly.
-/
import Derived.Test.YthgjflfeilbbbaaGreatDoorKTry
import Derived.Test.YthgjflfeilbbbaaGreatDoorQPs
import Derived.Test.YthgjflfeilbbbaaGreatDoorWalk4
namespace Go.Proofs.YthgjflfeilbbbaaGreatDoor
open Go Go.RowKit Go.Deep

theorem nml25 : Nml [50, 53] (-1) := by decide +kernel
theorem dw25 : dw [50, 53] = 25 := by decide +kernel
theorem str25 : Str ⟨#[50, 53]⟩ [50, 53] := rfl

theorem tell25 {x : Int} {s : Bool} (h : TellIs [50, 53] (-1) x s) : x = 4612811918334230528 ∧ s = true := by
  rcases h with ⟨_, ⟨_, _, _, hs, h⟩ | ⟨h, _⟩⟩ | ⟨h, _⟩
  · rw [dw25] at h
    exact ⟨Ie.rnd_two h, hs⟩
  · rw [dw25] at h; omega
  · simp at h

theorem lohi1 : hi64 212676479325586539664609129644855132160 = 11529215046068469760 ∧ lo64 212676479325586539664609129644855132160 = 0 := by decide +kernel

set_option maxRecDepth 100000 in
set_option maxHeartbeats 1000000 in
theorem awake_any9 (w : World) (hT : Tab w) (hX : Tens w) :
    Calls Tryz.prog 7 #[] w fun e w' => e = .returned (.bool true) ∧ Below w.heap.size w w' := by
  have PW : Hid (Calls Tryz.prog 8 #[.int .i64 1] w fun e w' => e = .returned (.tuple #[.int .u64 11529215046068469760, .int .u64 0, .int .i64 (-125), .int .i64 0]) ∧ Below w.heap.size w w') := by
    refine (power_any9 1 w hT).mono ?_
    rintro e w' ⟨⟨h, _⟩ | ⟨_, _, rfl⟩, hB⟩
    · omega
    · rw [Ie.row1.1, Ie.row1.2, lohi1.1, lohi1.2]
      exact ⟨rfl, hB⟩
  have SM : Hid (∀ wx, Below w.heap.size w wx → Calls Tryz.prog 20 #[.int .u64 3, .int .i64 (-1)] wx fun e w' => e = .returned (.tuple #[.int .u64 4599075939470750515, .bool true]) ∧ Below wx.heap.size wx w') := by
    intro wx b
    refine (small_any9 3 (-1) wx (hT.below b) (hX.below b) ⟨by omega, by omega⟩).mono ?_
    rintro e w' ⟨⟨_, _, _, x, rfl, R⟩ | ⟨h, _⟩, hB⟩
    · rw [Ie.rnd_three R]
      exact ⟨rfl, hB⟩
    · omega
  have SP : Hid (∀ wx, Below w.heap.size w wx → Calls Tryz.prog 9 #[.int .u64 3, .int .i64 (-1)] wx fun e w' => e = .returned (.tuple #[.int .u64 4599075939470750515, .bool true]) ∧ Below wx.heap.size wx w') := by
    intro wx b
    refine (step_any9 3 (-1) wx (hT.below b) ⟨by omega, by omega⟩).mono ?_
    rintro e w' ⟨x, s, rfl, R, hB⟩
    obtain ⟨rfl, rfl⟩ := Ie.stq_three R
    exact ⟨rfl, hB⟩
  have TR : Hid (∀ wx, Below w.heap.size w wx → Calls Tryz.prog 13 #[.agg #[.bool true, .string ⟨#[50, 53]⟩, .int .i64 (-1)]] wx fun e w' => e = .returned (.tuple #[.int .u64 13836183955189006336, .bool true]) ∧ Below wx.heap.size wx w') := by
    intro wx b
    refine (try_any9 true ⟨#[50, 53]⟩ [50, 53] (-1) wx (hT.below b) (hX.below b) str25 (by simp)).mono ?_
    rintro e w' ⟨⟨h, _⟩ | ⟨_, x, s, h, _, _, rfl⟩, hB⟩
    · exact absurd nml25 h
    · obtain ⟨rfl, rfl⟩ := tell25 h
      exact ⟨rfl, hB⟩
  clear hT hX
  go_enter Tryz.func7, Tryz.ntmps7
  go_wp2_with fail
  with_reducible refine PW.out.mono ?_
  rintro e w1 ⟨rfl, hB1⟩
  go_wp2_with fail
  with_reducible refine (SM.out _ hB1).mono ?_
  rintro e w2 ⟨rfl, hB2⟩
  have b2 := below_on hB1 hB2
  go_wp2_with fail
  with_reducible refine (SP.out _ b2).mono ?_
  rintro e w3 ⟨rfl, hB3⟩
  have b3 := below_on b2 hB3
  go_wp2_with fail
  with_reducible refine (TR.out _ b3).mono ?_
  rintro e w4 ⟨rfl, hB4⟩
  have B4 := hid (below_on b3 hB4)
  clear hB1 hB2 hB3 hB4 b2 b3
  go_wp2_with fail
  go_ret
  exact ⟨rfl, B4.out⟩

theorem ten_pw {j : Nat} (h : j ≤ 20000) : (10 : Int) ^ j < Nm.pw 4096 := by
  have h1 := Nat.pow_le_pow_left (show 10 ≤ 2 ^ 4 by decide) j
  rw [← Nat.pow_mul] at h1
  have e1 : ((10 ^ j : Nat) : Int) = 10 ^ j := by simp
  have e2 : ((2 ^ (4 * j) : Nat) : Int) = 2 ^ (4 * j) := by simp
  have h3 := two_pw (u := 4 * j) (by omega)
  omega

def ExTold (V q : Int) (w : World) (e : Ending) (w' : World) : Prop := ∃ x, e = .returned (.tuple #[.int .u64 x, .bool true]) ∧ Ie.Rnd (V * 10 ^ q.toNat) (10 ^ (-q).toNat) 0 false x ∧ Below w.heap.size w w'

theorem pow10_ok (k : Int) (n : Nat) (w : World) (hk : k = (n : Int)) (hn : n ≤ 20000) :
    Calls Tryz.prog 41 #[.int .i64 k] w fun e w' => ∃ r os, e = .returned (.tuple #[.slice r (List.length os) (List.length os), .int .i64 0]) ∧ Ans w.heap.size w' r os (10 ^ n) ∧ Below w.heap.size w w' := by
  refine (pow10_gives k n w hk (by omega)).mono ?_
  rintro e w' ⟨⟨_, r, os, rfl, A⟩ | ⟨h, _⟩, hB⟩
  · exact ⟨r, os, rfl, A, hB⟩
  · exact absurd (ten_pw hn) (Int.not_lt.2 h)

set_option maxRecDepth 100000 in
set_option maxHeartbeats 1000000 in
theorem exactly_any9 (p : Option Addr) (n cap : Nat) (zs : List Int) (V q : Int) (w : World) (hT : Tab w) (ha : Arg w p n cap zs) (hV : Nm.val zs = V) (q0 : -10000 ≤ q) (q1 : q ≤ 10000) (K : Nat) (hK : K ≤ 10000) (hv : V < 10 ^ K) :
    Calls Tryz.prog 16 #[.slice p n cap, .int .i64 q] w fun e w' => ExTold V q w e w' := by
  have v0 : 0 ≤ V := by rw [← hV]; exact (Nm.val_bd zs ha.2.2.2.2).1
  have tz : Nm.tsize zs ≤ 4096 := (Nm.tsize_le_iff ha.2.2.2.2 4096).2 (by rw [hV]; have := ten_pw (show K ≤ 20000 by omega); omega)
  by_cases h : 0 ≤ q
  · obtain ⟨j, hj⟩ := Int.eq_ofNat_of_zero_le h
    have P := hid (fun wx => pow10_ok q j wx hj (by omega))
    have tj := ten_pw (show j ≤ 20000 by omega)
    have pj : (0 : Int) < 10 ^ j := Int.pow_pos (by decide)
    have big : V * 10 ^ j < Nm.pw 4096 := by
      have g1 : V * 10 ^ j < 10 ^ K * 10 ^ j := Int.mul_lt_mul_of_pos_right hv pj
      rw [← Int.pow_add] at g1
      have := ten_pw (show K + j ≤ 20000 by omega)
      omega
    have ML : Hid (∀ r os w1, Below w.heap.size w w1 → Ans w.heap.size w1 r os (10 ^ j) → Calls Tryz.prog 42 #[.slice p n cap, .slice r (List.length os) (List.length os)] w1 fun e w' => ∃ r os, e = .returned (.tuple #[.slice r (List.length os) (List.length os), .int .i64 0]) ∧ Ans w1.heap.size w' r os (V * 10 ^ j) ∧ Below w1.heap.size w1 w') := fun r os w1 hB A => by
      refine (mul_ok p r n cap _ _ zs os w1 (ha.below hB (Nat.le_refl _)) (A.argT tj) tz (A.tsT tj) (by rw [hV, A.2.2.2.1]; exact big)).mono ?_
      rw [hV, A.2.2.2.1]
      exact fun e w' h => h
    have RD : Hid (∀ r os w1 w2, Below w.heap.size w w2 → Ans w1 w2 r os (V * 10 ^ j) → Calls Tryz.prog 12 #[.bool false, .slice r (List.length os) (List.length os), .int .i64 0, .bool false] w2 fun r w' => ∃ x, r = .returned (.tuple #[.int .u64 x, .int .i64 0]) ∧ Ie.Rnd (V * 10 ^ j) 1 0 false x ∧ Below w2.heap.size w2 w') := fun r os w1 w2 hB A => round_any false r _ _ os w2 (A.argT big) (hT.below hB) (A.tsT big) (V * 10 ^ j) 0 false A.2.2.2.1
    have FF : Hid (∀ x w', Ie.Rnd (V * 10 ^ j) 1 0 false x → Below w.heap.size w w' → ExTold V q w (.returned (.tuple #[.int .u64 x, .bool true])) w') := fun x w' r b => ⟨x, rfl, by rw [show q.toNat = j by omega, show (-q).toNat = 0 by omega]; exact r, b⟩
    clear hT ha hV hv v0 tz hj tj pj big q0 q1
    go_enter Tryz.func16, Tryz.ntmps16
    go_wp2_with fail
    with_reducible refine (P.out _).mono ?_
    rintro e w1 ⟨r1, os1, rfl, A1, hB1⟩
    go_wp2_with fail
    with_reducible refine (ML.out _ _ _ hB1 A1).mono ?_
    rintro e w2 ⟨r2, os2, rfl, A2, hB2⟩
    have b2 := below_on hB1 hB2
    go_wp2_with fail
    with_reducible refine (RD.out _ _ _ _ b2 A2).mono ?_
    rintro e w3 ⟨x, rfl, R, hB3⟩
    have F := hid (FF.out x w3 R (below_on b2 hB3))
    clear A1 A2 hB1 hB2 hB3 b2 R P ML RD FF
    go_wp2_with fail
    go_ret2
    exact F.out
  · obtain ⟨j, hj⟩ := Int.eq_ofNat_of_zero_le (show 0 ≤ -q by omega)
    have P := hid (fun wx => pow10_ok (-q) j wx hj (by omega))
    have tj := ten_pw (show j ≤ 20000 by omega)
    have pj : (0 : Int) < 10 ^ j := Int.pow_pos (by decide)
    have t2 : (10 : Int) ^ j < Nm.pw 4095 := by
      have h1 := Nat.pow_le_pow_left (show 10 ≤ 2 ^ 4 by decide) j
      rw [← Nat.pow_mul] at h1
      have e1 : ((10 ^ j : Nat) : Int) = 10 ^ j := by simp
      have e2 : ((2 ^ (4 * j) : Nat) : Int) = 2 ^ (4 * j) := by simp
      have h3 := Nm.two_mono (show 4 * j + 1 ≤ 64 * 4095 by omega)
      rw [Int.pow_succ] at h3
      rw [Nm.pw_two]
      have := Nm.two_pos (4 * j)
      generalize (2 : Int) ^ (64 * 4095) = y at *
      omega
    have RD : Hid (∀ r os w1, Below w.heap.size w w1 → Ans w.heap.size w1 r os (10 ^ j) → Calls Tryz.prog 43 #[.bool false, .slice p n cap, .slice r (List.length os) (List.length os), .int .i64 0] w1 fun r w' => ∃ x, r = .returned (.tuple #[.int .u64 x, .int .i64 0]) ∧ Ie.Rnd V (10 ^ j) 0 false x ∧ Below w1.heap.size w1 w') := fun r os w1 hB A => roundRatio_any false p r n cap _ _ zs os w1 (ha.below hB (Nat.le_refl _)) (A.argT tj) (hT.below hB) tz ((Nm.tsize_le_iff A.2.1 4095).2 (by rw [A.2.2.2.1]; exact t2)) V (10 ^ j) 0 hV A.2.2.2.1 pj
    have FF : Hid (∀ x w', Ie.Rnd V (10 ^ j) 0 false x → Below w.heap.size w w' → ExTold V q w (.returned (.tuple #[.int .u64 x, .bool true])) w') := fun x w' r b => ⟨x, rfl, by rw [show q.toNat = 0 by omega, show (-q).toNat = j by omega, Int.pow_zero, Int.mul_one]; exact r, b⟩
    clear hT ha hV hv v0 tz hj tj pj t2 q1
    go_enter Tryz.func16, Tryz.ntmps16
    go_wp2_with fail
    with_reducible refine (P.out _).mono ?_
    rintro e w1 ⟨r1, os1, rfl, A1, hB1⟩
    go_wp2_with fail
    with_reducible refine (RD.out _ _ _ hB1 A1).mono ?_
    rintro e w3 ⟨x, rfl, R, hB3⟩
    have F := hid (FF.out x w3 R (below_on hB1 hB3))
    clear A1 hB1 hB3 R P RD FF
    go_wp2_with fail
    go_ret2
    exact F.out
end Go.Proofs.YthgjflfeilbbbaaGreatDoor
