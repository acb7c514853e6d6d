/-
  THE WALK OF NumeralBack, whole.
-/
import Derived.Test.YtdolimhddmddnaaDoorNBack
import Derived.Deep.CutRange
import Derived.Deep.CutBlock
namespace Go.Proofs.YtdolimhddmddnaaDoor
open Go.RowKit Go.Deep

set_option maxRecDepth 100000 in
set_option maxHeartbeats 4000000 in
theorem back_any (p : Option Addr) (n cap : Nat) (za : List Int) (B : Int) (up : Bool) (w : World) (ha : Arg w p n cap za) (hB0 : -9223372036854775808 ≤ B) (hB1 : B ≤ 9223372036854775807) :
    Calls Tryd.prog 3 #[.slice p n cap, .int .i64 B, .bool up] w fun e w' => e = .returned (.bool true) ∧ Below w.heap.size w w' := by
  have HA := hid ha
  have AW := hid (awake3_any w)
  obtain ⟨T, HT⟩ : ∃ T, Hid (Nm.tsize za = T) := ⟨_, rfl⟩
  have hTc : Hid (T ≤ 17592186044416) := by show _ ≤ _; have := HT.out; have := Nm.tsize_le za; have := ha.1; have := ha.2.1; have := ha.2.2.1; omega
  clear ha
  go_enter Tryd.func3, Tryd.ntmps3
  go_wp2_with fail
  refine AW.out.mono ?_
  rintro e w1 ⟨rfl, d1⟩
  have D1 := hid d1
  have CP := hid (copied3_any p n cap za w1 (HA.out.below d1 (Nat.le_refl _)))
  clear d1 AW
  go_wp2_with fail
  refine CP.out.mono ?_
  rintro e w2 ⟨rfl, o2, d2, s2⟩
  have D2 := hid (chain D1.out d2 (Nat.le_refl _))
  have IB := hid (inBase_any (some ⟨w1.heap.size, 0, none⟩) n n za B up w2 ⟨HA.out.1, Nat.le_refl _, by have := HA.out.2.1; have := HA.out.2.2.1; omega, o2.lies, HA.out.2.2.2.2⟩ hB0 hB1)
  clear o2 d2 s2 CP D1
  go_wp2_with fail
  refine IB.out.mono ?_
  rintro e w3 ⟨s, xs, E, rfl, hs, hi, d3⟩
  have HS := hid hs
  have HI := hid hi
  have D3 := hid (chain D2.out d3 (Nat.le_refl _))
  have TR := hid (trimmed3_any p n cap za w3 (HA.out.below D3.out (Nat.le_refl _)))
  rw [HT.out] at TR
  clear hs hi d3 IB D2
  go_wp2_with fail
  refine TR.out.mono ?_
  rintro e w4 ⟨rfl, o4, d4, s4⟩
  have O4 := hid o4
  have D4 := hid (chain D3.out d4 (Nat.le_refl _))
  clear o4 d4 s4 TR
  have hi := HI.out
  have GO : Hid (InIs za B up xs E → (E = 2 ∧ xs = [] ∧ 4096 < T) ∨ (E = 32 ∧ xs = [] ∧ T ≤ 4096 ∧ (B < 2 ∨ 36 < B)) ∨ (E = 0 ∧ T ≤ 4096 ∧ 2 ≤ B ∧ B ≤ 36 ∧ Good za B up xs)) := by
    intro h
    cases h with
    | big h => exact .inl ⟨rfl, rfl, by have := HT.out; omega⟩
    | base h k => exact .inr (.inl ⟨rfl, rfl, by have := HT.out; omega, k⟩)
    | zero h k1 k2 => exact .inr (.inr ⟨rfl, by have := HT.out; omega, k1, k2, good_zero HA.out.2.2.2.2 h k1⟩)
    | ok L h0 h1 h2 h3 h4 => exact .inr (.inr ⟨rfl, by have := HT.out; omega, h2, h3, good_ok HA.out.2.2.2.2 h0 h1 h2 h3 h4⟩)
  rcases GO.out hi with ⟨rfl, rfl, hT⟩ | ⟨rfl, rfl, hT, hB⟩ | ⟨rfl, hT, hB2, hB36, hg⟩
  · obtain rfl : s = ⟨#[]⟩ := HS.out.inj rfl
    have hTi : (4096 : Int) < (T : Int) := by omega
    clear hi GO hT HI
    go_wp2_with fail
    go_ret
    exact ⟨rfl, D4.out⟩
  · obtain rfl : s = ⟨#[]⟩ := HS.out.inj rfl
    have hTi : (T : Int) ≤ 4096 := by omega
    clear hi GO hT HI
    rcases hB with hB | hB
    · go_wp2_with fail
      go_ret
      exact ⟨rfl, D4.out⟩
    · go_wp2_with fail
      go_ret
      exact ⟨rfl, D4.out⟩
  · have G := hid hg
    have hTi : (T : Int) ≤ 4096 := by omega
    obtain ⟨m, HM⟩ : ∃ m, Hid (xs.length = m) := ⟨_, rfl⟩
    have hsz : s.size = m := by rw [HS.out.size, HM.out]
    have hm0 : 0 < m := by
      rcases Nat.eq_zero_or_pos m with c | c
      · have := HM.out
        rw [c] at this
        exact absurd (List.eq_nil_of_length_eq_zero this) hg.ne
      · exact c
    have hmi : (0 : Int) < (m : Int) := by omega
    have hmz : ((m : Int) == 0) = false := by rw [beq_eq_false_iff_ne]; omega
    have hml : (m : Int) ≤ 262144 := by have := HM.out; have := hg.len; omega
    obtain ⟨x0, X0⟩ : ∃ x0, Hid (xs.getD 0 0 = x0) := ⟨_, rfl⟩
    have hx0 : ∀ h : 0 < s.size, ((s[0]'h).toNat : Int) = x0 := fun h => by rw [HS.out.at 0 h, X0.out]
    have FB := hid (fromBase_any s xs B w4 HS.out (by have := HM.out; omega) (by omega) (by omega))
    have SA : Hid (∀ (r : Option Addr) (os : List Int) (w5 : World), Ans w4.heap.size w5 r os (Nm.val za) → Below w4.heap.size w4 w5 → Calls Tryd.prog 12 #[.slice r (List.length os) (List.length os), .slice (some ⟨w3.heap.size, 0, none⟩) T T] w5 fun e w' => e = .returned (.bool true) ∧ Below w5.heap.size w5 w') := by
      intro r os w5 A5 d5
      have e : os = Nm.trim za := Nm.canon A5.2.1 HA.out.2.2.2.2.trim A5.2.2.1 (by rw [Nm.trim_trim, Nm.trim_length]) (by rw [A5.2.2.2.1, Nm.val_trim])
      have el : os.length = T := by rw [e, Nm.trim_length]; exact HT.out
      have b1 : Arg w5 (some ⟨w3.heap.size, 0, none⟩) T T (Nm.trim za) := ⟨by rw [Nm.trim_length]; exact HT.out, Nat.le_refl _, hTc.out, (O4.out.below d5 O4.out.lt).lies, HA.out.2.2.2.2.trim⟩
      exact same3_is true r _ _ _ _ _ os (Nm.trim za) w5 (A5.arg (by rw [el]; exact hTc.out)) b1 (by rw [e]; simp)
    have FI : Hid (∀ (w5 : World) (r : Option Addr) (os : List Int) (at_ E : Int), FromIs xs B w4 w5 r os at_ E → at_ = 0 ∧ E = 0 ∧ Ans w4.heap.size w5 r os (Nm.val za)) := by
      intro w5 r os at_ E h
      have gv := hg.val
      have gp : Nm.val za < Nm.pw 4096 := (Nm.tsize_le_iff HA.out.2.2.2.2 4096).1 (by have := HT.out; omega)
      cases h with
      | base h => omega
      | empty _ _ h => exact absurd h hg.ne
      | digit t _ _ h1 _ h3 => have := hg.dig t h1; omega
      | big _ _ _ _ h =>
        rw [gv] at h
        exact absurd gp (Int.not_lt.2 h)
      | ok r os _ _ _ _ _ h => rw [gv] at h; exact ⟨rfl, rfl, h⟩
    have HD : Hid (0 < T → x0 ≠ 48) := fun h => by rw [← X0.out]; exact hg.head (by have := HT.out; omega)
    have HZ : Hid (T = 0 → s.toList = [48] ∧ x0 = 48) := fun h => by
      have e := hg.zero (by have := HT.out; omega)
      have := HS.out
      rw [e] at this
      refine ⟨?_, by rw [← X0.out, e]; rfl⟩
      have e2 : s = ⟨#[48]⟩ := this.inj rfl
      rw [e2]
      exact ByteArray.toList_mk [48]
    clear hi GO hT HI hg
    go_upto_region 10 with fail
    go_cut [74] from 49 to 73 (fun b wx => b = .bool false ∧ wx = w4)
    case first =>
      by_cases hT0 : T = 0
      · obtain ⟨z1, z2⟩ := HZ.out hT0
        subst hT0
        subst z2
        go_wp2_with fail
        go_meet
        exact ⟨rfl, rfl⟩
      · have hT1 : (0 : Int) < (T : Int) := by omega
        have hTz : ((T : Int) == 0) = false := by rw [beq_eq_false_iff_ne]; omega
        have hx48 : (x0 == 48) = false := by rw [beq_eq_false_iff_ne]; exact HD.out (by omega)
        go_wp2_with fail
        go_meet
        exact ⟨rfl, rfl⟩
    case rest =>
      obtain ⟨rfl, hwc⟩ := hcut
      have hwc := hwc.symm
      subst hwc
      clear HD HZ hx0 X0
      go_wp2_with fail
      go_loop [11] (fun c => ∃ j : Nat, c = .int .i64 (j : Int) ∧ j ≤ m) (fun c => m - (intOf c).toNat)
      case atStart => exact ⟨0, rfl, Nat.zero_le _⟩
      case round =>
        obtain ⟨j, rfl, hj⟩ := hrel
        by_cases hlt : j < m
        · have hji : (j : Int) < (m : Int) := by omega
          obtain ⟨x, X⟩ : ∃ x, Hid (xs.getD j 0 = x) := ⟨_, rfl⟩
          have hx : ∀ h : j < s.size, ((s[j]'h).toNat : Int) = x := fun h => by rw [HS.out.at j h, X.out]
          have cs := G.out.case_ j (by have := HM.out; omega)
          rw [X.out] at cs
          cases up with
          | true =>
            have c1 := cs.1 rfl
            clear cs
            rcases (show x < 97 ∨ (97 ≤ x ∧ 122 < x) by omega) with c | ⟨c, c2⟩
            · clear c1
              go_wp2_with fail
              go_round
              case rel => exact ⟨j + 1, by go_num, by omega⟩
              case measure => simp [intOf]; omega
            · clear c1
              go_wp2_with fail
              go_round
              case rel => exact ⟨j + 1, by go_num, by omega⟩
              case measure => simp [intOf]; omega
          | false =>
            have c1 := cs.2 rfl
            clear cs
            rcases (show x < 65 ∨ (65 ≤ x ∧ 90 < x) by omega) with c | ⟨c, c2⟩
            · clear c1
              go_wp2_with fail
              go_round
              case rel => exact ⟨j + 1, by go_num, by omega⟩
              case measure => simp [intOf]; omega
            · clear c1
              go_wp2_with fail
              go_round
              case rel => exact ⟨j + 1, by go_num, by omega⟩
              case measure => simp [intOf]; omega
        · obtain rfl : j = m := by omega
          go_wp2_with fail
          refine FB.out.mono ?_
          rintro e w5 ⟨r, os, at_, E, rfl, h5, d5⟩
          obtain ⟨rfl, rfl, A5⟩ := FI.out w5 r os at_ E h5
          have SM := hid (SA.out r os w5 A5 d5)
          have D5 := hid (chain D4.out d5 (Nat.le_refl _))
          clear h5 A5 d5 FB FI SA
          go_wp2_with fail
          refine SM.out.mono ?_
          rintro e w6 ⟨rfl, d6⟩
          have D6 := hid (chain D5.out d6 (Nat.le_refl _))
          clear d6 SM
          go_wp2_with fail
          go_ret
          exact ⟨rfl, D6.out⟩
end Go.Proofs.YtdolimhddmddnaaDoor
