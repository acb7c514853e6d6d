/-
  THE WALK OF NatDigits.
-/
import Derived.Test.YtamlindelmfbiabDoorTrailW
import Derived.Test.YtamlindelmfbiabDoorMulAddW
import Derived.Test.YtamlindelmfbiabDoorAwake
namespace Go.Proofs.YtamlindelmfbiabDoor
open Go.RowKit Go.Deep

theorem bitLen_nat (L : Nat) (p : Option Addr) (n cap : Nat) (zs : List Int) (w : World) (ha : Arg w p n cap zs) (hb : blen zs = (L : Int)) :
    Calls Tryd.prog 8 #[.slice p n cap] w fun e w' => e = .returned (.int .i64 (L : Int)) ∧ w' = w := by
  rw [← hb]
  exact bitLen_any p n cap zs w ha

/-- The digits from the top down to j are put together; low is the lowest 1 among them. -/
def DigInv (v : Int) (L j low : Nat) : Prop := (j = L ∧ low = 0) ∨ (j < L ∧ j ≤ low ∧ ∃ m, v / 2 ^ j = 2 ^ (low - j) * (2 * m + 1))

theorem half (v : Int) (t : Nat) : v / 2 ^ t = v / 2 ^ (t + 1) * 2 + v / 2 ^ t % 2 := by
  have e : v / 2 ^ (t + 1) = v / 2 ^ t / 2 := by
    rw [Nm.two_add, ← Int.ediv_ediv_of_nonneg (by have := Nm.two_pos t; omega)]
    rfl
  rw [e]
  omega

theorem dig_first {v : Int} {L t : Nat} (h0 : 0 ≤ v) (hL : Nm.BLen v L) (ht : t + 1 = L) : v / 2 ^ t % 2 = 1 := by
  have hv : 0 < v := by
    rcases (show v = 0 ∨ 0 < v by omega) with h | h
    · have := hL.2.1 h; omega
    · exact h
  have h1 := (hL.2.2 hv).2
  have h2 := hL.1
  rw [show L - 1 = t by omega] at h1
  rw [← ht, Nm.two_succ] at h2
  have hp := Nm.two_pos t
  have e : v / 2 ^ t = 1 := by
    have a : 1 ≤ v / 2 ^ t := (Int.le_ediv_iff_mul_le hp).2 (by omega)
    have b : v / 2 ^ t < 2 := (Int.ediv_lt_iff_lt_mul hp).2 (by omega)
    omega
  rw [e]
  rfl

theorem dig_one {v : Int} {L t low : Nat} (h : DigInv v L (t + 1) low) (h1 : v / 2 ^ t % 2 = 1) : DigInv v L t t := by
  right
  refine ⟨?_, Nat.le_refl _, v / 2 ^ (t + 1), ?_⟩
  · rcases h with h | h <;> omega
  · have := half v t
    rw [Nat.sub_self, Int.pow_zero, Int.one_mul]
    omega

theorem dig_zero {v : Int} {L t low : Nat} (h : DigInv v L (t + 1) low) (hL : t + 1 ≠ L) (h1 : v / 2 ^ t % 2 = 0) : DigInv v L t low := by
  right
  rcases h with ⟨h, _⟩ | ⟨h2, h3, m, hm⟩
  · exact absurd h hL
  · refine ⟨by omega, by omega, m, ?_⟩
    have hh := half v t
    rw [h1, hm] at hh
    rw [hh, show low - t = low - (t + 1) + 1 by omega, Nm.two_succ]
    have e : 2 * 2 ^ (low - (t + 1)) * (2 * m + 1) = 2 * (2 ^ (low - (t + 1)) * (2 * m + 1)) := Int.mul_assoc _ _ _
    rw [e]
    omega

theorem dig_end {v : Int} {L low : Nat} (h0 : 0 ≤ v) (hL : Nm.BLen v L) (h : DigInv v L 0 low) : Nm.Trl v low := by
  rcases h with ⟨h1, h2⟩ | ⟨_, _, m, hm⟩
  · left
    refine ⟨?_, h2⟩
    rcases (show v = 0 ∨ 0 < v by omega) with h | h
    · exact h
    · have := (hL.2.2 h).1; omega
  · right
    refine ⟨m, ?_⟩
    rw [Int.pow_zero, Int.ediv_one] at hm
    exact hm

/-- What has been put together. -/
def Put (w wr : World) (r : Option Addr) (os : List Int) (v : Int) : Prop := Lies wr r os ∧ Nm.Limbs os ∧ Nm.tsize os = os.length ∧ Nm.val os = v ∧ Below w.heap.size w wr

set_option maxRecDepth 100000 in
set_option maxHeartbeats 8000000 in
theorem digits_any (p : Option Addr) (n cap : Nat) (za : List Int) (w : World) (ha : Arg w p n cap za) (hT : Tab w) :
    Calls Tryd.prog 4 #[.slice p n cap] w fun e w' => e = .returned (.bool true) ∧ Below w.heap.size w w' := by
  have HA := hid ha
  have AL := hid ha.1
  have HT := hid hT
  have hn44 : n ≤ 17592186044416 := by have := ha.2.1; have := ha.2.2.1; omega
  have hlim := ha.2.2.2.2
  clear ha hT
  by_cases hbig : 300 < Nm.tsize za
  · have hbig' : (300 : Int) < (Nm.tsize za : Int) := by omega
    go_enter Tryd.func4, Tryd.ntmps4
    go_wp2_with fail
    refine (awake_any _).mono ?_
    rintro e w1 ⟨rfl, hb1⟩
    have D1 := hid hb1
    clear hb1
    go_wp2_with fail
    refine (size_any p n cap za _ AL.out (by omega) (HA.out.below D1.out (Nat.le_refl _)).2.2.2.1).mono ?_
    rintro e w2 ⟨rfl, rfl⟩
    go_wp2_with fail
    go_ret
    exact ⟨rfl, D1.out⟩
  have hbig' : (Nm.tsize za : Int) ≤ 300 := by omega
  obtain ⟨L, hL, BL, hl1, hl2⟩ := blen_is za hlim
  have v0 := (Nm.val_bd za hlim).1
  have v1 : Nm.val za < Nm.pw 4096 := (Nm.tsize_le_iff hlim 4096).1 (by omega)
  obtain ⟨v, V⟩ : ∃ v, Hid (Nm.val za = v) := ⟨_, rfl⟩
  rw [V.out] at v0 v1 BL
  have HL := hid hL
  have HBL := hid BL
  have V1 := hid v1
  have hl3 : (L : Int) ≤ 64 * (Nm.tsize za : Int) := by omega
  have hl4 : ¬ ((L : Int) < 64 * (Nm.tsize za : Int) - 63 ∧ (L : Int) ≠ 0) := by omega
  have hL0 : (0 : Int) ≤ (L : Int) := by omega
  have hLb : (L : Int) ≤ 19200 := by omega
  clear hL BL v1 hl1
  have ht2 : Nm.tsize za = 0 → L = 0 := by intro h; omega
  by_cases hz : L = 0
  · subst hz
    have hs0 : Nm.tsize za = 0 := by
      rcases Nat.eq_zero_or_pos (Nm.tsize za) with h | h
      · exact h
      · have := hl2 h
        have b1 := HBL.out
        have : 0 < v := by
          rcases (show v = 0 ∨ 0 < v by omega) with h' | h'
          · exfalso
            have := (Nm.tsize_zero_iff hlim).2 (V.out.trans h')
            omega
          · exact h'
        have := (b1.2.2 this).1
        omega
    have hv0 : v = 0 := V.out.symm.trans ((Nm.tsize_zero_iff hlim).1 hs0)
    subst hv0
    clear hl2 hl3 hl4 ht2
    have HV := hid (show Nm.Trl (Nm.val za) 0 from .inl ⟨V.out, rfl⟩)
    rw [hs0] at hbig hbig'
    have hs0' : (Nm.tsize za : Int) = 0 := by omega
    have S0 := hid hs0
    clear hs0
    go_enter Tryd.func4, Tryd.ntmps4
    go_wp2_with fail
    refine (awake_any _).mono ?_
    rintro e w1 ⟨rfl, hb1⟩
    have D1 := hid hb1
    have SZ := hid (size_any p n cap za w1 AL.out (by omega) (HA.out.below D1.out (Nat.le_refl _)).2.2.2.1)
    rw [S0.out] at SZ
    clear hb1 hs0'
    go_wp2_with fail
    refine SZ.out.mono ?_
    rintro e w2 ⟨rfl, rfl⟩
    go_wp2_with fail
    refine (bitLen_nat 0 p n cap za _ (HA.out.below D1.out (Nat.le_refl _)) HL.out).mono ?_
    rintro e w2 ⟨rfl, rfl⟩
    go_wp2_with fail
    refine SZ.out.mono ?_
    rintro e w2 ⟨rfl, rfl⟩
    go_wp2_with fail
    refine SZ.out.mono ?_
    rintro e w2 ⟨rfl, rfl⟩
    go_wp2_with fail
    refine wp_loop_rounds 1 ?_
    rw [rounds_succ]
    go_wp2_with fail
    refine (cmp_is 0 none p 0 0 n cap [] za _ ⟨rfl, Nat.le_refl _, by omega, Lies.nil _ _, Nm.Limbs.nil⟩ (HA.out.below D1.out (Nat.le_refl _)) (cmpI_eq V.out.symm)).mono ?_
    rintro e w3 ⟨rfl, hb1⟩
    have D3 := hid (chain D1.out hb1 (Nat.le_refl _))
    clear hb1
    go_wp2_with fail
    refine (trail_any p n cap za _ (HA.out.below D3.out (Nat.le_refl _)) (HT.out.below D3.out)).mono ?_
    rintro e w4 ⟨t, rfl, htr, rfl⟩
    obtain rfl := htr.unique HV.out
    clear htr
    go_wp2_with fail
    refine (bit_any p n cap za 0 0 _ (HA.out.below D3.out (Nat.le_refl _)) (by omega) rfl).mono ?_
    rintro e w5 ⟨rfl, rfl⟩
    have hb0 : Nm.val za / 2 ^ 0 % 2 = 0 := by rw [V.out]; rfl
    go_wp2_with fail
    refine (bit_neg p n cap (-1) _ (by omega)).mono ?_
    rintro e w6 ⟨rfl, rfl⟩
    go_wp2_with fail
    go_ret
    exact ⟨rfl, D3.out⟩
  · have hzL : ((L : Int) != 0) = true := by rw [bne_iff_ne]; omega
    have hs1 : 0 < Nm.tsize za := by
      rcases Nat.eq_zero_or_pos (Nm.tsize za) with h | h
      · have := ht2 h; omega
      · exact h
    have hl5 := hl2 hs1
    have hl6 : decide ((L : Int) < 64 * (Nm.tsize za : Int) - 63) = false := by simp; omega
    have hl7 : decide (64 * (Nm.tsize za : Int) < (L : Int)) = false := by simp; omega
    have Q0 := hid (show v / 2 ^ L = 0 from Int.ediv_eq_zero_of_lt v0 HBL.out.1)
    have VD : Hid (∀ t, v / 2 ^ t ≤ v) := fun t => Int.ediv_le_self _ v0
    have VN : Hid (∀ t, 0 ≤ v / 2 ^ t) := fun t => Int.ediv_nonneg v0 (by have := Nm.two_pos t; omega)
    have HV0 := hid v0
    clear hl2 hl4 ht2 v0 hl5 hs1
    go_enter Tryd.func4, Tryd.ntmps4
    go_wp2_with fail
    refine (awake_any _).mono ?_
    rintro e w1 ⟨rfl, hb1⟩
    have D1 := hid hb1
    have SZ := hid (size_any p n cap za w1 AL.out (by omega) (HA.out.below D1.out (Nat.le_refl _)).2.2.2.1)
    clear hb1
    go_wp2_with fail
    refine SZ.out.mono ?_
    rintro e w2 ⟨rfl, rfl⟩
    go_wp2_with fail
    refine (bitLen_nat L p n cap za _ (HA.out.below D1.out (Nat.le_refl _)) HL.out).mono ?_
    rintro e w2 ⟨rfl, rfl⟩
    go_wp2_with fail
    refine SZ.out.mono ?_
    rintro e w2 ⟨rfl, rfl⟩
    go_wp2_with fail
    refine SZ.out.mono ?_
    rintro e w2 ⟨rfl, rfl⟩
    clear SZ
    go_wp2_with fail
    go_loopw [4, 5, 6] (fun lo su i wr => ∃ (j low : Nat) (r : Option Addr) (os : List Int), j ≤ L ∧ i = .int .i64 ((j : Int) - 1) ∧ lo = .int .i64 (low : Int) ∧ su = .slice r (List.length os) (List.length os) ∧ DigInv v L j low ∧ Put w wr r os (v / 2 ^ j)) (fun _ _ i _ => (intOf i + 1).toNat)
    case atStart => exact ⟨L, 0, none, [], Nat.le_refl _, rfl, rfl, rfl, .inl ⟨rfl, rfl⟩, ⟨Lies.nil _ _, Nm.Limbs.nil, rfl, Q0.out.symm, D1.out⟩⟩
    case round =>
      obtain ⟨j, low, r, os, hj, rfl, rfl, rfl, I, PU⟩ := hrel
      have D2 := hid PU.2.2.2.2
      have hol : os.length ≤ 4096 := by
        rw [← PU.2.2.1]
        refine (Nm.tsize_le_iff PU.2.1 4096).2 ?_
        rw [PU.2.2.2.1]
        have := VD.out j
        have := V1.out
        omega
      by_cases hj0 : j = 0
      · subst hj0
        have hvv : v / 2 ^ 0 = v := by rw [Int.pow_zero, Int.ediv_one]
        have TR := hid (dig_end HV0.out HBL.out I)
        have AO := hid (show Arg wr r os.length os.length os from ⟨rfl, Nat.le_refl _, by omega, PU.1, PU.2.1⟩)
        have VO : Hid (Nm.val os = Nm.val za) := by rw [Hid, PU.2.2.2.1, hvv, V.out]
        clear I PU hvv
        go_wp2_with fail
        refine (cmp_is 0 r p _ _ n cap os za _ AO.out (HA.out.below D2.out (Nat.le_refl _)) (cmpI_eq VO.out)).mono ?_
        rintro e w3 ⟨rfl, hb1⟩
        have D3 := hid (chain D2.out hb1 (Nat.le_refl _))
        clear hb1
        go_wp2_with fail
        refine (trail_any p n cap za _ (HA.out.below D3.out (Nat.le_refl _)) (HT.out.below D3.out)).mono ?_
        rintro e w4 ⟨t, rfl, htr, rfl⟩
        rw [V.out] at htr
        obtain rfl := htr.unique TR.out
        clear htr
        go_wp2_with fail
        refine (bit_any p n cap za L (L : Int) _ (HA.out.below D3.out (Nat.le_refl _)) (by omega) rfl).mono ?_
        rintro e w5 ⟨rfl, rfl⟩
        have hb0 : Nm.val za / 2 ^ L % 2 = 0 := by rw [V.out, Q0.out]; rfl
        go_wp2_with fail
        refine (bit_neg p n cap (-1) _ (by omega)).mono ?_
        rintro e w6 ⟨rfl, rfl⟩
        go_wp2_with fail
        go_ret
        exact ⟨rfl, D3.out⟩
      · obtain ⟨t, rfl⟩ : ∃ t, j = t + 1 := ⟨j - 1, by omega⟩
        have BI := hid (bit_any p n cap za t ((t : Int)) wr (HA.out.below D2.out (Nat.le_refl _)) (by omega) rfl)
        rw [V.out] at BI
        have HH := hid (half v t)
        obtain ⟨b, hb⟩ : ∃ b, v / 2 ^ t % 2 = b := ⟨_, rfl⟩
        rw [hb] at BI HH
        have HBB := hid hb
        have MA := fun hb0 hb1 => mulAdd_any r os.length os.length os 2 b wr ⟨rfl, Nat.le_refl _, by omega, PU.1, PU.2.1⟩ (by rw [PU.2.2.1]; exact hol) (by omega) (by omega) hb0 hb1
        rw [PU.2.2.2.1, ← HH.out] at MA
        have HMA := hid MA
        have HI := hid I
        have hbb : b = 0 ∨ b = 1 := by omega
        clear MA I PU hb
        by_cases hfirst : t + 1 = L
        · have h1 := dig_first HV0.out HBL.out hfirst
          rw [HBB.out] at h1
          subst h1
          have hf : ((t : Int) == (L : Int) - 1) = true := by rw [beq_iff_eq]; omega
          clear hfirst
          go_wp2_with fail
          refine BI.out.mono ?_
          rintro e w3 ⟨rfl, rfl⟩
          go_wp2_with fail
          refine (HMA.out (by omega) (by omega)).mono ?_
          rintro e w4 ⟨h1, -, hb1⟩
          obtain ⟨r2, o2, rfl, ha2⟩ := h1 (by have := VD.out t; have := V1.out; omega)
          have D4 := hid (chain D2.out hb1 (Nat.le_refl _))
          have A2 := hid ha2
          clear h1 hb1 ha2
          go_wp2
          go_roundw
          case rel => exact ⟨t, t, r2, o2, by omega, by go_num, rfl, rfl, dig_one HI.out HBB.out, ⟨A2.out.1, A2.out.2.1, A2.out.2.2.1, A2.out.2.2.2.1, D4.out⟩⟩
          case measure => simp [intOf]
        · have hf : ((t : Int) == (L : Int) - 1) = false := by rw [beq_eq_false_iff_ne]; omega
          have HF := hid hfirst
          clear hfirst
          rcases hbb with rfl | rfl
          · go_wp2_with fail
            refine BI.out.mono ?_
            rintro e w3 ⟨rfl, rfl⟩
            go_wp2_with fail
            refine (HMA.out (by omega) (by omega)).mono ?_
            rintro e w4 ⟨h1, -, hb1⟩
            obtain ⟨r2, o2, rfl, ha2⟩ := h1 (by have := VD.out t; have := V1.out; omega)
            have D4 := hid (chain D2.out hb1 (Nat.le_refl _))
            have A2 := hid ha2
            clear h1 hb1 ha2
            go_wp2
            go_roundw
            case rel => exact ⟨t, low, r2, o2, by omega, by go_num, rfl, rfl, dig_zero HI.out HF.out HBB.out, ⟨A2.out.1, A2.out.2.1, A2.out.2.2.1, A2.out.2.2.2.1, D4.out⟩⟩
            case measure => simp [intOf]
          · go_wp2_with fail
            refine BI.out.mono ?_
            rintro e w3 ⟨rfl, rfl⟩
            go_wp2_with fail
            refine (HMA.out (by omega) (by omega)).mono ?_
            rintro e w4 ⟨h1, -, hb1⟩
            obtain ⟨r2, o2, rfl, ha2⟩ := h1 (by have := VD.out t; have := V1.out; omega)
            have D4 := hid (chain D2.out hb1 (Nat.le_refl _))
            have A2 := hid ha2
            clear h1 hb1 ha2
            go_wp2
            go_roundw
            case rel => exact ⟨t, t, r2, o2, by omega, by go_num, rfl, rfl, dig_one HI.out HBB.out, ⟨A2.out.1, A2.out.2.1, A2.out.2.2.1, A2.out.2.2.2.1, D4.out⟩⟩
            case measure => simp [intOf]
end Go.Proofs.YtamlindelmfbiabDoor
