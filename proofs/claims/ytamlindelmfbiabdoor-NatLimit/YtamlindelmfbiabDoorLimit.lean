/-
  THE WALK OF NatLimit.
-/
import Derived.Test.YtamlindelmfbiabDoorShifts
import Derived.Test.YtamlindelmfbiabDoorOver
namespace Go.Proofs.YtamlindelmfbiabDoor
open Go.RowKit Go.Deep

/-- A fact that the walk cannot open. -/
structure Seal (p : Prop) : Prop where
  out : p

theorem blen_pow (k : Nat) : Nm.BLen (2 ^ k) (k + 1) := by
  have hp := Nm.two_pos k
  refine ⟨?_, fun h => by omega, fun _ => ⟨by omega, ?_⟩⟩
  · rw [Nm.two_succ]; omega
  · rw [Nat.add_sub_cancel]; exact Int.le_refl _

theorem trl_pow (k : Nat) : Nm.Trl (2 ^ k) k := .inr ⟨0, by simp⟩

theorem blen_ones (k : Nat) : Nm.BLen (2 ^ k - 1) k := by
  have hp := Nm.two_pos k
  refine ⟨by omega, fun h => ?_, fun h => ⟨?_, ?_⟩⟩
  · rcases Nat.eq_zero_or_pos k with h0 | h0
    · exact h0
    · exfalso
      have := Nm.two_mono h0
      have e : (2 : Int) ^ 1 = 2 := by decide
      omega
  · rcases Nat.eq_zero_or_pos k with h0 | h0
    · subst h0
      simp at h
    · exact h0
  · obtain ⟨c, rfl⟩ : ∃ c, k = c + 1 := by
      rcases k with _ | c
      · simp at h
      · exact ⟨c, rfl⟩
    rw [Nat.add_sub_cancel, Nm.two_succ]
    have := Nm.two_pos c
    omega

/-- The number of limbs of a power of two. -/
theorem len_pow {B : Nat} {w : World} {p : Option Addr} {ys : List Int} {k : Nat} (h : Ans B w p ys (2 ^ k)) : ys.length = k / 64 + 1 := by
  have h1 := fun m => Nm.tsize_le_iff h.2.1 m
  rw [h.2.2.2.1] at h1
  rw [← h.2.2.1]
  have a := (h1 (k / 64 + 1)).2 (by
    rw [Nm.pw_two]
    have := Nm.two_mono (show k + 1 ≤ 64 * (k / 64 + 1) by omega)
    rw [Nm.two_succ] at this
    have := Nm.two_pos k
    omega)
  have b : ¬ Nm.tsize ys ≤ k / 64 := fun hb => by
    have := (h1 (k / 64)).1 hb
    rw [Nm.pw_two] at this
    have := two_lt this
    omega
  omega

theorem ones_mod (k h : Nat) (hh : h ≤ k) : ((2 : Int) ^ k - 1) % 2 ^ h = 2 ^ h - 1 ∧ ((2 : Int) ^ k - 1) / 2 ^ h = 2 ^ (k - h) - 1 := by
  have hp := Nm.two_pos h
  have e : (2 : Int) ^ k - 1 = 2 ^ h - 1 + 2 ^ h * (2 ^ (k - h) - 1) := by
    have : (2 : Int) ^ k = 2 ^ h * 2 ^ (k - h) := by rw [← Nm.two_add, show h + (k - h) = k by omega]
    rw [this, Int.mul_sub, Int.mul_one]
    omega
  rw [e]
  refine ⟨?_, ?_⟩
  · rw [Int.add_mul_emod_self_left, Int.emod_eq_of_lt (by omega) (by omega)]
  · rw [Int.add_mul_ediv_left _ _ (by omega), Int.ediv_eq_zero_of_lt (by omega) (by omega), Int.zero_add]

/-- What BitLen tells of an answer. -/
theorem bitLen_ans (p : Option Addr) (ys : List Int) (v : Int) (L : Nat) (B : Nat) (w : World) (h : Ans B w p ys v) (hs : ys.length ≤ 17592186044416) (hv : 0 ≤ v) (hb : Nm.BLen v L) :
    Calls Tryd.prog 8 #[.slice p (List.length ys) (List.length ys)] w fun e w' => e = .returned (.int .i64 (L : Int)) ∧ w' = w := by
  obtain ⟨L', hL, BL, _, _⟩ := blen_is ys h.2.1
  rw [h.2.2.2.1] at BL
  rw [BL.unique hv hb] at hL
  exact bitLen_n L p _ _ ys w (h.arg hs) hL

set_option maxRecDepth 100000 in
set_option maxHeartbeats 8000000 in
theorem limit_out (kk : Int) (w : World) (hk1 : kk ≤ 9223372036854775807) (h : kk < 0 ∨ 0 ≤ kk ∧ 262144 ≤ kk) :
    Calls Tryd.prog 5 #[.int .i64 kk] w fun e w' => e = .returned (.bool true) ∧ Below w.heap.size w w' := by
  rcases h with h | ⟨h, h2⟩
  · go_enter Tryd.func5, Tryd.ntmps5
    go_wp2_with fail
    refine (awake_any _).mono ?_
    rintro e w1 ⟨rfl, hb1⟩
    have D1 := hid (chain hb1 ((Below.refl w1.heap.size w1).alloc (Nat.le_refl _) (.cells #[.int .u64 1] 36)) (Nat.le_refl _))
    clear hb1
    go_wp2_with fail
    refine (shl_neg _ 1 1 [1] kk _ (arg_new w1 [1] 1 rfl (by omega) (one_limb (by omega))) (by simp [Nm.tsize]) h).mono ?_
    rintro e w2 ⟨rfl, rfl⟩
    go_wp2_with fail
    go_ret
    exact ⟨rfl, D1.out⟩
  · have OV : Hid (Nm.pw 4096 ≤ Nm.val [1] * 2 ^ kk.toNat) := by
      have := Nm.two_mono (show 262144 ≤ kk.toNat by omega)
      show _ ≤ _
      rw [pw_4096, show Nm.val [1] = 1 by decide, Int.one_mul]
      exact this
    have HK : Hid (kk = (kk.toNat : Int)) := by show _ = _; omega
    go_enter Tryd.func5, Tryd.ntmps5
    go_wp2_with fail
    refine (awake_any _).mono ?_
    rintro e w1 ⟨rfl, hb1⟩
    have D1 := hid (chain hb1 ((Below.refl w1.heap.size w1).alloc (Nat.le_refl _) (.cells #[.int .u64 1] 36)) (Nat.le_refl _))
    clear hb1
    go_wp2_with fail
    refine (shl_over _ 1 1 [1] kk kk.toNat _ (arg_new w1 [1] 1 rfl (by omega) (one_limb (by omega))) (by simp [Nm.tsize]) HK.out hk1 OV.out).mono ?_
    rintro e w2 ⟨rfl, rfl⟩
    go_wp2_with fail
    go_ret
    exact ⟨rfl, D1.out⟩

set_option maxRecDepth 100000 in
set_option maxHeartbeats 16000000 in
theorem limit_in (kk : Int) (k : Nat) (w : World) (hT : Tab w) (hkk : kk = (k : Int)) (hk : k ≤ 262143) :
    Calls Tryd.prog 5 #[.int .i64 kk] w fun e w' => e = .returned (.bool true) ∧ Below w.heap.size w w' := by
  have HT := hid hT
  have hp := Nm.two_pos k
  have P0 := hid hp
  have hk0 : ¬ kk < 0 := by omega
  have hk1 : ¬ (262144 : Int) ≤ kk := by omega
  have hkb : kk ≤ 262143 := by omega
  have hkb0 : 0 ≤ kk := by omega
  have HK := hid hkk
  have S1 : Hid (Nm.val [1] * 2 ^ k = 2 ^ k) := by rw [Hid, show Nm.val [1] = 1 by decide, Int.one_mul]
  have PS : Seal ((2 : Int) ^ k < Nm.pw 4096) := ⟨by
    have := Nm.two_mono (show k + 1 ≤ 262144 by omega)
    rw [Nm.two_succ, ← pw_4096] at this
    show _ < _
    omega⟩
  have hlen : ((k / 64 + 1 : Nat) : Int) = kk / 64 + 1 := by omega
  have HLEN := hid hlen
  obtain ⟨hh, Hh⟩ : ∃ hh, Hid (k / 2 = hh) := ⟨_, rfl⟩
  have h2 : kk / 2 = (hh : Int) := by have := Hh.out; omega
  have hhk : hh ≤ k := by have := Hh.out; omega
  obtain ⟨OM, OD⟩ := ones_mod k hh hhk
  have HOM := hid OM
  have HOD := hid OD
  have hhb : (hh : Int) ≤ kk := by omega
  clear hT hkk hp hlen OM OD
  by_cases hl : k = 262143
  · have hl' : (kk == 262143) = true := by rw [beq_iff_eq]; have := HK.out; omega
    have DB : Seal (Nm.pw 4096 ≤ 2 ^ k + 2 ^ k) := ⟨by
      show _ ≤ _
      rw [pw_4096, hl, show (262144 : Nat) = 262143 + 1 from rfl, Nm.two_succ]
      omega⟩
    clear hl
    go_enter Tryd.func5, Tryd.ntmps5
    go_wp2_with fail
    refine (awake_any _).mono ?_
    rintro e w1 ⟨rfl, hb1⟩
    have D1 := hid (chain hb1 ((Below.refl w1.heap.size w1).alloc (Nat.le_refl _) (.cells #[.int .u64 1] 36)) (Nat.le_refl _))
    have ONE := hid (arg_new w1 [1] 1 rfl (by omega) (one_limb (by omega)))
    clear hb1
    go_wp2_with fail
    refine (shl_any _ 1 1 [1] kk k _ ONE.out (by simp [Nm.tsize]) HK.out (by rw [S1.out]; exact PS.out)).mono ?_
    rintro e w2 ⟨r1, o1, rfl, ha1, hb1⟩
    rw [S1.out] at ha1
    have D2 := hid (chain D1.out hb1 (Nat.le_refl _))
    have ON2 := hid (ONE.out.below hb1 (Nat.le_refl _))
    have A1 := hid ha1
    have l1 := ha1.small PS.out
    have LE1 : Hid ((o1.length : Int) = kk / 64 + 1) := by rw [Hid, len_pow ha1]; exact HLEN.out
    clear hb1 ha1 ONE
    have BL := bitLen_ans r1 o1 (2 ^ k) (k + 1) _ w2 A1.out (by omega) (Int.le_of_lt P0.out) (blen_pow k)
    have ek : ((k + 1 : Nat) : Int) = kk + 1 := by have := HK.out; omega
    rw [ek] at BL
    have HB := hid BL
    clear BL ek
    go_wp2_with fail
    refine HB.out.mono ?_
    rintro e w3 ⟨rfl, rfl⟩
    go_wp2_with fail
    refine (trail_any r1 _ _ o1 _ (A1.out.arg (by omega)) (HT.out.below D2.out)).mono ?_
    rintro e w3 ⟨t, rfl, htr, rfl⟩
    rw [A1.out.2.2.2.1] at htr
    have et : (t : Int) = kk := by have := htr.unique (trl_pow k); have := HK.out; omega
    rw [et]
    have le1 := LE1.out
    clear htr et HB
    go_wp2_with fail
    refine (add_over r1 r1 _ _ _ _ o1 o1 _ (A1.out.arg (by omega)) (A1.out.arg (by omega)) (by rw [A1.out.2.2.1]; exact l1) (by rw [A1.out.2.2.1]; exact l1) (by rw [A1.out.2.2.2.1]; exact DB.out)).mono ?_
    rintro e w4 ⟨rfl, hb1⟩
    have D4 := hid (chain (chain D2.out hb1 (Nat.le_refl _)) ((Below.refl w4.heap.size w4).alloc (Nat.le_refl _) (.cells #[.int .u64 2] 36)) (Nat.le_refl _))
    have A1b := hid ((A1.out.below hb1 (Nat.le_refl _)).below ((Below.refl w4.heap.size w4).alloc (Nat.le_refl _) (.cells #[.int .u64 2] 36)) (Nat.le_refl _))
    have ON3 := hid ((ON2.out.below hb1 (Nat.le_refl _)).below ((Below.refl w4.heap.size w4).alloc (Nat.le_refl _) (.cells #[.int .u64 2] 36)) (Nat.le_refl _))
    have TWO := hid (arg_new w4 [2] 1 rfl (by omega) (one_limb (by omega)))
    clear hb1 A1 ON2
    go_wp2_with fail
    refine (mul_over _ r1 1 1 _ _ [2] o1 _ TWO.out (A1b.out.arg (by omega)) (by simp [Nm.tsize]) (by rw [A1b.out.2.2.1]; exact l1) (by rw [A1b.out.2.2.2.1, show Nm.val [2] = 2 by decide]; have := DB.out; omega)).mono ?_
    rintro e w5 ⟨rfl, hb1⟩
    have D5 := hid (chain D4.out hb1 (Nat.le_refl _))
    have A1c := hid (A1b.out.below hb1 (Nat.le_refl _))
    have ON4 := hid (ON3.out.below hb1 (Nat.le_refl _))
    clear hb1 A1b ON3 TWO
    go_wp2_with fail
    refine (mulAdd_any r1 _ _ o1 2 0 _ (A1c.out.arg (by omega)) (by rw [A1c.out.2.2.1]; exact l1) (by omega) (by omega) (by omega) (by omega)).mono ?_
    rintro e w6 ⟨-, h1, hb1⟩
    obtain rfl := h1 (by rw [A1c.out.2.2.2.1]; have := DB.out; omega)
    have D6 := hid (chain D5.out hb1 (Nat.le_refl _))
    have A1d := hid (A1c.out.below hb1 (Nat.le_refl _))
    have ON5 := hid (ON4.out.below hb1 (Nat.le_refl _))
    clear h1 hb1 A1c ON4
    go_wp2_with fail
    refine (shl_over r1 _ _ o1 1 1 _ (A1d.out.arg (by omega)) (by rw [A1d.out.2.2.1]; exact l1) rfl (by omega) (by rw [A1d.out.2.2.2.1, show (2 : Int) ^ 1 = 2 by decide]; have := DB.out; omega)).mono ?_
    rintro e w7 ⟨rfl, rfl⟩
    go_wp2_with fail
    have D9 := hid D6.out
    have A9 := hid A1d.out
    have ON9 := hid ON5.out
    refine (sub_ok r1 _ _ _ 1 1 o1 [1] _ (A9.out.arg (by omega)) ON9.out (by rw [A9.out.2.2.1]; exact l1) (by rw [A9.out.2.2.2.1, show Nm.val [1] = 1 by decide]; have := P0.out; omega)).mono ?_
    rintro e w10 ⟨r6, o6, rfl, ha6, hb1⟩
    rw [A9.out.2.2.2.1, show Nm.val [1] = 1 by decide] at ha6
    have D10 := hid (chain D9.out hb1 (Nat.le_refl _))
    have A6 := hid ha6
    have l6 := ha6.small (by have := PS.out; omega)
    have N6 : Hid (0 ≤ (2 : Int) ^ k - 1) := by have := P0.out; show _ ≤ _; omega
    have BL6 := bitLen_ans r6 o6 _ k _ _ A6.out (by omega) N6.out (blen_ones k)
    rw [← HK.out] at BL6
    have HB6 := hid BL6
    clear hb1 ha6 BL6 A9 ON9
    go_wp2_with fail
    refine HB6.out.mono ?_
    rintro e w11 ⟨rfl, rfl⟩
    clear HB6
    go_wp2_with fail
    refine (shr_any r6 _ _ o6 (hh : Int) hh _ (A6.out.arg (by omega)) (HT.out.below D10.out) (by rw [A6.out.2.2.1]; exact l6) rfl).mono ?_
    rintro e w12 ⟨r7, o7, rfl, ha7, hb1⟩
    rw [A6.out.2.2.2.1, HOD.out] at ha7
    have D12 := hid (chain D10.out hb1 (Nat.le_refl _))
    have A7 := hid ha7
    have l7 : o7.length ≤ 4096 := by
      refine ha7.small ?_
      have := Nm.two_mono (show k - hh ≤ k by omega)
      have := PS.out
      omega
    have BL7 := bitLen_ans r7 o7 _ (k - hh) _ _ A7.out (by omega) (by have := Nm.two_pos (k - hh); omega) (blen_ones (k - hh))
    have e7 : ((k - hh : Nat) : Int) = kk - (hh : Int) := by have := HK.out; omega
    rw [e7] at BL7
    have HB7 := hid BL7
    have LO : decide (Nm.val o6 % 2 ^ hh ≠ 0) = decide (0 < (hh : Int)) := by
      rw [A6.out.2.2.2.1, HOM.out, Bool.eq_iff_iff]
      simp only [decide_eq_true_eq]
      rcases Nat.eq_zero_or_pos hh with h0 | h0
      · rw [h0]; simp
      · have := Nm.two_mono h0
        have e : (2 : Int) ^ 1 = 2 := by decide
        constructor
        · intro _; omega
        · intro _; omega
    rw [LO]
    clear hb1 ha7 BL7 e7 LO
    by_cases hz : hh = 0
    · have hz1 : decide (0 < (hh : Int)) = false := by simp; omega
      have hz2 : ¬ (0 : Int) < (hh : Int) := by omega
      rw [hz1]
      go_wp2_with fail
      refine HB7.out.mono ?_
      rintro e w13 ⟨rfl, rfl⟩
      go_wp2_with fail
      go_ret
      exact ⟨rfl, D12.out⟩
    · have hz1 : decide (0 < (hh : Int)) = true := by simp; omega
      have hz2 : (0 : Int) < (hh : Int) := by omega
      have hz3 : (0 : Int) < kk := by omega
      rw [hz1]
      go_wp2_with fail
      refine HB7.out.mono ?_
      rintro e w13 ⟨rfl, rfl⟩
      go_wp2_with fail
      go_ret
      exact ⟨rfl, D12.out⟩
  · have hl' : (kk == 262143) = false := by rw [beq_eq_false_iff_ne]; have := HK.out; omega
    have DS : Seal ((2 : Int) ^ (k + 1) < Nm.pw 4096) := ⟨by
      have := Nm.two_mono (show k + 1 + 1 ≤ 262144 by omega)
      rw [Nm.two_succ, ← pw_4096] at this
      have := Nm.two_pos (k + 1)
      show _ < _
      omega⟩
    have DD : Hid ((2 : Int) ^ k + 2 ^ k = 2 ^ (k + 1)) := by rw [Hid, Nm.two_succ]; omega
    have DB : Seal ((2 : Int) ^ k + 2 ^ k < Nm.pw 4096) := ⟨by rw [DD.out]; exact DS.out⟩
    have M2 : Hid (Nm.val [2] * 2 ^ k = 2 ^ (k + 1)) := by rw [Hid, show Nm.val [2] = 2 by decide, Nm.two_succ]
    have M3 : Hid ((2 : Int) ^ k * 2 + 0 = 2 ^ (k + 1)) := by rw [Hid, Nm.two_succ]; omega
    have M4 : Hid ((2 : Int) ^ k * 2 ^ 1 = 2 ^ (k + 1)) := by rw [Hid, ← Nm.two_add]
    clear hl
    go_enter Tryd.func5, Tryd.ntmps5
    go_wp2_with fail
    refine (awake_any _).mono ?_
    rintro e w1 ⟨rfl, hb1⟩
    have D1 := hid (chain hb1 ((Below.refl w1.heap.size w1).alloc (Nat.le_refl _) (.cells #[.int .u64 1] 36)) (Nat.le_refl _))
    have ONE := hid (arg_new w1 [1] 1 rfl (by omega) (one_limb (by omega)))
    clear hb1
    go_wp2_with fail
    refine (shl_any _ 1 1 [1] kk k _ ONE.out (by simp [Nm.tsize]) HK.out (by rw [S1.out]; exact PS.out)).mono ?_
    rintro e w2 ⟨r1, o1, rfl, ha1, hb1⟩
    rw [S1.out] at ha1
    have D2 := hid (chain D1.out hb1 (Nat.le_refl _))
    have ON2 := hid (ONE.out.below hb1 (Nat.le_refl _))
    have A1 := hid ha1
    have l1 := ha1.small PS.out
    have LE1 : Hid ((o1.length : Int) = kk / 64 + 1) := by rw [Hid, len_pow ha1]; exact HLEN.out
    clear hb1 ha1 ONE
    have BL := bitLen_ans r1 o1 (2 ^ k) (k + 1) _ w2 A1.out (by omega) (Int.le_of_lt P0.out) (blen_pow k)
    have ek : ((k + 1 : Nat) : Int) = kk + 1 := by have := HK.out; omega
    rw [ek] at BL
    have HB := hid BL
    clear BL ek
    go_wp2_with fail
    refine HB.out.mono ?_
    rintro e w3 ⟨rfl, rfl⟩
    go_wp2_with fail
    refine (trail_any r1 _ _ o1 _ (A1.out.arg (by omega)) (HT.out.below D2.out)).mono ?_
    rintro e w3 ⟨t, rfl, htr, rfl⟩
    rw [A1.out.2.2.2.1] at htr
    have et : (t : Int) = kk := by have := htr.unique (trl_pow k); have := HK.out; omega
    rw [et]
    have le1 := LE1.out
    clear htr et HB
    go_wp2_with fail
    refine (add_ok r1 r1 _ _ _ _ o1 o1 _ (A1.out.arg (by omega)) (A1.out.arg (by omega)) (by rw [A1.out.2.2.2.1]; exact DB.out)).mono ?_
    rintro e w4 ⟨r2, o2, rfl, ha2, hb1⟩
    rw [A1.out.2.2.2.1, DD.out] at ha2
    have bel4 := (Below.refl w4.heap.size w4).alloc (Nat.le_refl _) (.cells #[.int .u64 2] 36)
    have D4 := hid (chain (chain D2.out hb1 (Nat.le_refl _)) bel4 (Nat.le_refl _))
    have A1b := hid ((A1.out.below hb1 (Nat.le_refl _)).below bel4 (Nat.le_refl _))
    have ON3 := hid ((ON2.out.below hb1 (Nat.le_refl _)).below bel4 (Nat.le_refl _))
    have A2 := hid (ha2.below bel4 (Nat.le_refl _))
    have l2 := ha2.small DS.out
    have TWO := hid (arg_new w4 [2] 1 rfl (by omega) (one_limb (by omega)))
    clear hb1 A1 ON2 ha2 bel4
    go_wp2_with fail
    refine (mul_ok _ r1 1 1 _ _ [2] o1 _ TWO.out (A1b.out.arg (by omega)) (by simp [Nm.tsize]) (by rw [A1b.out.2.2.1]; exact l1) (by rw [A1b.out.2.2.2.1, M2.out]; exact DS.out)).mono ?_
    rintro e w5 ⟨r3, o3, rfl, ha3, hb1⟩
    rw [A1b.out.2.2.2.1, M2.out] at ha3
    have D5 := hid (chain D4.out hb1 (Nat.le_refl _))
    have A1c := hid (A1b.out.below hb1 (Nat.le_refl _))
    have ON4 := hid (ON3.out.below hb1 (Nat.le_refl _))
    have A2b := hid (A2.out.below hb1 (Nat.le_refl _))
    have A3 := hid ha3
    have l3 := ha3.small DS.out
    clear hb1 A1b ON3 TWO A2 ha3
    go_wp2_with fail
    refine (mulAdd_any r1 _ _ o1 2 0 _ (A1c.out.arg (by omega)) (by rw [A1c.out.2.2.1]; exact l1) (by omega) (by omega) (by omega) (by omega)).mono ?_
    rintro e w6 ⟨h1, -, hb1⟩
    obtain ⟨r4, o4, rfl, ha4⟩ := h1 (by rw [A1c.out.2.2.2.1, M3.out]; exact DS.out)
    rw [A1c.out.2.2.2.1, M3.out] at ha4
    have D6 := hid (chain D5.out hb1 (Nat.le_refl _))
    have A1d := hid (A1c.out.below hb1 (Nat.le_refl _))
    have ON5 := hid (ON4.out.below hb1 (Nat.le_refl _))
    have A2c := hid (A2b.out.below hb1 (Nat.le_refl _))
    have A3b := hid (A3.out.below hb1 (Nat.le_refl _))
    have A4 := hid ha4
    have l4 := ha4.small DS.out
    clear h1 hb1 A1c ON4 A2b A3 ha4
    go_wp2_with fail
    refine (shl_any r1 _ _ o1 1 1 _ (A1d.out.arg (by omega)) (by rw [A1d.out.2.2.1]; exact l1) rfl (by rw [A1d.out.2.2.2.1, M4.out]; exact DS.out)).mono ?_
    rintro e w7 ⟨r5, o5, rfl, ha5, hb1⟩
    rw [A1d.out.2.2.2.1, M4.out] at ha5
    have D7 := hid (chain D6.out hb1 (Nat.le_refl _))
    have A1e := hid (A1d.out.below hb1 (Nat.le_refl _))
    have ON6 := hid (ON5.out.below hb1 (Nat.le_refl _))
    have A2d := hid (A2c.out.below hb1 (Nat.le_refl _))
    have A3c := hid (A3b.out.below hb1 (Nat.le_refl _))
    have A4b := hid (A4.out.below hb1 (Nat.le_refl _))
    have A5 := hid ha5
    have l5 := ha5.small DS.out
    clear hb1 A1d ON5 A2c A3b A4 ha5
    have E3 : Hid (decide (o2 = o3) = true) := by
      simp only [Hid, decide_eq_true_eq]
      exact Nm.canon A2d.out.2.1 A3c.out.2.1 A2d.out.2.2.1 A3c.out.2.2.1 (by rw [A2d.out.2.2.2.1, A3c.out.2.2.2.1])
    have E4 : Hid (decide (o2 = o4) = true) := by
      simp only [Hid, decide_eq_true_eq]
      exact Nm.canon A2d.out.2.1 A4b.out.2.1 A2d.out.2.2.1 A4b.out.2.2.1 (by rw [A2d.out.2.2.2.1, A4b.out.2.2.2.1])
    have E5 : Hid (decide (o2 = o5) = true) := by
      simp only [Hid, decide_eq_true_eq]
      exact Nm.canon A2d.out.2.1 A5.out.2.1 A2d.out.2.2.1 A5.out.2.2.1 (by rw [A2d.out.2.2.2.1, A5.out.2.2.2.1])
    go_wp2_with fail
    refine (same_is true r2 r3 _ _ _ _ o2 o3 _ (A2d.out.arg (by omega)) (A3c.out.arg (by omega)) E3.out).mono ?_
    rintro e w8 ⟨rfl, hb1⟩
    have D8 := hid (chain D7.out hb1 (Nat.le_refl _))
    have A1f := hid (A1e.out.below hb1 (Nat.le_refl _))
    have ON7 := hid (ON6.out.below hb1 (Nat.le_refl _))
    have A2e := hid (A2d.out.below hb1 (Nat.le_refl _))
    have A4c := hid (A4b.out.below hb1 (Nat.le_refl _))
    have A5b := hid (A5.out.below hb1 (Nat.le_refl _))
    clear hb1 A1e ON6 A2d A3c A4b A5 E3
    go_wp2_with fail
    refine (same_is true r2 r4 _ _ _ _ o2 o4 _ (A2e.out.arg (by omega)) (A4c.out.arg (by omega)) E4.out).mono ?_
    rintro e w8 ⟨rfl, hb1⟩
    have D8b := hid (chain D8.out hb1 (Nat.le_refl _))
    have A1g := hid (A1f.out.below hb1 (Nat.le_refl _))
    have ON8 := hid (ON7.out.below hb1 (Nat.le_refl _))
    have A2f := hid (A2e.out.below hb1 (Nat.le_refl _))
    have A5c := hid (A5b.out.below hb1 (Nat.le_refl _))
    clear hb1 A1f ON7 A2e A4c A5b E4
    go_wp2_with fail
    refine (same_is true r2 r5 _ _ _ _ o2 o5 _ (A2f.out.arg (by omega)) (A5c.out.arg (by omega)) E5.out).mono ?_
    rintro e w8 ⟨rfl, hb1⟩
    have D9 := hid (chain D8b.out hb1 (Nat.le_refl _))
    have A9 := hid (A1g.out.below hb1 (Nat.le_refl _))
    have ON9 := hid (ON8.out.below hb1 (Nat.le_refl _))
    have A2g := hid (A2f.out.below hb1 (Nat.le_refl _))
    clear hb1 A1g ON8 A2f A5c E5
    have BL := bitLen_ans r2 o2 (2 ^ (k + 1)) (k + 1 + 1) _ _ A2g.out (by omega) (Int.le_of_lt (Nm.two_pos _)) (blen_pow (k + 1))
    have ek : ((k + 1 + 1 : Nat) : Int) = kk + 2 := by have := HK.out; omega
    rw [ek] at BL
    have HB := hid BL
    clear BL ek
    go_wp2_with fail
    refine HB.out.mono ?_
    rintro e w9 ⟨rfl, rfl⟩
    clear HB A2g
    go_wp2_with fail
    refine (sub_ok r1 _ _ _ 1 1 o1 [1] _ (A9.out.arg (by omega)) ON9.out (by rw [A9.out.2.2.1]; exact l1) (by rw [A9.out.2.2.2.1, show Nm.val [1] = 1 by decide]; have := P0.out; omega)).mono ?_
    rintro e w10 ⟨r6, o6, rfl, ha6, hb1⟩
    rw [A9.out.2.2.2.1, show Nm.val [1] = 1 by decide] at ha6
    have D10 := hid (chain D9.out hb1 (Nat.le_refl _))
    have A6 := hid ha6
    have l6 := ha6.small (by have := PS.out; omega)
    have N6 : Hid (0 ≤ (2 : Int) ^ k - 1) := by have := P0.out; show _ ≤ _; omega
    have BL6 := bitLen_ans r6 o6 _ k _ _ A6.out (by omega) N6.out (blen_ones k)
    rw [← HK.out] at BL6
    have HB6 := hid BL6
    clear hb1 ha6 BL6 A9 ON9
    go_wp2_with fail
    refine HB6.out.mono ?_
    rintro e w11 ⟨rfl, rfl⟩
    clear HB6
    go_wp2_with fail
    refine (shr_any r6 _ _ o6 (hh : Int) hh _ (A6.out.arg (by omega)) (HT.out.below D10.out) (by rw [A6.out.2.2.1]; exact l6) rfl).mono ?_
    rintro e w12 ⟨r7, o7, rfl, ha7, hb1⟩
    rw [A6.out.2.2.2.1, HOD.out] at ha7
    have D12 := hid (chain D10.out hb1 (Nat.le_refl _))
    have A7 := hid ha7
    have l7 : o7.length ≤ 4096 := by
      refine ha7.small ?_
      have := Nm.two_mono (show k - hh ≤ k by omega)
      have := PS.out
      omega
    have BL7 := bitLen_ans r7 o7 _ (k - hh) _ _ A7.out (by omega) (by have := Nm.two_pos (k - hh); omega) (blen_ones (k - hh))
    have e7 : ((k - hh : Nat) : Int) = kk - (hh : Int) := by have := HK.out; omega
    rw [e7] at BL7
    have HB7 := hid BL7
    have LO : decide (Nm.val o6 % 2 ^ hh ≠ 0) = decide (0 < (hh : Int)) := by
      rw [A6.out.2.2.2.1, HOM.out, Bool.eq_iff_iff]
      simp only [decide_eq_true_eq]
      rcases Nat.eq_zero_or_pos hh with h0 | h0
      · rw [h0]; simp
      · have := Nm.two_mono h0
        have e : (2 : Int) ^ 1 = 2 := by decide
        constructor
        · intro _; omega
        · intro _; omega
    rw [LO]
    clear hb1 ha7 BL7 e7 LO
    by_cases hz : hh = 0
    · have hz1 : decide (0 < (hh : Int)) = false := by simp; omega
      have hz2 : ¬ (0 : Int) < (hh : Int) := by omega
      rw [hz1]
      go_wp2_with fail
      refine HB7.out.mono ?_
      rintro e w13 ⟨rfl, rfl⟩
      go_wp2_with fail
      go_ret
      exact ⟨rfl, D12.out⟩
    · have hz1 : decide (0 < (hh : Int)) = true := by simp; omega
      have hz2 : (0 : Int) < (hh : Int) := by omega
      have hz3 : (0 : Int) < kk := by omega
      rw [hz1]
      go_wp2_with fail
      refine HB7.out.mono ?_
      rintro e w13 ⟨rfl, rfl⟩
      go_wp2_with fail
      go_ret
      exact ⟨rfl, D12.out⟩

theorem limit_any (kk : Int) (w : World) (hT : Tab w) (hk1 : kk ≤ 9223372036854775807) :
    Calls Tryd.prog 5 #[.int .i64 kk] w fun e w' => e = .returned (.bool true) ∧ Below w.heap.size w w' := by
  by_cases h : 0 ≤ kk ∧ kk ≤ 262143
  · exact limit_in kk kk.toNat w hT (by omega) (by omega)
  · exact limit_out kk w hk1 (by omega)
end Go.Proofs.YtamlindelmfbiabDoor
