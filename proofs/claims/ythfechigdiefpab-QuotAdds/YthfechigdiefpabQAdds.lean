/-
  THE WALK OF QuotAdds. (Made by mkadds.py.)
-/
import Derived.Test.YthfechigdiefpabQPow2
import Derived.Test.YthfechigdiefpabQLaw
import Derived.Test.YthfechigdiefpabShl
namespace Go.Proofs.Ythfechigdiefpab
open Go.RowKit Go.Deep

/-- As Gives, the error under a name. -/
def Ga (T : Int) (B : Nat) (r : Option Addr) (os : List Int) (E : Int) (w' : World) : Prop := (E = 0 ∧ T < Nm.pw 4096 ∧ Ans B w' r os T) ∨ (E = 2 ∧ Nm.pw 4096 ≤ T)

theorem Ga.below {T : Int} {B : Nat} {r : Option Addr} {os : List Int} {E : Int} {w w' : World} (h : Ga T B r os E w) (hb : Below w.heap.size w w') : Ga T B r os E w' := by
  rcases h with ⟨h1, h2, h3⟩ | h
  · exact .inl ⟨h1, h2, h3.below hb (Nat.le_refl _)⟩
  · exact .inr h

theorem Ga.ok {T : Int} {B : Nat} {r : Option Addr} {os : List Int} {w' : World} (h : Ga T B r os 0 w') : T < Nm.pw 4096 ∧ Ans B w' r os T := by
  rcases h with ⟨h1, h2, h3⟩ | ⟨h, _⟩
  · exact ⟨h2, h3⟩
  · omega

theorem Ga.two {T : Int} {B : Nat} {r : Option Addr} {os : List Int} {w' : World} (h : Ga T B r os 2 w') : Nm.pw 4096 ≤ T := by
  rcases h with ⟨h1, h2, h3⟩ | ⟨_, h⟩
  · omega
  · exact h

theorem Ga.cases {T : Int} {B : Nat} {r : Option Addr} {os : List Int} {E : Int} {w' : World} (h : Ga T B r os E w') : E = 0 ∨ E = 2 := by
  rcases h with ⟨h1, h2, h3⟩ | ⟨h, _⟩
  · exact .inl h1
  · exact .inr h

theorem Gives.ga {T : Int} {w : World} {e : Ending} {w' : World} (h : Gives T w e w') : ∃ r os E, e = .returned (.tuple #[.slice r (List.length os) (List.length os), .int .i64 E]) ∧ Hid (Ga T w.heap.size r os E w') ∧ Below w.heap.size w w' := by
  obtain ⟨h | h, hb⟩ := h
  · obtain ⟨h1, r, os, rfl, h2⟩ := h
    exact ⟨r, os, 0, rfl, .inl ⟨rfl, h1, h2⟩, hb⟩
  · obtain ⟨h1, rfl⟩ := h
    exact ⟨none, [], 2, rfl, .inr ⟨rfl, h1⟩, hb⟩

theorem big_pw : (18446744073709551616 : Int) ≤ Nm.pw 4096 := by
  have h := Nm.pw_mono (show 1 ≤ 4096 by omega)
  have e : Nm.pw 1 = 18446744073709551616 := by simp [Nm.pw]
  rw [e] at h
  exact h

/-- Moved up by k binary digits, or too big. -/
theorem shl_gives (p : Option Addr) (n cap : Nat) (zs : List Int) (kk : Int) (k : Nat) (w : World) (ha : Arg w p n cap zs) (tz : Nm.tsize zs ≤ 4096) (hz : 0 < Nm.tsize zs) (hkk : kk = (k : Int)) (hk1 : kk ≤ 9223372036854775807) (V : Int) (hV : Nm.val zs = V) :
    Calls Try.prog 10 #[.slice p n cap, .int .i64 kk] w fun e w' => Gives (V * 2 ^ k) w e w' := by
  obtain ⟨L, l1, l2, l3, _⟩ := blen_is (Nm.trim zs) ha.2.2.2.2.trim
  rw [Nm.val_trim, hV] at l2
  have hv0 : 0 < V := by
    have h1 := Nm.tsize_zero_iff ha.2.2.2.2
    have h2 := (Nm.val_bd zs ha.2.2.2.2).1
    omega
  have hl := l2.2.2 hv0
  by_cases hb : L + k ≤ 262144
  · refine (shl_ok p n cap zs kk k L w ha tz hkk hz l1 hb).mono ?_
    rintro e w' ⟨r, os, rfl, A, hb2⟩
    rw [hV] at A
    refine ⟨.inl ⟨?_, r, os, rfl, A⟩, hb2⟩
    have h1 : V * 2 ^ k < 2 ^ L * 2 ^ k := Int.mul_lt_mul_of_pos_right l2.1 (Nm.two_pos k)
    rw [← Nm.two_add] at h1
    have h2 := Nm.two_mono hb
    rw [Nm.pw_two 4096, show 64 * 4096 = 262144 from rfl]
    exact Int.lt_of_lt_of_le h1 h2
  · refine (shl_big p n cap zs kk L w ha tz (by omega) hk1 hz l1 (by omega)).mono ?_
    rintro e w' ⟨rfl, rfl⟩
    refine ⟨.inr ⟨?_, rfl⟩, Below.refl _ _⟩
    have h1 : 2 ^ (L - 1) * 2 ^ k ≤ V * 2 ^ k := Int.mul_le_mul_of_nonneg_right hl.2 (Int.le_of_lt (Nm.two_pos k))
    rw [← Nm.two_add] at h1
    have h2 := Nm.two_mono (show 262144 ≤ L - 1 + k by omega)
    rw [Nm.pw_two 4096, show 64 * 4096 = 262144 from rfl]
    exact Int.le_trans h2 h1

/-- What is too big stays so, behind a product with a number that is not zero. -/
theorem big_left {A : Int} {m n : Nat} (hA : 0 ≤ A) (h : Nm.pw 4096 ≤ A ^ m) : Nm.pw 4096 ≤ A ^ (m + n) := by
  have h1 : 1 ≤ A := by
    rcases (show A = 0 ∨ 1 ≤ A by omega) with rfl | c
    · exfalso
      have := big_pw
      have e : (0 : Int) ^ m ≤ 1 := by
        cases m with
        | zero => simp
        | succ m => rw [Int.pow_succ, Int.mul_zero]; omega
      generalize Nm.pw 4096 = x at *
      omega
    · exact c
  exact Int.le_trans h (Pn.pow_mono h1 (by omega))

theorem ten_five (n : Nat) : (5 : Int) ^ n * 2 ^ n = 10 ^ n := by rw [← Int.mul_pow]; rfl

theorem five_ten {n : Nat} (h : Nm.pw 4096 ≤ 5 ^ n) : Nm.pw 4096 ≤ 10 ^ n := Int.le_trans h (Pn.pow_base (by omega) (by omega) n)

/-- The sum's error, by those of its parts. -/
theorem Ga.same {T : Int} {B B' : Nat} {r r' : Option Addr} {os os' : List Int} {E E' : Int} {w w' : World} (h : Ga T B r os E w) (k : Ga T B' r' os' E' w') : E = E' := by
  rcases h with ⟨h1, h2, _⟩ | ⟨h1, h2⟩ <;> rcases k with ⟨k1, k2, _⟩ | ⟨k1, k2⟩
  · rw [h1, k1]
  · exact absurd (Int.lt_of_lt_of_le h2 k2) (Int.lt_irrefl _)
  · exact absurd (Int.lt_of_lt_of_le k2 h2) (Int.lt_irrefl _)
  · rw [h1, k1]

theorem Ga.over {T : Int} {B : Nat} {r : Option Addr} {os : List Int} {E : Int} {w : World} (h : Ga T B r os E w) (k : Nm.pw 4096 ≤ T) : E = 2 := by
  rcases h with ⟨h1, h2, _⟩ | ⟨h1, h2⟩
  · exact absurd (Int.lt_of_lt_of_le h2 k) (Int.lt_irrefl _)
  · exact h1

set_option maxRecDepth 100000 in
set_option maxHeartbeats 8000000 in
theorem adds_any (p : Option Addr) (l cap : Nat) (za : List Int) (mi ni : Int) (w : World) (ha : Arg w p l cap za) (hm63 : mi ≤ 9223372036854775807) (hn63 : ni ≤ 9223372036854775807) :
    Calls Try.prog 3 #[.slice p l cap, .int .i64 mi, .int .i64 ni] w fun e w' => e = .returned (.bool true) ∧ Below w.heap.size w w' := by
  have hl1 := ha.2.1
  have hl2 := ha.2.2.1
  have HA := hid ha
  clear ha
  go_enter Try.func3, Try.ntmps3
  go_wp2_with fail
  refine (one_any 3 _ (by omega) (by omega)).mono ?_
  rintro e w1 ⟨r1, rfl, A1, hb1⟩
  have HA1 := hid A1
  have D1 := hid hb1
  clear A1 hb1
  go_wp2_with fail
  refine (pow_gives r1 1 1 [3] 3 5 5 _ HA1.out (by simp [Nm.tsize]) (by simp [Nm.val]) rfl (by omega)).mono ?_
  intro e w2 G
  obtain ⟨s1, os, E, rfl, G, hb2⟩ := G.ga
  rw [show (3 : Int) ^ 5 = 243 by decide] at G
  have hE : E = 0 := by
    rcases G.out.cases with h | h
    · exact h
    · subst h
      have h1 := G.out.two
      have h2 := big_pw
      generalize Nm.pw 4096 = x at *
      omega
  subst hE
  have HB2 := hid G.out.ok.2
  have D2 := hid (chain D1.out hb2 (Nat.le_refl _))
  clear hb2 HA1 D1 G
  go_wp2_with fail
  refine (one_any 243 _ (by omega) (by omega)).mono ?_
  rintro e w3 ⟨r3, rfl, A3, hb3⟩
  have HA3 := hid A3
  have HB3 := hid (HB2.out.below hb3 (Nat.le_refl _))
  have D3 := hid (chain D2.out hb3 (Nat.le_refl _))
  clear A3 hb3 HB2 D2
  go_wp2_with fail
  refine (alike_one HB3.out (by omega) (by omega) r3 HA3.out).mono ?_
  rintro e w4 ⟨rfl, hb4⟩
  have D4 := hid (chain D3.out hb4 (Nat.le_refl _))
  have HA4 := hid (HA.out.below D4.out (Nat.le_refl _))
  clear hb4 HB3 HA3 D3
  by_cases hm0 : mi < 0
  · go_wp2_with fail
    go_ret
    exact ⟨rfl, D4.out⟩
  by_cases hn0 : ni < 0
  · go_wp2_with fail
    go_ret
    exact ⟨rfl, D4.out⟩
  by_cases hm1 : 2305843009213693952 < mi
  · go_wp2_with fail
    go_ret
    exact ⟨rfl, D4.out⟩
  by_cases hn1 : 2305843009213693952 < ni
  · go_wp2_with fail
    go_ret
    exact ⟨rfl, D4.out⟩
  go_wp2_with fail
  refine (top_any p l cap za _ HA4.out.1 (by omega) HA4.out.2.2.2.1).mono ?_
  rintro e w5 ⟨rfl, rfl⟩
  by_cases ht : 4096 < Nm.tsize za
  · have ht' : (4096 : Int) < (Nm.tsize za : Int) := by omega
    go_wp2_with fail
    go_ret
    exact ⟨rfl, D4.out⟩
  have ht' : (Nm.tsize za : Int) ≤ 4096 := by omega
  have HT : Hid (Nm.tsize za ≤ 4096) := by show _ ≤ _; omega
  obtain ⟨A, HV⟩ : ∃ A, Hid (Nm.val za = A) := ⟨_, rfl⟩
  have A0 : Hid (0 ≤ A) := by show _ ≤ _; rw [← HV.out]; exact (Nm.val_bd za HA.out.2.2.2.2).1
  obtain ⟨m, hm⟩ : ∃ m : Nat, mi = (m : Int) := ⟨mi.toNat, by omega⟩
  obtain ⟨n, hn⟩ : ∃ n : Nat, ni = (n : Int) := ⟨ni.toNat, by omega⟩
  have HM := hid hm
  have HN := hid hn
  have hmn : Hid (mi + ni = ((m + n : Nat) : Int)) := by show _ = _; omega
  clear ht hm hn
  go_wp2_with fail
  refine (pow_gives p l cap za A mi m _ HA4.out HT.out HV.out HM.out hm63).mono ?_
  intro e w6 G
  obtain ⟨rx, xs, E1, rfl, GX, hb6⟩ := G.ga
  have D6 := hid (chain D4.out hb6 (Nat.le_refl _))
  have HA6 := hid (HA.out.below D6.out (Nat.le_refl _))
  clear hb6 G HA4 D4
  go_wp2_with fail
  refine (pow_gives p l cap za A ni n _ HA6.out HT.out HV.out HN.out hn63).mono ?_
  intro e w7 G
  obtain ⟨ry, ys, E2, rfl, GY, hb7⟩ := G.ga
  have D7 := hid (chain D6.out hb7 (Nat.le_refl _))
  have HA7 := hid (HA.out.below D7.out (Nat.le_refl _))
  have GX7 := hid (GX.out.below hb7)
  clear hb7 G HA6 D6 GX
  go_wp2_with fail
  refine (pow_gives p l cap za A (mi + ni) (m + n) _ HA7.out HT.out HV.out hmn.out (by omega)).mono ?_
  intro e w8 G
  obtain ⟨rz, zs, E3, rfl, GZ, hb8⟩ := G.ga
  have D8 := hid (chain D7.out hb8 (Nat.le_refl _))
  have GX8 := hid (GX7.out.below hb8)
  have GY8 := hid (GY.out.below hb8)
  clear hb8 G HA7 D7 GX7 GY
  go_wp2_with fail
  refine (pow10_gives ni n _ HN.out hn63).mono ?_
  intro e w9 G
  obtain ⟨rt, ts, E4, rfl, GT, hb9⟩ := G.ga
  have D9 := hid (chain D8.out hb9 (Nat.le_refl _))
  have GX9 := hid (GX8.out.below hb9)
  have GY9 := hid (GY8.out.below hb9)
  have GZ9 := hid (GZ.out.below hb9)
  clear hb9 G D8 GX8 GY8 GZ
  go_wp2_with fail
  refine (pow5_gives ni n _ HN.out hn63).mono ?_
  intro e w10 G
  obtain ⟨rf, fs, E5, rfl, GF, hb10⟩ := G.ga
  have D := hid (chain D9.out hb10 (Nat.le_refl _))
  have GX := hid (GX9.out.below hb10)
  have GY := hid (GY9.out.below hb10)
  have GZ := hid (GZ9.out.below hb10)
  have GT' := hid (GT.out.below hb10)
  clear hb10 G D9 GX9 GY9 GZ9 GT
  rcases GF.out.cases with hE5 | hE5
  · subst hE5
    obtain ⟨hf1, hf2⟩ := GF.out.ok
    have HF1 := hid hf1
    have HF2 := hid hf2
    have fpos : Hid (0 < Nm.tsize fs) := by
      have h1 := Nm.tsize_zero_iff hf2.2.1
      have h2 := hf2.2.2.2.1
      have h3 : (0 : Int) < 5 ^ n := Int.pow_pos (by omega)
      show _ < _
      omega
    clear hf1 hf2 GF
    go_wp2_with fail
    refine (shl_gives rf _ _ fs ni n _ (HF2.out.argT HF1.out) (HF2.out.tsT HF1.out) fpos.out HN.out hn63 (5 ^ n) HF2.out.2.2.2.1).mono ?_
    intro e w11 G
    obtain ⟨ru, us, E6, rfl, GU, hb11⟩ := G.ga
    rw [ten_five] at GU
    have D11 := hid (chain D.out hb11 (Nat.le_refl _))
    have GX11 := hid (GX.out.below hb11)
    have GY11 := hid (GY.out.below hb11)
    have GZ11 := hid (GZ.out.below hb11)
    have GT11 := hid (GT'.out.below hb11)
    clear hb11 G D GX GY GZ GT'
    have hE6 := GU.out.same GT11.out
    subst hE6
    rcases GU.out.cases with hE6 | hE6
    · subst hE6
      have AL := hid (alike_ans GT11.out.ok.2 GU.out.ok.2 (by have := GT11.out.ok.2.small GT11.out.ok.1; omega))
      clear GU
      go_wp2_with fail
      refine AL.out.mono ?_
      rintro e w12 ⟨rfl, hb12⟩
      have D := hid (chain D11.out hb12 (Nat.le_refl _))
      have GX := hid (GX11.out.below hb12)
      have GY := hid (GY11.out.below hb12)
      have GZ := hid (GZ11.out.below hb12)
      clear hb12 D11 GX11 GY11 GZ11 GT11
      rcases GX.out.cases with hx | hx
      · subst hx
        rcases GY.out.cases with hy | hy
        · subst hy
          have GXA := hid GX.out.ok
          have GYA := hid GY.out.ok
          clear GX GY
          go_wp2_with fail
          refine (mul_gives rx ry _ _ _ _ xs ys (A ^ (m + n)) _ (GXA.out.2.argT GXA.out.1) (GYA.out.2.argT GYA.out.1) (GXA.out.2.tsT GXA.out.1) (GYA.out.2.tsT GYA.out.1) (by rw [GXA.out.2.2.2.2.1, GYA.out.2.2.2.2.1, Int.pow_add])).mono ?_
          intro e w20 G
          obtain ⟨rp, qs, E7, rfl, GP, hb20⟩ := G.ga
          have GZ20 := hid (GZ.out.below hb20)
          have D20 := hid (chain D.out hb20 (Nat.le_refl _))
          have hE7 := GP.out.same GZ20.out
          subst hE7
          clear hb20 G GZ
          rcases GP.out.cases with h7 | h7
          · subst h7
            have AL := hid (alike_ans GZ20.out.ok.2 GP.out.ok.2 (by have := GZ20.out.ok.2.small GZ20.out.ok.1; omega))
            clear GP
            go_wp2_with fail
            refine AL.out.mono ?_
            rintro e w21 ⟨rfl, hb21⟩
            have D21 := hid (chain D20.out hb21 (Nat.le_refl _))
            clear hb21
            go_wp2_with fail
            go_ret
            exact ⟨rfl, D21.out⟩
          · subst h7
            go_wp2_with fail
            go_ret
            exact ⟨rfl, D20.out⟩
        · subst hy
          have h3 := GZ.out.over (by have h := big_left (n := m) A0.out GY.out.two; rw [Nat.add_comm] at h; exact h)
          subst h3
          go_wp2_with fail
          go_ret
          exact ⟨rfl, D.out⟩
      · subst hx
        have h3 := GZ.out.over (big_left A0.out GX.out.two)
        subst h3
        rcases GY.out.cases with hy | hy
        · subst hy
          go_wp2_with fail
          go_ret
          exact ⟨rfl, D.out⟩
        · subst hy
          go_wp2_with fail
          go_ret
          exact ⟨rfl, D.out⟩
    · subst hE6
      have D := D11
      have GX := GX11
      have GY := GY11
      have GZ := GZ11
      clear D11 GX11 GY11 GZ11 GT11 GU
      rcases GX.out.cases with hx | hx
      · subst hx
        rcases GY.out.cases with hy | hy
        · subst hy
          have GXA := hid GX.out.ok
          have GYA := hid GY.out.ok
          clear GX GY
          go_wp2_with fail
          refine (mul_gives rx ry _ _ _ _ xs ys (A ^ (m + n)) _ (GXA.out.2.argT GXA.out.1) (GYA.out.2.argT GYA.out.1) (GXA.out.2.tsT GXA.out.1) (GYA.out.2.tsT GYA.out.1) (by rw [GXA.out.2.2.2.2.1, GYA.out.2.2.2.2.1, Int.pow_add])).mono ?_
          intro e w20 G
          obtain ⟨rp, qs, E7, rfl, GP, hb20⟩ := G.ga
          have GZ20 := hid (GZ.out.below hb20)
          have D20 := hid (chain D.out hb20 (Nat.le_refl _))
          have hE7 := GP.out.same GZ20.out
          subst hE7
          clear hb20 G GZ
          rcases GP.out.cases with h7 | h7
          · subst h7
            have AL := hid (alike_ans GZ20.out.ok.2 GP.out.ok.2 (by have := GZ20.out.ok.2.small GZ20.out.ok.1; omega))
            clear GP
            go_wp2_with fail
            refine AL.out.mono ?_
            rintro e w21 ⟨rfl, hb21⟩
            have D21 := hid (chain D20.out hb21 (Nat.le_refl _))
            clear hb21
            go_wp2_with fail
            go_ret
            exact ⟨rfl, D21.out⟩
          · subst h7
            go_wp2_with fail
            go_ret
            exact ⟨rfl, D20.out⟩
        · subst hy
          have h3 := GZ.out.over (by have h := big_left (n := m) A0.out GY.out.two; rw [Nat.add_comm] at h; exact h)
          subst h3
          go_wp2_with fail
          go_ret
          exact ⟨rfl, D.out⟩
      · subst hx
        have h3 := GZ.out.over (big_left A0.out GX.out.two)
        subst h3
        rcases GY.out.cases with hy | hy
        · subst hy
          go_wp2_with fail
          go_ret
          exact ⟨rfl, D.out⟩
        · subst hy
          go_wp2_with fail
          go_ret
          exact ⟨rfl, D.out⟩
  · subst hE5
    have hE4 := GT'.out.over (five_ten GF.out.two)
    subst hE4
    clear GF GT'
    rcases GX.out.cases with hx | hx
    · subst hx
      rcases GY.out.cases with hy | hy
      · subst hy
        have GXA := hid GX.out.ok
        have GYA := hid GY.out.ok
        clear GX GY
        go_wp2_with fail
        refine (mul_gives rx ry _ _ _ _ xs ys (A ^ (m + n)) _ (GXA.out.2.argT GXA.out.1) (GYA.out.2.argT GYA.out.1) (GXA.out.2.tsT GXA.out.1) (GYA.out.2.tsT GYA.out.1) (by rw [GXA.out.2.2.2.2.1, GYA.out.2.2.2.2.1, Int.pow_add])).mono ?_
        intro e w20 G
        obtain ⟨rp, qs, E7, rfl, GP, hb20⟩ := G.ga
        have GZ20 := hid (GZ.out.below hb20)
        have D20 := hid (chain D.out hb20 (Nat.le_refl _))
        have hE7 := GP.out.same GZ20.out
        subst hE7
        clear hb20 G GZ
        rcases GP.out.cases with h7 | h7
        · subst h7
          have AL := hid (alike_ans GZ20.out.ok.2 GP.out.ok.2 (by have := GZ20.out.ok.2.small GZ20.out.ok.1; omega))
          clear GP
          go_wp2_with fail
          refine AL.out.mono ?_
          rintro e w21 ⟨rfl, hb21⟩
          have D21 := hid (chain D20.out hb21 (Nat.le_refl _))
          clear hb21
          go_wp2_with fail
          go_ret
          exact ⟨rfl, D21.out⟩
        · subst h7
          go_wp2_with fail
          go_ret
          exact ⟨rfl, D20.out⟩
      · subst hy
        have h3 := GZ.out.over (by have h := big_left (n := m) A0.out GY.out.two; rw [Nat.add_comm] at h; exact h)
        subst h3
        go_wp2_with fail
        go_ret
        exact ⟨rfl, D.out⟩
    · subst hx
      have h3 := GZ.out.over (big_left A0.out GX.out.two)
      subst h3
      rcases GY.out.cases with hy | hy
      · subst hy
        go_wp2_with fail
        go_ret
        exact ⟨rfl, D.out⟩
      · subst hy
        go_wp2_with fail
        go_ret
        exact ⟨rfl, D.out⟩
end Go.Proofs.Ythfechigdiefpab
