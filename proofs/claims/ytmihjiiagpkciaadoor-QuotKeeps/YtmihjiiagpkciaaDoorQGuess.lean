/-
  quot's guess: never less than the digit.
-/
import Derived.Test.YtmihjiiagpkciaaDoorQShift
namespace Go.Proofs.YtmihjiiagpkciaaDoor
open Go.RowKit Go.Deep

/-- Both lists lie where they lay. -/
def Both (w : World) (p q : Option Addr) (ps bs : List Int) : Prop := Lies w p ps ∧ Lies w q bs

theorem Both.below {w w' : World} {p q : Option Addr} {ps bs : List Int} (h : Both w p q ps bs) (hb : Below w.heap.size w w') : Both w' p q ps bs :=
  ⟨h.1.below hb (Nat.le_refl _), h.2.below hb (Nat.le_refl _)⟩

/-- Moved up till its highest binary digit is at the top, the divisor keeps its limbs. -/
theorem room_up {bs : List Int} (hz : Nm.Limbs bs) {k : Nat} (lb : bs.length = k + 2) {T U y : Int} (hT : 0 < T) (hTU : T * U = 18446744073709551616) (hy : bs.getD (k + 1) 0 = y) (hyT : y * T < 18446744073709551616) : Nm.val bs * T < Nm.pw (k + 2) := by
  have h1 := Nm.val_take_succ bs (k + 1) (by omega)
  rw [List.take_of_length_le (by omega), hy] at h1
  have h2 := (Nm.val_bd _ (hz.take (k + 1))).2
  rw [List.length_take, Nat.min_eq_left (by omega)] at h2
  have hyU : y + 1 ≤ U := by
    rcases (show y + 1 ≤ U ∨ U ≤ y by omega) with c | c
    · exact c
    · exfalso
      have : U * T ≤ y * T := Int.mul_le_mul_of_nonneg_right c (by omega)
      rw [Int.mul_comm U T, hTU] at this
      omega
  have h3 : (y + 1) * T ≤ U * T := Int.mul_le_mul_of_nonneg_right hyU (by omega)
  rw [Int.mul_comm U T, hTU] at h3
  have hp := Nm.pw_pos (k + 1)
  have h4 : Nm.pw (k + 1) * ((y + 1) * T) ≤ Nm.pw (k + 1) * 18446744073709551616 := Int.mul_le_mul_of_nonneg_left h3 (by omega)
  have h5 : Nm.val bs < Nm.pw (k + 1) * (y + 1) := by rw [Int.mul_add, Int.mul_one]; omega
  have h6 := Int.mul_lt_mul_of_pos_right h5 hT
  rw [Int.mul_assoc] at h6
  rw [show k + 2 = k + 1 + 1 from rfl, Nm.pw_succ]
  omega

set_option maxRecDepth 100000 in
set_option maxHeartbeats 1000000 in
theorem guess_any (p q : Option Addr) (k n n1 cap cap' : Nat) (ps bs : List Int) (w : World) (hn : n = k + 2) (hn1 : n1 = k + 3) (lb : bs.length = n) (lp : ps.length = n1) (hc : n1 ≤ cap) (hc' : n ≤ cap') (hm : cap ≤ 140737488355328) (hm' : cap' ≤ 140737488355328)
    (hp : Lies w p ps) (hb : Lies w q bs) (hlp : Nm.Limbs ps) (hlb : Nm.Limbs bs) (htop : bs.getD (k + 1) 0 ≠ 0) (hpb : Nm.val ps < Nm.val bs * 18446744073709551616) :
    Calls Tryd.prog 58 #[.slice p n1 cap, .slice q n cap'] w fun e w' => ∃ g, e = .returned (.int .u64 g) ∧ (0 ≤ g ∧ g < 18446744073709551616) ∧ Hid (∀ x, 0 ≤ x → x * Nm.val bs ≤ Nm.val ps → x ≤ g) ∧ Below w.heap.size w w' := by
  obtain ⟨b, off, rfl, hbw, HC⟩ := hb.at (by omega)
  obtain ⟨t1, HT1⟩ : ∃ t1, Hid (t1 = k + 1) := ⟨_, rfl⟩
  have e1 : (n : Int) - 1 = (t1 : Int) := by rw [HT1.out]; omega
  obtain ⟨y, hy, Y⟩ : ∃ y, w.cell? ⟨b, off + t1, none⟩ = some (.int .u64 y) ∧ Hid (y = bs.getD t1 0) := ⟨_, HC.out t1 (by rw [HT1.out]; omega), rfl⟩
  have hy0 := hlb.at t1
  rw [← Y.out] at hy0
  obtain ⟨hy0, hy1⟩ := hy0
  have hyp : 0 < y := by
    have := Y.out
    rw [HT1.out] at this
    omega
  obtain ⟨l, hl⟩ : ∃ l, Lib.bitLen y.toNat = l := ⟨_, rfl⟩
  obtain ⟨t, ht, ht63, _, hyT, hT, hU, hTU⟩ := shift_facts y l hyp hy1 hl
  have LE := lead_any y l w hy0 hy1 hl
  rw [show 64 - (l : Int) = (t : Int) by omega] at LE
  have F := Qd.fits hlb hlp hT hU hTU (k := k) (by omega) (by omega) (room_up hlb (by omega) hT hTU (by rw [← HT1.out]; exact Y.out.symm) hyT) hpb
  have Bf := Qd.limb_bd hlb hT hU hTU (k + 1)
  have Bs := Qd.limb_bd hlb hT hU hTU k
  have Bh := Qd.limb_bd hlp hT hU hTU (k + 2)
  have Bm := Qd.limb_bd hlp hT hU hTU (k + 1)
  have Bl := Qd.limb_bd hlp hT hU hTU k
  obtain ⟨f, hf⟩ : ∃ f, Qd.limb bs (2 ^ t) (2 ^ (64 - t)) (k + 1) = f := ⟨_, rfl⟩
  obtain ⟨s, hs⟩ : ∃ f, Qd.limb bs (2 ^ t) (2 ^ (64 - t)) k = f := ⟨_, rfl⟩
  obtain ⟨h, hh⟩ : ∃ f, Qd.limb ps (2 ^ t) (2 ^ (64 - t)) (k + 2) = f := ⟨_, rfl⟩
  obtain ⟨m, hmm⟩ : ∃ f, Qd.limb ps (2 ^ t) (2 ^ (64 - t)) (k + 1) = f := ⟨_, rfl⟩
  obtain ⟨lo, hlo⟩ : ∃ f, Qd.limb ps (2 ^ t) (2 ^ (64 - t)) k = f := ⟨_, rfl⟩
  rw [hf, hs, hh, hmm, hlo] at F
  rw [hf] at Bf
  rw [hs] at Bs
  rw [hh] at Bh
  rw [hmm] at Bm
  rw [hlo] at Bl
  obtain ⟨f0, f1⟩ := Bf
  obtain ⟨s0, s1⟩ := Bs
  obtain ⟨h0, h1⟩ := Bh
  obtain ⟨m0, m1⟩ := Bm
  obtain ⟨lo0, lo1⟩ := Bl
  obtain ⟨hhf, hfit⟩ := F
  have HQ : Hid (∀ x, (fun x => 0 ≤ x ∧ x * Nm.val bs ≤ Nm.val ps) x → Qd.Fits x f s h m lo) := fun x hx => hfit x hx.1 hx.2
  have HLE := hid LE
  have HBO : Hid (Both w p (some ⟨b, off, none⟩) ps bs) := ⟨hp, hb⟩
  have HF := hid hf
  have HS := hid hs
  have HH := hid hh
  have HM := hid hmm
  have HL := hid hlo
  have hLP := hid hlp
  have hLB := hid hlb
  have HN := hid hn
  have HN1 := hid hn1
  have HLP := hid lp
  have HLB := hid lb
  have hnn1 : (n : Int) < (n1 : Int) := by omega
  clear LE hf hs hh hmm hlo hfit hlp hlb hn hn1 lp lb hp hb hl ht htop hpb hyT hT hU hTU
  have fin : ∀ (g : Int), (∀ x, (fun x => 0 ≤ x ∧ x * Nm.val bs ≤ Nm.val ps) x → x ≤ g) → Hid (∀ x, 0 ≤ x → x * Nm.val bs ≤ Nm.val ps → x ≤ g) := fun g hg x x0 hx => hg x ⟨x0, hx⟩
  have FIN := hid fin
  clear fin
  go_enter Tryd.func58, Tryd.ntmps58
  go_wp2_with fail
  refine HLE.out.mono ?_
  rintro e w' ⟨rfl, rfl⟩
  clear HLE hy
  go_wp2_with fail
  refine (shifted_any _ n cap' bs (k + 1) t _ _ f _ HLB.out hc' hm' HBO.out.2 hLB.out (by have := HN.out; omega) ht63 (by have := HT1.out; omega) rfl HF.out).mono ?_
  rintro e w1 ⟨rfl, hb1⟩
  have HB1 := hid hb1
  have HBO1 := hid (HBO.out.below hb1)
  clear hb1
  go_wp2_with fail
  refine (shifted_any _ n cap' bs k t _ _ s _ HLB.out hc' hm' HBO1.out.2 hLB.out (by have := HN.out; omega) ht63 (by have := HT1.out; omega) rfl HS.out).mono ?_
  rintro e w2 ⟨rfl, hb2⟩
  have HB2 := hid (chain HB1.out hb2 (Nat.le_refl _))
  have HBO2 := hid (HBO1.out.below hb2)
  clear hb2
  go_wp2_with fail
  refine (shifted_any _ n1 cap ps (k + 2) t _ _ h _ HLP.out hc hm HBO2.out.1 hLP.out (by have := HN1.out; omega) ht63 (by have := HT1.out; omega) rfl HH.out).mono ?_
  rintro e w3 ⟨rfl, hb3⟩
  have HB3 := hid (chain HB2.out hb3 (Nat.le_refl _))
  have HBO3 := hid (HBO2.out.below hb3)
  clear hb3
  go_wp2_with fail
  refine (shifted_any _ n1 cap ps (k + 1) t _ _ m _ HLP.out hc hm HBO3.out.1 hLP.out (by have := HN1.out; omega) ht63 (by have := HT1.out; omega) rfl HM.out).mono ?_
  rintro e w4 ⟨rfl, hb4⟩
  have HB4 := hid (chain HB3.out hb4 (Nat.le_refl _))
  have HBO4 := hid (HBO3.out.below hb4)
  clear hb4
  go_wp2_with fail
  refine (shifted_any _ n1 cap ps k t _ _ lo _ HLP.out hc hm HBO4.out.1 hLP.out (by have := HN1.out; omega) ht63 (by have := HT1.out; omega) rfl HL.out).mono ?_
  rintro e w5 ⟨rfl, hb5⟩
  have HB5 := hid (chain HB4.out hb5 (Nat.le_refl _))
  clear hb5 HB1 HB2 HB3 HB4 HBO HBO1 HBO2 HBO3 HBO4
  by_cases hhe : h = f
  · have hhe' : (h == f) = true := by simp [hhe]
    obtain ⟨s1', S1⟩ : ∃ s, Hid (s = (m + f + 0) % 18446744073709551616) := ⟨_, rfl⟩
    obtain ⟨k1, K1⟩ : ∃ c, Hid (c = (m + f + 0) / 18446744073709551616) := ⟨_, rfl⟩
    by_cases hov : m + f < 18446744073709551616
    · have ek : k1 = 0 := by have := K1.out; omega
      have es : s1' = m + f := by have := S1.out; omega
      subst ek
      subst es
      have OV := hid (Qd.over_even HQ.out hhe (by omega) hov)
      go_wp2_with (simp only [add64' m f 0 _ _ m0 f0 (Int.le_refl 0) (by decide) S1.out K1.out])
      refine (lessened_any _ f s h m lo _ _ _ HQ.out f0 f1 s0 s1 lo0 lo1 OV.out).mono ?_
      rintro e w6 ⟨g, rfl, G, GQ, rfl⟩
      have HG := hid G
      clear G
      go_wp2_with fail
      go_ret
      exact ⟨g, rfl, HG.out, FIN.out g GQ.out, HB5.out⟩
    · have ek : k1 = 1 := by have := K1.out; omega
      subst ek
      have OV := hid (Qd.over_most HQ.out)
      go_wp2_with (simp only [add64' m f 0 _ _ m0 f0 (Int.le_refl 0) (by decide) S1.out K1.out])
      go_ret
      exact ⟨_, rfl, by omega, FIN.out _ OV.out, HB5.out⟩
  · have hhe' : (h == f) = false := by rw [beq_eq_false_iff_ne]; exact hhe
    have hlt : h < f := by omega
    go_wp2_with fail
    refine (div64 h m f _ h0 hlt m0 m1 f1).mono ?_
    rintro e w6 ⟨d, r, rfl, ⟨d0, d1, r0, r1⟩, E, hb6⟩
    have HB6 := hid (chain HB5.out hb6 (Nat.le_refl _))
    have OV := hid (Qd.over_first HQ.out s0 lo1 ⟨d0, d1⟩ r0 r1 f1 E.out)
    clear hb6 E
    go_wp2_with fail
    refine (lessened_any _ f s h m lo _ _ _ HQ.out f0 f1 s0 s1 lo0 lo1 OV.out).mono ?_
    rintro e w7 ⟨g, rfl, G, GQ, rfl⟩
    have HG := hid G
    clear G
    go_wp2_with fail
    go_ret
    exact ⟨g, rfl, HG.out, FIN.out g GQ.out, HB6.out⟩
end Go.Proofs.YtmihjiiagpkciaaDoor
