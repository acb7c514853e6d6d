/-
  Texts put together: YRef8, NearEx, YEx, XSpecD, XAddL, XAddT, IWalk1A, XSub, XAdd, XMul, OpenList, OpenThrees, YReck.
-/
import Derived.Test.YtnldfeojookaeaaDoorRH
import Derived.Test.YtnldfeojookaeaaDoorINum
import Derived.Test.YtnldfeojookaeaaDoorRF
import Derived.Test.YtnldfeojookaeaaDoorRD
import Derived.Test.YtnldfeojookaeaaDoorXPlus
import Derived.Test.YtnldfeojookaeaaDoorRA
import Derived.Test.YtnldfeojookaeaaDoorIWalk1C
import Derived.Test.YtnldfeojookaeaaDoorMem
import Derived.SizedLaws
import Derived.ProofKit
import Derived.Deep.RegionWith
import Derived.Deep.RegionHeld3
import Derived.Deep.CutRange
import Derived.Deep.CutBlock
namespace Go.Proofs.YtnldfeojookaeaaDoor
open Go Go.RowKit Go.Deep

namespace Ie
/-- What a sum answers, whoever makes it: one double. -/
def AddR (a b r : Int) : Prop :=
  if isn a = true ∨ isn b = true then r = 9221120237041090560
  else if isi a = true ∧ isi b = true ∧ a ≠ b then r = 9221120237041090560
  else if isi a = true then r = a
  else if isi b = true then r = b
  else RS (uv a + uv b) 1 (ngd a && ngd b) r

theorem yadd_rs {a b : Int} {neg : Bool} {V m x : Int} (fa : fin a) (fb : fin b) (hS : SumIs (ngd a) (dm a) (de a) (ngd b) (dm b) (de b) neg V m) (hR : Rnd V 1 m false x) : RS (uv a + uv b) 1 (ngd a && ngd b) (sg neg x) := by
  obtain ⟨_, ⟨ea0, ea1⟩, ga, _⟩ := dec_f a fa
  obtain ⟨_, ⟨eb0, eb1⟩, gb, _⟩ := dec_f b fb
  obtain ⟨c, hc, key, h0⟩ := hS.at 1074 (by omega) (by omega) ga gb
  exact rs_of hR hS.2.2.1.1 c 0 (by omega) key.symm rfl h0

theorem AddIs.r {a b r f : Int} (h : AddIs a b r f) : AddR a b r := by
  have h0 := h
  unfold AddR
  unfold AddIs at h
  split
  · rename_i g; rw [if_pos g] at h; exact h.1
  rename_i g1; rw [if_neg g1] at h
  split
  · rename_i g; rw [if_pos g] at h; exact h.1
  rename_i g2; rw [if_neg g2] at h
  split
  · rename_i g; rw [if_pos g] at h; exact h.1
  rename_i g3; rw [if_neg g3] at h
  split
  · rename_i g; rw [if_pos g] at h; exact h.1
  rename_i g4
  have fa : fin a := fin_of (by cases c : isn a; rfl; exact absurd (.inl c) g1) (by cases c : isi a; rfl; exact absurd c g3)
  have fb : fin b := fin_of (by cases c : isn b; rfl; exact absurd (.inr c) g1) (by cases c : isi b; rfl; exact absurd c g4)
  exact h0.rs fa fb

theorem AddR.one {a b r r' : Int} (h : AddR a b r) (k : AddR a b r') : r = r' := by
  unfold AddR at h k
  split at h
  · rename_i g; rw [if_pos g] at k; rw [h, k]
  rename_i g1; rw [if_neg g1] at k
  split at h
  · rename_i g; rw [if_pos g] at k; rw [h, k]
  rename_i g2; rw [if_neg g2] at k
  split at h
  · rename_i g; rw [if_pos g] at k; rw [h, k]
  rename_i g3; rw [if_neg g3] at k
  split at h
  · rename_i g; rw [if_pos g] at k; rw [h, k]
  rename_i g4; rw [if_neg g4] at k
  exact h.one (by omega) (by omega) k rfl

theorem inf_same {a b : Int} (a0 : 0 ≤ a) (a1 : a < 18446744073709551616) (b0 : 0 ≤ b) (b1 : b < 18446744073709551616) (ha : isi a = true) (hb : isi b = true) : ngd a = ngd b ↔ a = b := by
  have ha1 : a % 9223372036854775808 = 9218868437227405312 := of_decide_eq_true ha
  have hb1 : b % 9223372036854775808 = 9218868437227405312 := of_decide_eq_true hb
  simp only [ngd, decide_eq_decide]
  constructor
  · intro h
    by_cases c : 9223372036854775808 ≤ a
    · have := h.1 c; omega
    · have : ¬ 9223372036854775808 ≤ b := fun d => c (h.2 d)
      omega
  · rintro rfl; exact Iff.rfl
end Ie

def AddTold5 (a b : Int) (w : World) (r : Ending) (w' : World) : Prop := ∃ x, r = .returned (.int .u64 x) ∧ Ie.AddR a b x ∧ Below w.heap.size w w'

set_option maxRecDepth 100000 in
set_option maxHeartbeats 4000000 in
theorem yadd_any (a b : Int) (w : World) (a0 : 0 ≤ a) (a1 : a < 18446744073709551616) (b0 : 0 ≤ b) (b1 : b < 18446744073709551616) :
    Calls Tryd.prog 8 #[.int .u64 a, .int .u64 b] w fun e w' => AddTold5 a b w e w' := by
  have GA := hid (fun wx => yngd_any a wx)
  have GB := hid (fun wx => yngd_any b wx)
  have AN := hid (fun wx => yanynan_any a b wx a0 a1 b0 b1)
  have IA := hid (fun wx => yinf_any a wx a0 a1)
  have IB := hid (fun wx => yinf_any b wx b0 b1)
  have FF : Hid (∀ x w', Ie.AddR a b x → Below w.heap.size w w' → AddTold5 a b w (.returned (.int .u64 x)) w') := fun x w' h k => ⟨x, rfl, h, k⟩
  have BR := hid (Below.refl w.heap.size w)
  have SM := hid (Ie.inf_same a0 a1 b0 b1)
  have RA : Hid (Ie.isn a = false → Ie.isi a = false → Ie.isn b = false → Ie.isi b = false → (∀ wx, Calls Tryd.prog 21 #[.int .u64 a] wx (fun r w' => NumTold5 (Ie.ngd a) (Ie.dm a) 1 (Ie.de a) wx r w')) ∧ (∀ wx, Calls Tryd.prog 21 #[.int .u64 b] wx (fun r w' => NumTold5 (Ie.ngd b) (Ie.dm b) 1 (Ie.de b) wx r w')) ∧ Ie.fin a ∧ Ie.fin b ∧ (Ie.dm a < 9007199254740992 ∧ Ie.dm b < 9007199254740992) ∧ (-1100 ≤ Ie.de a ∧ Ie.de a ≤ 1000) ∧ -1100 ≤ Ie.de b ∧ Ie.de b ≤ 1000) := fun h1 h2 h3 h4 => by
    have fa := Ie.fin_of h1 h2
    have fb := Ie.fin_of h3 h4
    obtain ⟨⟨da0, da1⟩, ⟨ea0, ea1⟩, _, _⟩ := Ie.dec_f a fa
    obtain ⟨⟨db0, db1⟩, ⟨eb0, eb1⟩, _, _⟩ := Ie.dec_f b fb
    exact ⟨fun wx => yof2 a _ _ _ wx a0 a1 rfl rfl rfl da0 da1, fun wx => yof2 b _ _ _ wx b0 b1 rfl rfl rfl db0 db1, fa, fb, ⟨da1, db1⟩, ⟨by omega, by omega⟩, by omega, by omega⟩
  have UN : Hid (∀ r, Ie.AddR a b r = (if Ie.isn a = true ∨ Ie.isn b = true then r = 9221120237041090560 else if Ie.isi a = true ∧ Ie.isi b = true ∧ a ≠ b then r = 9221120237041090560 else if Ie.isi a = true then r = a else if Ie.isi b = true then r = b else Ie.RS (Ie.uv a + Ie.uv b) 1 (Ie.ngd a && Ie.ngd b) r)) := fun r => rfl
  clear a0 a1 b0 b1
  by_cases hn : (Ie.isn a || Ie.isn b) = true
  · have hn2 : Ie.isn a = true ∨ Ie.isn b = true := by simpa using hn
    rw [hn] at AN
    have F := hid (FF.out 9221120237041090560 w (by rw [UN.out]; simp [hn2]) BR.out)
    clear FF UN RA BR SM
    go_enter Tryd.func8, Tryd.ntmps8
    go_wp2_with (first | (go_at_call 18; first | (with_reducible refine (GA.out _).mono ?_; rintro e w' ⟨rfl, rfl⟩) | (with_reducible refine (GB.out _).mono ?_; rintro e w' ⟨rfl, rfl⟩)) | (go_at_call 16; first | (with_reducible refine (AN.out _).mono ?_; rintro e w' ⟨rfl, rfl⟩)) | (go_at_call 17; first | (with_reducible refine (IA.out _).mono ?_; rintro e w' ⟨rfl, rfl⟩) | (with_reducible refine (IB.out _).mono ?_; rintro e w' ⟨rfl, rfl⟩)))
    go_ret
    exact F.out
  have h1 : Ie.isn a = false := by cases c : Ie.isn a; rfl; simp [c] at hn
  have h2 : Ie.isn b = false := by cases c : Ie.isn b; rfl; simp [c] at hn
  rw [h1, h2] at AN
  clear hn
  cases h3 : Ie.isi a
  · rw [h3] at IA
    cases h4 : Ie.isi b
    · rw [h4] at IB
      obtain ⟨OA, OB, fa, fb, ⟨ma, mb⟩, ⟨ea0, ea1⟩, eb0, eb1⟩ := RA.out h1 h3 h2 h4
      have HA := hid OA
      have HB := hid OB
      have KK : Hid (∀ neg V m x w', Ie.SumIs (Ie.ngd a) (Ie.dm a) (Ie.de a) (Ie.ngd b) (Ie.dm b) (Ie.de b) neg V m → Ie.Rnd V 1 m false x → Below w.heap.size w w' → AddTold5 a b w (.returned (.int .u64 (Ie.sg neg x))) w') := fun neg V m x w' hS hR k => FF.out _ w' (by rw [UN.out]; simp only [h1, h2, h3, h4, Bool.false_eq_true, or_self, false_and, if_false]; exact Ie.yadd_rs fa fb hS hR) k
      clear OA OB fa fb FF UN RA BR SM
      go_enter Tryd.func8, Tryd.ntmps8
      go_wp2_with (first | (go_at_call 18; first | (with_reducible refine (GA.out _).mono ?_; rintro e w' ⟨rfl, rfl⟩) | (with_reducible refine (GB.out _).mono ?_; rintro e w' ⟨rfl, rfl⟩)) | (go_at_call 16; first | (with_reducible refine (AN.out _).mono ?_; rintro e w' ⟨rfl, rfl⟩)) | (go_at_call 17; first | (with_reducible refine (IA.out _).mono ?_; rintro e w' ⟨rfl, rfl⟩) | (with_reducible refine (IB.out _).mono ?_; rintro e w' ⟨rfl, rfl⟩)))
      with_reducible refine (HA.out _).mono ?_
      rintro r w1 ⟨v1, rfl, N1, hB1⟩
      go_wp2_with fail
      with_reducible refine (HB.out _).mono ?_
      rintro r w2 ⟨v2, rfl, N2, hB2⟩
      have PR := hid (ysum_any (N1.on hB2) (N2.lower hB1.size) (Nat.le_trans hB1.size hB2.size) ma mb ea0 ea1 eb0 eb1)
      have B2 := hid (bel hB1 hB2)
      clear N1 N2 hB1 hB2 HA HB
      go_wp2_with fail
      with_reducible refine PR.out.mono ?_
      rintro r w3 ⟨v3, neg, V, m, rfl, N3, hS, hB3⟩
      have YR := hid (yrounded_any N3 (by omega))
      have B3 := hid (bel B2.out hB3)
      have HS := hid hS
      clear N3 hB3 PR B2 hS
      go_wp2_with fail
      with_reducible refine YR.out.mono ?_
      rintro r w4 ⟨x, rfl, R, hB4⟩
      have F := hid (KK.out neg V m x w4 HS.out R (bel B3.out hB4))
      clear R hB4 YR KK B3 HS
      go_wp2_with fail
      go_ret
      exact F.out
    · rw [h4] at IB
      have F := hid (FF.out b w (by rw [UN.out]; simp [h1, h2, h3, h4]) BR.out)
      clear FF UN RA BR SM
      go_enter Tryd.func8, Tryd.ntmps8
      go_wp2_with (first | (go_at_call 18; first | (with_reducible refine (GA.out _).mono ?_; rintro e w' ⟨rfl, rfl⟩) | (with_reducible refine (GB.out _).mono ?_; rintro e w' ⟨rfl, rfl⟩)) | (go_at_call 16; first | (with_reducible refine (AN.out _).mono ?_; rintro e w' ⟨rfl, rfl⟩)) | (go_at_call 17; first | (with_reducible refine (IA.out _).mono ?_; rintro e w' ⟨rfl, rfl⟩) | (with_reducible refine (IB.out _).mono ?_; rintro e w' ⟨rfl, rfl⟩)))
      go_ret
      exact F.out
  · rw [h3] at IA
    cases h4 : Ie.isi b
    · rw [h4] at IB
      have F := hid (FF.out a w (by rw [UN.out]; simp [h1, h2, h3, h4]) BR.out)
      clear FF UN RA BR SM
      go_enter Tryd.func8, Tryd.ntmps8
      go_wp2_with (first | (go_at_call 18; first | (with_reducible refine (GA.out _).mono ?_; rintro e w' ⟨rfl, rfl⟩) | (with_reducible refine (GB.out _).mono ?_; rintro e w' ⟨rfl, rfl⟩)) | (go_at_call 16; first | (with_reducible refine (AN.out _).mono ?_; rintro e w' ⟨rfl, rfl⟩)) | (go_at_call 17; first | (with_reducible refine (IA.out _).mono ?_; rintro e w' ⟨rfl, rfl⟩) | (with_reducible refine (IB.out _).mono ?_; rintro e w' ⟨rfl, rfl⟩)))
      go_ret
      exact F.out
    · rw [h4] at IB
      by_cases hs : a = b
      · have F := hid (FF.out a w (by rw [UN.out, if_neg (by simp [h1, h2]), if_neg (fun c => c.2.2 hs), if_pos h3]) BR.out)
        have hg : (Ie.ngd a == Ie.ngd b) = true := by rw [beq_iff_eq]; exact (SM.out h3 h4).2 hs
        have HS := hid hs
        clear FF UN RA BR SM hs
        obtain ⟨ga, hga⟩ : ∃ g, Ie.ngd a = g := ⟨_, rfl⟩
        obtain ⟨gb, hgb⟩ : ∃ g, Ie.ngd b = g := ⟨_, rfl⟩
        rw [hga] at GA
        rw [hgb] at GB
        rw [hga, hgb] at hg
        clear hga hgb
        go_enter Tryd.func8, Tryd.ntmps8
        go_wp2_with (first | (go_at_call 18; first | (with_reducible refine (GA.out _).mono ?_; rintro e w' ⟨rfl, rfl⟩) | (with_reducible refine (GB.out _).mono ?_; rintro e w' ⟨rfl, rfl⟩)) | (go_at_call 16; first | (with_reducible refine (AN.out _).mono ?_; rintro e w' ⟨rfl, rfl⟩)) | (go_at_call 17; first | (with_reducible refine (IA.out _).mono ?_; rintro e w' ⟨rfl, rfl⟩) | (with_reducible refine (IB.out _).mono ?_; rintro e w' ⟨rfl, rfl⟩)))
        go_ret
        exact F.out
      · have F := hid (FF.out 9221120237041090560 w (by rw [UN.out]; simp [h1, h2, h3, h4, hs]) BR.out)
        have hg : (Ie.ngd a == Ie.ngd b) = false := by rw [beq_eq_false_iff_ne]; exact fun c => hs ((SM.out h3 h4).1 c)
        clear FF UN RA BR SM hs
        obtain ⟨ga, hga⟩ : ∃ g, Ie.ngd a = g := ⟨_, rfl⟩
        obtain ⟨gb, hgb⟩ : ∃ g, Ie.ngd b = g := ⟨_, rfl⟩
        rw [hga] at GA
        rw [hgb] at GB
        rw [hga, hgb] at hg
        clear hga hgb
        go_enter Tryd.func8, Tryd.ntmps8
        go_wp2_with (first | (go_at_call 18; first | (with_reducible refine (GA.out _).mono ?_; rintro e w' ⟨rfl, rfl⟩) | (with_reducible refine (GB.out _).mono ?_; rintro e w' ⟨rfl, rfl⟩)) | (go_at_call 16; first | (with_reducible refine (AN.out _).mono ?_; rintro e w' ⟨rfl, rfl⟩)) | (go_at_call 17; first | (with_reducible refine (IA.out _).mono ?_; rintro e w' ⟨rfl, rfl⟩) | (with_reducible refine (IB.out _).mono ?_; rintro e w' ⟨rfl, rfl⟩)))
        go_ret
        exact F.out

set_option maxRecDepth 100000 in
theorem ysub_any (a b : Int) (w : World) (a0 : 0 ≤ a) (a1 : a < 18446744073709551616) (b0 : 0 ≤ b) (b1 : b < 18446744073709551616) :
    Calls Tryd.prog 9 #[.int .u64 a, .int .u64 b] w fun e w' => AddTold5 a (Ie.ng b) w e w' := by
  have nb : 0 ≤ Ie.ng b ∧ Ie.ng b < 18446744073709551616 := by unfold Ie.ng; split <;> omega
  have NG := hid (yneg_any b w b0 b1)
  have AD := hid (yadd_any a (Ie.ng b) w a0 a1 nb.1 nb.2)
  clear a0 a1 b0 b1 nb
  go_enter Tryd.func9, Tryd.ntmps9
  go_wp2_with fail
  with_reducible refine NG.out.mono ?_
  rintro e w' ⟨rfl, rfl⟩
  go_wp2_with fail
  with_reducible refine AD.out.mono ?_
  rintro e w1 ⟨x, rfl, hx, hB⟩
  have F : Hid (AddTold5 a (Ie.ng b) w' (.returned (.int .u64 x)) w1) := ⟨x, rfl, hx, hB⟩
  clear hx hB AD NG
  go_wp2_with fail
  go_ret
  exact F.out
end Go.Proofs.YtnldfeojookaeaaDoor

namespace Go.Proofs.YtnldfeojookaeaaDoor

/-- There is always a nearest double. -/
theorem near_ex (P Q : Int) : ∃ x, Ie.Near P Q false x := by
  have step : ∀ k : Nat, (∃ x, Ie.Near P Q false x) ∨ ((k : Int) ≤ 9218868437227405312 → 0 < (k : Int) → Ie.md (k - 1) * Q < P ∨ (Ie.md (k - 1) * Q = P ∧ (k : Int) % 2 = 0)) := by
    intro k
    induction k with
    | zero => exact .inr (fun _ h => absurd h (by simp))
    | succ k ih =>
      rcases ih with ih | ih
      · exact .inl ih
      · rcases (show (k : Int) < 9218868437227405312 ∨ 9218868437227405312 ≤ (k : Int) by omega) with hk | hk
        · by_cases hu : P < Ie.md k * Q ∨ (P = Ie.md k * Q ∧ (k : Int) % 2 = 0)
          · left
            refine ⟨k, ⟨by omega, by omega⟩, fun h => ?_, fun _ => ?_⟩
            · rcases ih (by omega) h with g | ⟨g, g'⟩
              · exact .inl g
              · exact .inr ⟨g, .inl g'⟩
            · rcases hu with g | ⟨g, g'⟩
              · exact .inl g
              · exact .inr ⟨g, g', rfl⟩
          · right
            intro _ _
            rw [show ((k + 1 : Nat) : Int) - 1 = k by omega]
            rcases Int.lt_trichotomy (Ie.md k * Q) P with g | g | g
            · exact .inl g
            · refine .inr ⟨g, ?_⟩
              have : ¬ (k : Int) % 2 = 0 := fun c => hu (.inr ⟨g.symm, c⟩)
              omega
            · exact absurd (.inl g) hu
        · right
          intro h; omega
  rcases step 9218868437227405312 with h | h
  · exact h
  · refine ⟨9218868437227405312, ⟨by decide, by decide⟩, fun _ => ?_, fun h => absurd h (by decide)⟩
    rcases h (by decide) (by decide) with g | ⟨g, g'⟩
    · exact .inl g
    · exact .inr ⟨g, .inl g'⟩

end Go.Proofs.YtnldfeojookaeaaDoor

namespace Go.Proofs.YtnldfeojookaeaaDoor
namespace Ie

theorem rs_ex (S Q : Int) (z : Bool) : ∃ r, RS S Q z r := by
  rcases Int.lt_trichotomy S 0 with h | h | h
  · obtain ⟨x, hx⟩ := near_ex (2 * -S) Q
    exact ⟨_, true, -S, x, rfl, by simp [sn], by omega, hx, fun c => by omega⟩
  · obtain ⟨x, hx⟩ := near_ex (2 * 0) Q
    exact ⟨_, z, 0, x, rfl, by rw [sn_zero]; exact h, by omega, hx, fun _ => rfl⟩
  · obtain ⟨x, hx⟩ := near_ex (2 * S) Q
    exact ⟨_, false, S, x, rfl, by simp [sn], by omega, hx, fun c => by omega⟩

theorem addR_ex (a b : Int) : ∃ r, AddR a b r := by
  unfold AddR
  split
  · exact ⟨_, rfl⟩
  split
  · exact ⟨_, rfl⟩
  split
  · exact ⟨_, rfl⟩
  split
  · exact ⟨_, rfl⟩
  exact rs_ex _ _ _
theorem mulR_ex (a b : Int) : ∃ r, MulR a b r := by
  unfold MulR
  split
  · exact ⟨_, rfl⟩
  split
  · exact ⟨_, rfl⟩
  split
  · exact ⟨_, rfl⟩
  exact rs_ex _ _ _
theorem divR_ex (a b : Int) : ∃ r, DivR a b r := by
  unfold DivR
  split
  · exact ⟨_, rfl⟩
  split
  · exact ⟨_, rfl⟩
  split
  · exact ⟨_, rfl⟩
  split
  · exact ⟨_, rfl⟩
  split
  · exact ⟨_, rfl⟩
  exact rs_ex _ _ _
end Ie
end Go.Proofs.YtnldfeojookaeaaDoor

/-
  Closed products, quotients (of XSpec2).
-/
namespace Go.Proofs.YtnldfeojookaeaaDoor
namespace Ie

theorem un_32 : un 4613937818241073152 * un 4611686018427387904 = un 4618441417868443648 * 2 ^ 1074 := by
  rw [un_3, un_2, un_6]
  have e1 : (2 : Int) ^ 1074 = 4503599627370496 * 2 ^ 1022 := by rw [show 1074 = 52 + 1022 by rfl, Nm.two_add]; rfl
  have e2 : (2 : Int) ^ 1024 = 2 * 2 ^ 1023 := Nm.two_succ 1023
  have e3 : (2 : Int) ^ 1023 = 2 * 2 ^ 1022 := Nm.two_succ 1022
  rw [e1, e2, e3]
  generalize (2 : Int) ^ 1022 = P
  ac_rfl

theorem mul_32 {r f : Int} (h : MulIs 4613937818241073152 4611686018427387904 r f) : r = 4618441417868443648 := by
  refine (h.rs (by rw [fin]; decide) (by rw [fin]; decide)).lit (Nm.two_pos _) _ (by omega) (by omega) ?_
  rw [uv_pos (by omega) (by omega), uv_pos (by omega) (by omega), un_32]

theorem div_62 {r f : Int} (h : DivIs 4618441417868443648 4611686018427387904 r f) : r = 4613937818241073152 := by
  have h1 := h.rs (by rw [fin]; decide) (by rw [fin]; decide) (by decide)
  have e1 : ab 4611686018427387904 = 4611686018427387904 := by decide
  have e2 : ab 4618441417868443648 = 4618441417868443648 := by decide
  have e3 : (ngd 4618441417868443648 != ngd 4611686018427387904) = false := by decide
  rw [e1, e2, e3] at h1
  refine h1.lit (un_pos (by omega)) _ (by omega) (by omega) ?_
  rw [sn_false, un_32]
end Ie
end Go.Proofs.YtnldfeojookaeaaDoor

/-
  soft: add, sub, Add, Sub.
-/
namespace Go.Proofs.YtnldfeojookaeaaDoor
open Go Go.RowKit Go.Deep

set_option maxRecDepth 100000 in
set_option maxHeartbeats 4000000 in
theorem add_fin (a b : Int) (w : World) (a0 : 0 ≤ a) (a1 : a < 18446744073709551616) (b0 : 0 ≤ b) (b1 : b < 18446744073709551616) (hT : Tab w) (na : Ie.isn a = false) (ia : Ie.isi a = false) (nb : Ie.isn b = false) (ib : Ie.isi b = false) :
    Calls Tryd.prog 12 #[.int .u64 a, .int .u64 b] w fun e w' => Told2 (Ie.AddIs a b) w e w' := by
  have fa := Ie.fin_of na ia
  have fb := Ie.fin_of nb ib
  have FI : Hid (∀ (neg : Bool) (V e r f : Int), Ie.SumIs (Ie.ngd a) (Ie.dm a) (Ie.de a) (Ie.ngd b) (Ie.dm b) (Ie.de b) neg V e → Ie.Res neg V e false r f → Ie.AddIs a b r f) := by
    intro neg V e r f h1 h2
    rw [Ie.AddIs, na, nb, ia, ib]
    simp only [Bool.false_eq_true, or_self, false_and, if_false]
    exact ⟨neg, V, e, h1, h2⟩
  have NA := hid (fun (wx : World) => nan_any a wx a0 a1)
  rw [na] at NA
  have NB := hid (fun (wx : World) => nan_any b wx b0 b1)
  rw [nb] at NB
  have IA := hid (fun (wx : World) => infinite_any a wx a0 a1)
  rw [ia] at IA
  have IB := hid (fun (wx : World) => infinite_any b wx b0 b1)
  rw [ib] at IB
  obtain ⟨⟨da0, da1⟩, ⟨ea0, ea1⟩, -, -⟩ := Ie.dec_f a fa
  obtain ⟨⟨db0, db1⟩, ⟨eb0, eb1⟩, -, -⟩ := Ie.dec_f b fb
  have e60 : (2 : Int) ^ 60 = 1152921504606846976 := by decide
  have da2 : Ie.dm a < 2 ^ 60 := by omega
  have db2 : Ie.dm b < 2 ^ 60 := by omega
  have UA := hid (fun (wx : World) => number_any a wx a0 a1 fa)
  have UB := hid (fun (wx : World) => number_any b wx b0 b1 fb)
  have e200 := Nm.two_mono (show 60 ≤ 200 by omega)
  have HT := hid hT
  clear fa fb na nb ia ib hT
  have RU : Hid (∀ (w2 : World) (pa pb : Option Addr) (oa ob : List Int) (B B' : Nat), Below w.heap.size w w2 → Ans B w2 pa oa (Ie.dm a) → Ans B' w2 pb ob (Ie.dm b) → Calls Tryd.prog 30 #[exactOf (Ie.ngd a) pa oa.length oa.length (Ie.de a) false, exactOf (Ie.ngd b) pb ob.length ob.length (Ie.de b) false] w2 fun e w' => PlusTold (Ie.ngd a) (Ie.dm a) (Ie.de a) (Ie.ngd b) (Ie.dm b) (Ie.de b) w2 e w') := by
    intro w2 pa pb oa ob B B' hB A1 A2
    exact xplus_any _ _ _ _ _ _ _ _ _ _ oa ob _ _ _ _ w2 (A1.arg (by have := A1.tl da2 (show 60 ≤ 262144 by omega); omega)) (A2.arg (by have := A2.tl db2 (show 60 ≤ 262144 by omega); omega)) A1.2.2.2.1 A2.2.2.2.1 (by omega) (by omega) (by omega) (by omega) (by omega) (by omega)
  have RO : Hid (∀ (w3 : World) (neg : Bool) (p : Option Addr) (os : List Int) (V e : Int) (B : Nat), Below w.heap.size w w3 → Ans B w3 p os V → Ie.SumIs (Ie.ngd a) (Ie.dm a) (Ie.de a) (Ie.ngd b) (Ie.dm b) (Ie.de b) neg V e → Calls Tryd.prog 31 #[exactOf neg p os.length os.length e false] w3 fun r w' => RoundedTold neg V e false w3 r w') := by
    intro w3 neg p os V e B hB A hS
    have vb := hS.2.2.1.2
    have eb : -10000 ≤ e ∧ e ≤ 10000 := by rcases hS.1 with h | ⟨_, h⟩ <;> omega
    exact rounded_any neg false p _ _ os e V w3 (A.arg (by have := A.tl vb (show 5000 ≤ 262144 by omega); omega)) (HT.out.below hB) A.2.2.2.1 A.len0 vb eb.1 eb.2
  clear da0 da1 ea0 ea1 db0 db1 eb0 eb1 e60 da2 db2 e200 HT
  go_enter Tryd.func12, Tryd.ntmps12
  go_wp2_with fail
  refine (NA.out _).mono ?_
  rintro e wz ⟨rfl, hz⟩
  replace hz := hz.symm
  subst hz
  go_wp2_with fail
  refine (NB.out _).mono ?_
  rintro e wz ⟨rfl, hz⟩
  replace hz := hz.symm
  subst hz
  go_wp2_with fail
  refine (IA.out _).mono ?_
  rintro e wz ⟨rfl, hz⟩
  replace hz := hz.symm
  subst hz
  go_wp2_with fail
  refine (IA.out _).mono ?_
  rintro e wz ⟨rfl, hz⟩
  replace hz := hz.symm
  subst hz
  go_wp2_with fail
  refine (IB.out _).mono ?_
  rintro e wz ⟨rfl, hz⟩
  replace hz := hz.symm
  subst hz
  go_wp2_with fail
  refine (UA.out _).mono ?_
  rintro e w1 ⟨pa, oa, rfl, A1, hB1⟩
  have H1 := hid (And.intro A1 hB1)
  clear A1 hB1
  simp only [exactOf]
  go_wp2_with fail
  refine (UB.out _).mono ?_
  rintro e w2 ⟨pb, ob, rfl, A2, hB2⟩
  have A1 := H1.out.1.below hB2 (Nat.le_refl _)
  have Bw := H1.out.2.trans (hB2.mono H1.out.2.size)
  have PL := hid (RU.out w2 pa pb oa ob _ _ Bw A1 A2)
  have HB := hid Bw
  simp only [exactOf] at PL ⊢
  clear A1 A2 hB2 Bw H1 RU
  go_wp2_with fail
  refine PL.out.mono ?_
  rintro e w3 ⟨neg, p, os, V, x, rfl, A3, hB3, hS⟩
  have Bw := HB.out.trans (hB3.mono HB.out.size)
  have RR := hid (RO.out w3 neg p os V x _ Bw A3 hS)
  have HS := hid hS
  have HC := hid Bw
  simp only [exactOf] at RR ⊢
  clear A3 hB3 hS Bw RO PL HB
  go_wp2_with fail
  refine RR.out.mono ?_
  rintro e w4 ⟨d, t, L, rfl, h1, h2, h3, hB4⟩
  have KK : Hid (Told2 (Ie.AddIs a b) w (.returned (.tuple #[.int .u64 (Ie.sg neg d), .int .i64 (Ie.flg V x false (Ie.sg neg d) t L)])) w4) :=
    ⟨_, _, rfl, FI.out neg V x _ _ HS.out ⟨d, t, L, rfl, rfl, h1, h2, h3⟩, HC.out.trans (hB4.mono HC.out.size)⟩
  clear h1 h2 h3 hB4 HS HC RR FI
  go_wp2_with fail
  go_ret2
  exact KK.out

set_option maxRecDepth 100000 in
set_option maxHeartbeats 4000000 in
theorem add_any (a b : Int) (w : World) (a0 : 0 ≤ a) (a1 : a < 18446744073709551616) (b0 : 0 ≤ b) (b1 : b < 18446744073709551616) (hT : Tab w) :
    Calls Tryd.prog 12 #[.int .u64 a, .int .u64 b] w fun e w' => Told2 (Ie.AddIs a b) w e w' := by
  have NA := hid (fun (wx : World) => nan_any a wx a0 a1)
  have NB := hid (fun (wx : World) => nan_any b wx b0 b1)
  have IA := hid (fun (wx : World) => infinite_any a wx a0 a1)
  have IB := hid (fun (wx : World) => infinite_any b wx b0 b1)
  have KK : Hid (∀ (e : Ending) (r f : Int), e = .returned (.tuple #[.int .u64 r, .int .i64 f]) → Ie.AddIs a b r f → Told2 (Ie.AddIs a b) w e w) := fun e r f h1 h2 => ⟨r, f, h1, h2, Below.refl _ _⟩
  cases na : Ie.isn a
  · cases nb : Ie.isn b
    · cases ia : Ie.isi a
      · cases ib : Ie.isi b
        · exact add_fin a b w a0 a1 b0 b1 hT na ia nb ib
        · have SP : Hid (Ie.AddIs a b b 0) := by rw [Hid, Ie.AddIs, na, nb, ia, ib]; simp
          rw [na] at NA
          rw [nb] at NB
          rw [ia] at IA
          rw [ib] at IB
          clear na nb ia ib hT
          go_enter Tryd.func12, Tryd.ntmps12
          go_wp2_with fail
          refine (NA.out _).mono ?_
          rintro e wz ⟨rfl, rfl⟩
          go_wp2_with fail
          refine (NB.out _).mono ?_
          rintro e wz ⟨rfl, rfl⟩
          go_wp2_with fail
          refine (IA.out _).mono ?_
          rintro e wz ⟨rfl, rfl⟩
          go_wp2_with fail
          refine (IA.out _).mono ?_
          rintro e wz ⟨rfl, rfl⟩
          go_wp2_with fail
          refine (IB.out _).mono ?_
          rintro e wz ⟨rfl, rfl⟩
          go_wp2_with fail
          go_ret2
          exact KK.out _ _ _ rfl SP.out
      · cases ib : Ie.isi b
        · have SP : Hid (Ie.AddIs a b a 0) := by rw [Hid, Ie.AddIs, na, nb, ia, ib]; simp
          rw [na] at NA
          rw [nb] at NB
          rw [ia] at IA
          rw [ib] at IB
          clear na nb ia ib hT
          go_enter Tryd.func12, Tryd.ntmps12
          go_wp2_with fail
          refine (NA.out _).mono ?_
          rintro e wz ⟨rfl, rfl⟩
          go_wp2_with fail
          refine (NB.out _).mono ?_
          rintro e wz ⟨rfl, rfl⟩
          go_wp2_with fail
          refine (IA.out _).mono ?_
          rintro e wz ⟨rfl, rfl⟩
          go_wp2_with fail
          refine (IB.out _).mono ?_
          rintro e wz ⟨rfl, rfl⟩
          go_wp2_with fail
          refine (IA.out _).mono ?_
          rintro e wz ⟨rfl, rfl⟩
          go_wp2_with fail
          go_ret2
          exact KK.out _ _ _ rfl SP.out
        · rw [na] at NA
          rw [nb] at NB
          rw [ia] at IA
          rw [ib] at IB
          by_cases hab : a = b
          · have SP : Hid (Ie.AddIs a b a 0) := by rw [Hid, Ie.AddIs, na, nb, ia, ib]; simp [hab]
            subst hab
            clear na nb ia ib hT
            go_enter Tryd.func12, Tryd.ntmps12
            go_wp2_with fail
            refine (NA.out _).mono ?_
            rintro e wz ⟨rfl, rfl⟩
            go_wp2_with fail
            refine (NB.out _).mono ?_
            rintro e wz ⟨rfl, rfl⟩
            go_wp2_with fail
            refine (IA.out _).mono ?_
            rintro e wz ⟨rfl, rfl⟩
            go_wp2_with fail
            refine (IB.out _).mono ?_
            rintro e wz ⟨rfl, rfl⟩
            go_wp2_with fail
            refine (IA.out _).mono ?_
            rintro e wz ⟨rfl, rfl⟩
            go_wp2_with fail
            go_ret2
            exact KK.out _ _ _ rfl SP.out
          · have SP : Hid (Ie.AddIs a b 9221120237041090560 1) := by rw [Hid, Ie.AddIs, na, nb, ia, ib]; simp [hab]
            have hab' : (a == b) = false := by rw [beq_eq_false_iff_ne]; exact hab
            clear na nb ia ib hT
            go_enter Tryd.func12, Tryd.ntmps12
            go_wp2_with fail
            refine (NA.out _).mono ?_
            rintro e wz ⟨rfl, rfl⟩
            go_wp2_with fail
            refine (NB.out _).mono ?_
            rintro e wz ⟨rfl, rfl⟩
            go_wp2_with fail
            refine (IA.out _).mono ?_
            rintro e wz ⟨rfl, rfl⟩
            go_wp2_with fail
            refine (IB.out _).mono ?_
            rintro e wz ⟨rfl, rfl⟩
            go_wp2_with fail
            go_ret2
            exact KK.out _ _ _ rfl SP.out
    · have SP : Hid (Ie.AddIs a b 9221120237041090560 0) := by rw [Hid, Ie.AddIs, na, nb]; simp
      rw [na] at NA
      rw [nb] at NB
      clear na nb hT
      go_enter Tryd.func12, Tryd.ntmps12
      go_wp2_with fail
      refine (NA.out _).mono ?_
      rintro e wz ⟨rfl, rfl⟩
      go_wp2_with fail
      refine (NB.out _).mono ?_
      rintro e wz ⟨rfl, rfl⟩
      go_wp2_with fail
      go_ret2
      exact KK.out _ _ _ rfl SP.out
  · have SP : Hid (Ie.AddIs a b 9221120237041090560 0) := by rw [Hid, Ie.AddIs, na]; simp
    rw [na] at NA
    clear na hT
    go_enter Tryd.func12, Tryd.ntmps12
    go_wp2_with fail
    refine (NA.out _).mono ?_
    rintro e wz ⟨rfl, rfl⟩
    go_wp2_with fail
    go_ret2
    exact KK.out _ _ _ rfl SP.out

end Go.Proofs.YtnldfeojookaeaaDoor

/-
  soft: Add.
-/
namespace Go.Proofs.YtnldfeojookaeaaDoor
open Go Go.RowKit Go.Deep

set_option maxRecDepth 100000 in
set_option maxHeartbeats 4000000 in
theorem softAdd_any (a b : Int) (w : World) (a0 : 0 ≤ a) (a1 : a < 18446744073709551616) (b0 : 0 ≤ b) (b1 : b < 18446744073709551616) (hT : Tab w) :
    Calls Tryd.prog 4 #[.int .u64 a, .int .u64 b] w fun e w' => Told1 (Ie.AddIs a b) w e w' := by
  have AD := hid (add_any a b w a0 a1 b0 b1 hT)
  clear hT
  go_enter Tryd.func4, Tryd.ntmps4
  go_wp2_with fail
  refine AD.out.mono ?_
  rintro e w1 ⟨r, f, rfl, h, hB⟩
  have KK : Hid (Told1 (Ie.AddIs a b) w (.returned (.int .u64 r)) w1) := ⟨r, f, rfl, h, hB⟩
  clear h hB AD
  go_wp2_with fail
  go_ret
  exact KK.out
end Go.Proofs.YtnldfeojookaeaaDoor

/-
  ieee: Neg.
-/
namespace Go.Proofs.YtnldfeojookaeaaDoor
open Go Go.RowKit Go.Deep

set_option maxRecDepth 100000 in
theorem neg_any (d : Int) (w : World) (h0 : 0 ≤ d) (h1 : d < 18446744073709551616) :
    Calls Tryd.prog 32 #[.int .u64 d] w fun e w' => e = .returned (.int .u64 (Ie.ng d)) ∧ w' = w := by
  have B : bits .xor .u64 d 9223372036854775808 = Ie.ng d := Ib.sign_xor d h0 h1
  go_enter Tryd.func32, Tryd.ntmps32
  go_wp2
  go_ret
  exact ⟨rfl, rfl⟩
end Go.Proofs.YtnldfeojookaeaaDoor

/-
  soft: sub, Add, Sub.
-/
namespace Go.Proofs.YtnldfeojookaeaaDoor
open Go Go.RowKit Go.Deep

set_option maxRecDepth 100000 in
set_option maxHeartbeats 4000000 in
theorem sub_any (a b : Int) (w : World) (a0 : 0 ≤ a) (a1 : a < 18446744073709551616) (b0 : 0 ≤ b) (b1 : b < 18446744073709551616) (hT : Tab w) :
    Calls Tryd.prog 13 #[.int .u64 a, .int .u64 b] w fun e w' => Told2 (Ie.AddIs a (Ie.ng b)) w e w' := by
  have N1 := hid (neg_any b w b0 b1)
  have nb : 0 ≤ Ie.ng b ∧ Ie.ng b < 18446744073709551616 := by simp only [Ie.ng]; split <;> omega
  have AD := hid (add_any a (Ie.ng b) w a0 a1 nb.1 nb.2 hT)
  clear hT nb
  go_enter Tryd.func13, Tryd.ntmps13
  go_wp2_with fail
  refine N1.out.mono ?_
  rintro e wz ⟨rfl, rfl⟩
  go_wp2_with fail
  refine AD.out.mono ?_
  rintro e w1 ⟨r, f, rfl, h, hB⟩
  have KK : Hid (Told2 (Ie.AddIs a (Ie.ng b)) wz (.returned (.tuple #[.int .u64 r, .int .i64 f])) w1) := ⟨r, f, rfl, h, hB⟩
  clear h hB AD N1
  go_wp2_with fail
  go_ret2
  exact KK.out

set_option maxRecDepth 100000 in
set_option maxHeartbeats 4000000 in
theorem softSub_any (a b : Int) (w : World) (a0 : 0 ≤ a) (a1 : a < 18446744073709551616) (b0 : 0 ≤ b) (b1 : b < 18446744073709551616) (hT : Tab w) :
    Calls Tryd.prog 5 #[.int .u64 a, .int .u64 b] w fun e w' => Told1 (Ie.AddIs a (Ie.ng b)) w e w' := by
  have AD := hid (sub_any a b w a0 a1 b0 b1 hT)
  clear hT
  go_enter Tryd.func5, Tryd.ntmps5
  go_wp2_with fail
  refine AD.out.mono ?_
  rintro e w1 ⟨r, f, rfl, h, hB⟩
  have KK : Hid (Told1 (Ie.AddIs a (Ie.ng b)) w (.returned (.int .u64 r)) w1) := ⟨r, f, rfl, h, hB⟩
  clear h hB AD
  go_wp2_with fail
  go_ret
  exact KK.out

end Go.Proofs.YtnldfeojookaeaaDoor



/-
  soft: Mul.
-/
namespace Go.Proofs.YtnldfeojookaeaaDoor
open Go Go.RowKit Go.Deep

set_option maxRecDepth 100000 in
set_option maxHeartbeats 4000000 in
theorem softMul_any (a b : Int) (w : World) (a0 : 0 ≤ a) (a1 : a < 18446744073709551616) (b0 : 0 ≤ b) (b1 : b < 18446744073709551616) (hT : Tab w) :
    Calls Tryd.prog 6 #[.int .u64 a, .int .u64 b] w fun e w' => Told1 (Ie.MulIs a b) w e w' := by
  have AD := hid (mul_any a b w a0 a1 b0 b1 hT)
  clear hT
  go_enter Tryd.func6, Tryd.ntmps6
  go_wp2_with fail
  refine AD.out.mono ?_
  rintro e w1 ⟨r, f, rfl, h, hB⟩
  have KK : Hid (Told1 (Ie.MulIs a b) w (.returned (.int .u64 r)) w1) := ⟨r, f, rfl, h, hB⟩
  clear h hB AD
  go_wp2_with fail
  go_ret
  exact KK.out

end Go.Proofs.YtnldfeojookaeaaDoor

namespace Go.Proofs.YtnldfeojookaeaaDoor
open Go.RowKit Go.Deep Go.ChangeShapes Go.WideShapes Go.ChangeAt

/-- A list of limbs that was read, wherever it stands. -/
theorem open_list {H : Type} {enc : TypeId × Value → H} {W : World} {fuel : Nat} {c : Value} {y : DataW H × List MemPlace} (hf : DataW.trod enc Tryd.prog W 0 (fun _ => true) true fuel 33 [c] = some y)
    (hsz : ∀ n ∈ y.1.weights Tryd.prog 33, n ≤ reachBytes) : ∃ p n cap zs, c = .slice p n cap ∧ Arg W p n cap zs ∧ cap ≤ 17592186043904 := by
  rcases open_ints Tryd.underlying33 Tryd.underlying23 (by kernel_rfl) hf with ⟨hcs, _⟩ | ⟨x, l, cp, zs, hcs, _, hl, hm, hz, hx, hcell, hwz⟩
  · simp only [List.cons.injEq, and_true] at hcs
    exact ⟨none, 0, 0, [], hcs, ⟨rfl, Nat.le_refl _, by omega, Lies.nil _ _, Nm.Limbs.nil⟩, by omega⟩
  · simp only [List.cons.injEq, and_true] at hcs
    have hz' : zs.length = cp := by simpa using hz
    have hr := hsz (((lits (H := H) .u64 (zs.take l)).length + (lits (H := H) .u64 (zs.drop l)).length) * Tryd.prog.bytesOf 23) (by rw [hx]; simp [DataW.weights, Tryd.underlying33])
    rw [show Tryd.prog.bytesOf 23 = 8 by kernel_rfl] at hr
    simp only [lits, List.length_map, List.length_take, List.length_drop, reachBytes] at hr
    have hb : cp ≤ 17592186043904 := by omega
    exact ⟨some x, l, cp, _, hcs, arg_open hl hz' hb hcell hwz, hb⟩

theorem all_mem {H : Type} {P : Program} {e : TypeId} : ∀ {l : List (DataW H)} {d : DataW H}, d ∈ l → ∀ n ∈ d.weights P e, n ∈ DataW.weightsAll P e l
  | [], _, h, _, _ => by simp at h
  | x :: r, d, h, n, hn => by
    simp only [DataW.weightsAll, List.mem_append]
    rcases List.mem_cons.1 h with rfl | h
    · exact .inl hn
    · exact .inr (all_mem h n hn)

/-- What can be told of each place can be told of a list. -/
theorem list_of_each {α : Type} {Q : Nat → α → Prop} : ∀ n, (∀ i, i < n → ∃ x, Q i x) → ∃ l : List α, l.length = n ∧ ∀ i x, l[i]? = some x → Q i x
  | 0, _ => ⟨[], rfl, by simp⟩
  | n + 1, h => by
    obtain ⟨l, h1, h2⟩ := list_of_each n (fun i hi => h i (by omega))
    obtain ⟨x, hx⟩ := h n (by omega)
    refine ⟨l ++ [x], by simp [h1], fun i y hy => ?_⟩
    by_cases hi : i < l.length
    · rw [List.getElem?_append_left hi] at hy
      exact h2 i y hy
    · have hlt := (List.getElem?_eq_some_iff.1 hy).1
      simp only [List.length_append, List.length_cons, List.length_nil] at hlt
      obtain rfl : i = n := by omega
      rw [List.getElem?_append_right (by omega), h1, Nat.sub_self] at hy
      simp at hy
      subst hy
      exact hx
end Go.Proofs.YtnldfeojookaeaaDoor

namespace Go.Proofs.YtnldfeojookaeaaDoor
open Go.RowKit Go.Deep Go.ChangeShapes Go.WideShapes Go.ChangeAt

/-- A call that was read. -/
structure O3 where
  A : Int
  B : Int
  C : Int

/-- Its three cells stand there. -/
def O3.Cells (w : World) (b o : Nat) (it : O3) : Prop :=
  w.cell? ⟨b, o, none⟩ = some (.int .u64 it.A) ∧ w.cell? ⟨b, o + 1, none⟩ = some (.int .u64 it.B) ∧ w.cell? ⟨b, o + 2, none⟩ = some (.int .u64 it.C)

def O3.Bd (it : O3) : Prop := (0 ≤ it.A ∧ it.A < 18446744073709551616) ∧ (0 ≤ it.B ∧ it.B < 18446744073709551616) ∧ (0 ≤ it.C ∧ it.C < 18446744073709551616)

def O3.Holds (w : World) (a : Option Addr) (its : List O3) : Prop := its = [] ∨ ∃ b off, a = some ⟨b, off, none⟩ ∧ ∀ i it, its[i]? = some it → O3.Cells w b (off + i * 3) it

theorem list3o {α : Type} {l : List α} (h : l.length = 3) : ∃ c0 c1 c2, l = [c0, c1, c2] := by
  match l, h with
  | [c0, c1, c2], _ => exact ⟨c0, c1, c2, rfl⟩

theorem open_three3 {H : Type} {enc : TypeId × Value → H} {W : World} {fuel : Nat} {a0 a1 a2 : Value} {y : DataW H × List MemPlace} (hf : DataW.trod enc Tryd.prog W 0 (fun _ => true) true fuel 26 [a0, a1, a2] = some y) :
    ∃ it : O3, a0 = .int .u64 it.A ∧ a1 = .int .u64 it.B ∧ a2 = .int .u64 it.C ∧ it.Bd := by
  obtain ⟨xs, n, _, hx, _, hlen, hfs⟩ := DataW.trod_struct Tryd.underlying26 hf
  obtain ⟨y0, y1, y2, rfl⟩ := list3o hlen
  have cu : Tryd.prog.cellsOf 23 = 1 := by kernel_rfl
  have f0 : DataW.trod enc Tryd.prog W 0 (fun _ => true) true n 23 [a0] = some y0 := by simpa [cu] using hfs 0 _ rfl
  have f1 : DataW.trod enc Tryd.prog W 0 (fun _ => true) true n 23 [a1] = some y1 := by simpa [cu] using hfs 1 _ rfl
  have f2 : DataW.trod enc Tryd.prog W 0 (fun _ => true) true n 23 [a2] = some y2 := by simpa [cu] using hfs 2 _ rfl
  obtain ⟨X, e0, _, w0⟩ := DataW.trod_int Tryd.underlying23 f0
  obtain ⟨Y, e1, _, w1⟩ := DataW.trod_int Tryd.underlying23 f1
  obtain ⟨Z, e2, _, w2⟩ := DataW.trod_int Tryd.underlying23 f2
  have b0 := bounds_u64 w0
  have b1 := bounds_u64 w1
  have b2 := bounds_u64 w2
  have bX : 0 ≤ X ∧ X < 18446744073709551616 := by omega
  have bY : 0 ≤ Y ∧ Y < 18446744073709551616 := by omega
  have bZ : 0 ≤ Z ∧ Z < 18446744073709551616 := by omega
  exact ⟨⟨X, Y, Z⟩, (List.cons.inj e0).1, (List.cons.inj e1).1, (List.cons.inj e2).1, bX, bY, bZ⟩

theorem open_threes {H : Type} {enc : TypeId × Value → H} {W : World} {a : Option Addr} {len cap : Nat} {d : DataW H} {p : List MemPlace} (h : DataW.Trod enc Tryd.prog W 0 (fun _ => true) true 22 (.slice a len cap) d p)
    (hsz : ∀ n ∈ d.weights Tryd.prog 22, n ≤ reachBytes) : ∃ its : List O3, its.length = len ∧ len ≤ cap ∧ cap ≤ 17592186044416 ∧ O3.Holds W a its ∧ ∀ it ∈ its, O3.Bd it := by
  obtain ⟨fuel, hf⟩ := h
  rcases DataW.trod_slice Tryd.underlying22 hf with ⟨hcs, _⟩ | ⟨x, l, c, elems, rest, n, _, hcs, hx, _, hl, hm, he, hel, hsp, _⟩
  · simp [Value.cells] at hcs
    obtain ⟨rfl, rfl, rfl⟩ := hcs
    exact ⟨[], rfl, Nat.le_refl _, by omega, .inl rfl, by intro it h; simp at h⟩
  · simp [Value.cells] at hcs
    obtain ⟨rfl, rfl, rfl⟩ := hcs
    have hd : d = .slice (elems.map (·.1)) (rest.map (·.1)) := (Prod.mk.inj hx).1
    have hw : ∀ n ∈ (DataW.slice (elems.map (·.1)) (rest.map (·.1)) : DataW H).weights Tryd.prog 22, n ≤ reachBytes := by rw [← hd]; exact hsz
    simp only [DataW.weights, Tryd.underlying22] at hw
    have hr := hw _ List.mem_cons_self
    rw [show Tryd.prog.bytesOf 26 = 24 by kernel_rfl] at hr
    have hrl := (hsp rfl).1
    simp only [List.length_map, reachBytes] at hr
    have hcap : cap ≤ 17592186044416 := by omega
    rw [show Tryd.prog.cellsOf 26 = 3 by kernel_rfl] at hel
    obtain ⟨its, i1, i2⟩ := list_of_each (Q := fun i (it : O3) => (W.cell? (x.add (i * 3)) = some (.int .u64 it.A) ∧ W.cell? ((x.add (i * 3)).add 1) = some (.int .u64 it.B) ∧ W.cell? ((x.add (i * 3)).add 2) = some (.int .u64 it.C)) ∧ it.Bd) len (fun i hi => by
      have h1 := hel i hi
      have h2 : elems[i]? = some elems[i] := List.getElem?_eq_getElem (by omega)
      rw [h2] at h1
      obtain ⟨cs, h3, h4⟩ := Option.bind_eq_some_iff.1 h1
      obtain ⟨_, h5, h6⟩ := World.cells?_some h3
      obtain ⟨v0, v1, v2, rfl⟩ := list3o h5
      have e0 := h6 0 (by omega)
      have e1 := h6 1 (by omega)
      have e2 := h6 2 (by omega)
      have h8 : (x.add (i * 3)).add 0 = x.add (i * 3) := by simp [Addr.add]
      rw [h8] at e0
      obtain ⟨it, q0, q1, q2, hA⟩ := open_three3 h4
      subst q0
      subst q1
      subst q2
      exact ⟨it, ⟨e0, e1, e2⟩, hA⟩)
    refine ⟨its, i1, hl, hcap, ?_, ?_⟩
    · rcases Nat.eq_zero_or_pos its.length with h0 | h0
      · exact .inl (List.eq_nil_of_length_eq_zero h0)
      · obtain ⟨b, off, spot⟩ := x
        have hspot : spot = none := by simpa [Addr.add] using World.cell?_spot (i2 0 _ (List.getElem?_eq_getElem h0)).1.1
        subst hspot
        refine .inr ⟨b, off, rfl, fun i it hi => ?_⟩
        obtain ⟨⟨q0, q1, q2⟩, _⟩ := i2 i it hi
        rw [Go.WideShapes.add_plain] at q0 q1 q2
        rw [Go.WideShapes.add_plain] at q1 q2
        exact ⟨q0, q1, q2⟩
    · intro it hit
      obtain ⟨i, hi⟩ := List.getElem?_of_mem hit
      exact (i2 i it hi).2
end Go.Proofs.YtnldfeojookaeaaDoor

namespace Go.Proofs.YtnldfeojookaeaaDoor
open Go Go.RowKit Go.Deep

theorem pAdd_is (a b : Int) (w : World) (X : Int) (a0 : 0 ≤ a) (a1 : a < 18446744073709551616) (b0 : 0 ≤ b) (b1 : b < 18446744073709551616) (h : Ie.AddR a b X) (hT : Tab w) :
    Calls Tryd.prog 4 #[.int .u64 a, .int .u64 b] w fun e w' => e = .returned (.int .u64 X) ∧ Below w.heap.size w w' := by
  refine (softAdd_any a b w a0 a1 b0 b1 hT).mono ?_
  rintro e w' ⟨r, f, rfl, hr, hB⟩
  rw [hr.r.one h]
  exact ⟨rfl, hB⟩
theorem rAdd_is (a b : Int) (w : World) (X : Int) (a0 : 0 ≤ a) (a1 : a < 18446744073709551616) (b0 : 0 ≤ b) (b1 : b < 18446744073709551616) (h : Ie.AddR a b X) :
    Calls Tryd.prog 8 #[.int .u64 a, .int .u64 b] w fun e w' => e = .returned (.int .u64 X) ∧ Below w.heap.size w w' := by
  refine (yadd_any a b w a0 a1 b0 b1).mono ?_
  rintro e w' ⟨r, rfl, hr, hB⟩
  rw [hr.one h]
  exact ⟨rfl, hB⟩
theorem pSub_is (a b : Int) (w : World) (X : Int) (a0 : 0 ≤ a) (a1 : a < 18446744073709551616) (b0 : 0 ≤ b) (b1 : b < 18446744073709551616) (h : Ie.AddR a (Ie.ng b) X) (hT : Tab w) :
    Calls Tryd.prog 5 #[.int .u64 a, .int .u64 b] w fun e w' => e = .returned (.int .u64 X) ∧ Below w.heap.size w w' := by
  refine (softSub_any a b w a0 a1 b0 b1 hT).mono ?_
  rintro e w' ⟨r, f, rfl, hr, hB⟩
  rw [hr.r.one h]
  exact ⟨rfl, hB⟩
theorem rSub_is (a b : Int) (w : World) (X : Int) (a0 : 0 ≤ a) (a1 : a < 18446744073709551616) (b0 : 0 ≤ b) (b1 : b < 18446744073709551616) (h : Ie.AddR a (Ie.ng b) X) :
    Calls Tryd.prog 9 #[.int .u64 a, .int .u64 b] w fun e w' => e = .returned (.int .u64 X) ∧ Below w.heap.size w w' := by
  refine (ysub_any a b w a0 a1 b0 b1).mono ?_
  rintro e w' ⟨r, rfl, hr, hB⟩
  rw [hr.one h]
  exact ⟨rfl, hB⟩
theorem pMul_is (a b : Int) (w : World) (X : Int) (a0 : 0 ≤ a) (a1 : a < 18446744073709551616) (b0 : 0 ≤ b) (b1 : b < 18446744073709551616) (h : Ie.MulR a b X) (hT : Tab w) :
    Calls Tryd.prog 6 #[.int .u64 a, .int .u64 b] w fun e w' => e = .returned (.int .u64 X) ∧ Below w.heap.size w w' := by
  refine (softMul_any a b w a0 a1 b0 b1 hT).mono ?_
  rintro e w' ⟨r, f, rfl, hr, hB⟩
  rw [hr.r.one h]
  exact ⟨rfl, hB⟩
theorem rMul_is (a b : Int) (w : World) (X : Int) (a0 : 0 ≤ a) (a1 : a < 18446744073709551616) (b0 : 0 ≤ b) (b1 : b < 18446744073709551616) (h : Ie.MulR a b X) :
    Calls Tryd.prog 10 #[.int .u64 a, .int .u64 b] w fun e w' => e = .returned (.int .u64 X) ∧ Below w.heap.size w w' := by
  refine (ymultiply_any a b w a0 a1 b0 b1).mono ?_
  rintro e w' ⟨r, rfl, hr, hB⟩
  rw [hr.one h]
  exact ⟨rfl, hB⟩
theorem pDiv_is (a b : Int) (w : World) (X : Int) (a0 : 0 ≤ a) (a1 : a < 18446744073709551616) (b0 : 0 ≤ b) (b1 : b < 18446744073709551616) (h : Ie.DivR a b X) (hT : Tab w) :
    Calls Tryd.prog 7 #[.int .u64 a, .int .u64 b] w fun e w' => e = .returned (.int .u64 X) ∧ Below w.heap.size w w' := by
  refine (softDiv_any a b w a0 a1 b0 b1 hT).mono ?_
  rintro e w' ⟨r, f, rfl, hr, hB⟩
  rw [hr.r.one h]
  exact ⟨rfl, hB⟩
theorem rDiv_is (a b : Int) (w : World) (X : Int) (a0 : 0 ≤ a) (a1 : a < 18446744073709551616) (b0 : 0 ≤ b) (b1 : b < 18446744073709551616) (h : Ie.DivR a b X) :
    Calls Tryd.prog 11 #[.int .u64 a, .int .u64 b] w fun e w' => e = .returned (.int .u64 X) ∧ Below w.heap.size w w' := by
  refine (ydivide_any a b w a0 a1 b0 b1).mono ?_
  rintro e w' ⟨r, rfl, hr, hB⟩
  rw [hr.one h]
  exact ⟨rfl, hB⟩

/-- A Three in its box. -/
def One3 (w wx : World) (g : Nat) (A B C : Int) : Prop := Below w.heap.size w wx ∧ wx.heap[g]? = some (.cells #[.int .u64 A, .int .u64 B, .int .u64 C] 26 (0, 0))
theorem One3.lt {w wx : World} {g : Nat} {A B C : Int} (h : One3 w wx g A B C) : g < wx.heap.size := by
  rcases Nat.lt_or_ge g wx.heap.size with hl | hl
  · exact hl
  · have := h.2; rw [Array.getElem?_eq_none hl] at this; cases this
theorem One3.blw {w wx : World} {g : Nat} {A B C : Int} (h : One3 w wx g A B C) : Below w.heap.size w wx := h.1
theorem One3.on {w wx w' : World} {g : Nat} {A B C : Int} (h : One3 w wx g A B C) (k : Below wx.heap.size wx w') : One3 w w' g A B C := ⟨bel h.1 k, by rw [k.block g h.lt]; exact h.2⟩
theorem One3.flat {w wx : World} {g : Nat} {A B C : Int} (h : One3 w wx g A B C) : wx.cell? ⟨g, 0, none⟩ = some (.int .u64 A) ∧ wx.cell? ⟨g, 1, none⟩ = some (.int .u64 B) ∧ wx.cell? ⟨g, 2, none⟩ = some (.int .u64 C) := by
  have h2 := h.2
  refine ⟨?_, ?_, ?_⟩ <;> simp [World.cell?, h2]
theorem udrew3 (w : World) : Below w.heap.size w w.drew := ⟨rfl, rfl, rfl, Nat.le_refl _, fun _ _ => rfl⟩

theorem O3.Holds.below {w w' : World} {a : Option Addr} {its : List O3} (h : O3.Holds w a its) (hb : Below w.heap.size w w') : O3.Holds w' a its := by
  rcases h with rfl | ⟨b, off, rfl, h⟩
  · exact .inl rfl
  · refine .inr ⟨b, off, rfl, fun i it hi => ?_⟩
    obtain ⟨h0, h1, h2⟩ := h i it hi
    exact ⟨by rw [hb.cell (p := ⟨b, off + i * 3, none⟩) (cell_lt h0)]; exact h0, by rw [hb.cell (p := ⟨b, off + i * 3 + 1, none⟩) (cell_lt h1)]; exact h1, by rw [hb.cell (p := ⟨b, off + i * 3 + 2, none⟩) (cell_lt h2)]; exact h2⟩

set_option maxRecDepth 100000 in
set_option maxHeartbeats 16000000 in
theorem reckons_law (a : Option Addr) (len cap : Nat) (its : List O3) (w : World) (hl : its.length = len) (hc : len ≤ cap) (hm : cap ≤ 17592186044416) (hp : O3.Holds w a its) (hi : ∀ it ∈ its, O3.Bd it) (hT : Tab w) :
    Calls Tryd.prog 3 #[.slice a len cap] w fun e w' => e = .returned (.bool true) ∧ Below w.heap.size w w' := by
  have HL := hid hl
  have HP := hid hp
  have HI := hid hi
  have HT := hid hT
  have A1 : Hid (∀ wx, Below w.heap.size w wx → Calls Tryd.prog 4 #[.int .u64 4607182418800017408, .int .u64 4611686018427387904] wx fun e w' => e = .returned (.int .u64 4613937818241073152) ∧ Below wx.heap.size wx w') := fun wx k => by
    refine (softAdd_any _ _ wx (by decide) (by decide) (by decide) (by decide) (hT.below k)).mono ?_
    rintro e w' ⟨r, f, rfl, h, hB⟩
    rw [Ie.add_12 h]; exact ⟨rfl, hB⟩
  have A2 : Hid (∀ wx, Below w.heap.size w wx → Calls Tryd.prog 5 #[.int .u64 4613937818241073152, .int .u64 4611686018427387904] wx fun e w' => e = .returned (.int .u64 4607182418800017408) ∧ Below wx.heap.size wx w') := fun wx k => by
    refine (softSub_any _ _ wx (by decide) (by decide) (by decide) (by decide) (hT.below k)).mono ?_
    rintro e w' ⟨r, f, rfl, h, hB⟩
    rw [Ie.sub_32 h]; exact ⟨rfl, hB⟩
  have A3 : Hid (∀ wx, Below w.heap.size w wx → Calls Tryd.prog 6 #[.int .u64 4613937818241073152, .int .u64 4611686018427387904] wx fun e w' => e = .returned (.int .u64 4618441417868443648) ∧ Below wx.heap.size wx w') := fun wx k => by
    refine (softMul_any _ _ wx (by decide) (by decide) (by decide) (by decide) (hT.below k)).mono ?_
    rintro e w' ⟨r, f, rfl, h, hB⟩
    rw [Ie.mul_32 h]; exact ⟨rfl, hB⟩
  have A4 : Hid (∀ wx, Below w.heap.size w wx → Calls Tryd.prog 7 #[.int .u64 4618441417868443648, .int .u64 4611686018427387904] wx fun e w' => e = .returned (.int .u64 4613937818241073152) ∧ Below wx.heap.size wx w') := fun wx k => by
    refine (softDiv_any _ _ wx (by decide) (by decide) (by decide) (by decide) (hT.below k)).mono ?_
    rintro e w' ⟨r, f, rfl, h, hB⟩
    rw [Ie.div_62 h]; exact ⟨rfl, hB⟩
  clear hl hp hi hT
  go_enter Tryd.func3, Tryd.ntmps3
  go_wp2_with fail
  with_reducible refine (A1.out _ (Below.refl _ _)).mono ?_
  rintro e w1 ⟨rfl, b1⟩
  go_wp2_with fail
  with_reducible refine (A2.out _ b1).mono ?_
  rintro e w2 ⟨rfl, hB⟩
  have b2 := bel b1 hB
  clear b1 hB
  go_wp2_with fail
  with_reducible refine (A3.out _ b2).mono ?_
  rintro e w3 ⟨rfl, hB⟩
  have b3 := bel b2 hB
  clear b2 hB
  go_wp2_with fail
  with_reducible refine (A4.out _ b3).mono ?_
  rintro e w4 ⟨rfl, hB⟩
  have D1 := hid (bel b3 hB)
  clear b3 hB A1 A2 A3 A4
  go_wp2_with fail
  go_loopw [3, 4] (fun i _ wr => ∃ j : Nat, j ≤ len ∧ i = .int .i64 j ∧ Hid (Below w.heap.size w wr)) (fun i _ _ => len - (intOf i).toNat)
  case atStart => exact ⟨0, Nat.zero_le _, rfl, D1.out⟩
  case round =>
    clear D1
    obtain ⟨j, hj, rfl, D⟩ := hrel
    by_cases hlt : j < len
    · obtain ⟨it, hit⟩ : ∃ it, its[j]? = some it := ⟨_, List.getElem?_eq_getElem (by have := HL.out; omega)⟩
      have hPH := HP.out.below D.out
      obtain ⟨bdA, bdB, bdC⟩ := HI.out it (List.mem_of_getElem? hit)
      rcases hPH with h | ⟨b0, off, rfl, h⟩
      · rw [h] at hit
        simp at hit
      · obtain ⟨c0, c1, c2⟩ := h j it hit
        obtain ⟨A, B, C⟩ := it
        simp only at c0 c1 c2 bdA bdB bdC
        have hjl : (j : Int) < (len : Int) := by omega
        clear h hit HP HI HL
        go_upto_region 7 with fail
        have S0 : Hid (One3 w (wr.alloc (.cells #[.int .u64 A, .int .u64 B, .int .u64 C] 26)) wr.heap.size A B C) := ⟨bel D.out (alloc_b wr _), heap_alloc_new wr _⟩
        generalize hW : wr.alloc (.cells #[.int .u64 A, .int .u64 B, .int .u64 C] 26) = wA at *
        clear hW
        generalize wr.heap.size = g at *
        clear c0 c1 c2 D
        obtain ⟨X, hX⟩ := Ie.addR_ex A B
        obtain ⟨Y, hY⟩ := Ie.addR_ex A (Ie.ng B)
        have P1 := hid (fun wx (k : Below w.heap.size w wx) => pAdd_is A B wx X bdA.1 bdA.2 bdB.1 bdB.2 hX (HT.out.below k))
        have R1 := hid (fun wx (k : Below w.heap.size w wx) => rAdd_is A B wx X bdA.1 bdA.2 bdB.1 bdB.2 hX)
        have P2 := hid (fun wx (k : Below w.heap.size w wx) => pSub_is A B wx Y bdA.1 bdA.2 bdB.1 bdB.2 hY (HT.out.below k))
        have R2 := hid (fun wx (k : Below w.heap.size w wx) => rSub_is A B wx Y bdA.1 bdA.2 bdB.1 bdB.2 hY)
        have xx : (X == X) = true := beq_self_eq_true X
        have yy : (Y == Y) = true := beq_self_eq_true Y
        clear hX hY
        go_upto_region 7 with fail
        have SD := hid (S0.out.on (udrew3 wA))
        go_cut [52] from 19 to 124 (fun b wx => b = .bool false ∧ Hid (One3 w wx g A B C))
        case first =>
          clear S0
          go_region_held3 (fun w' => w'.cell? ⟨g, 0, none⟩ = some (.int .u64 A) ∧ w'.cell? ⟨g, 1, none⟩ = some (.int .u64 B) ∧ w'.cell? ⟨g, 2, none⟩ = some (.int .u64 C)) (first | (with_reducible exact T4.out.flat) | (with_reducible exact T3.out.flat) | (with_reducible exact T2.out.flat) | (with_reducible exact T1.out.flat) | (with_reducible exact SD.out.flat)) (first | (go_at_call 4; first | (with_reducible refine (P1.out _ T3.out.blw).mono ?_; rintro e wT4 ⟨rfl, hB⟩; have T4 := hid (T3.out.on hB); clear hB) | (with_reducible refine (P1.out _ T2.out.blw).mono ?_; rintro e wT3 ⟨rfl, hB⟩; have T3 := hid (T2.out.on hB); clear hB) | (with_reducible refine (P1.out _ T1.out.blw).mono ?_; rintro e wT2 ⟨rfl, hB⟩; have T2 := hid (T1.out.on hB); clear hB) | (with_reducible refine (P1.out _ SD.out.blw).mono ?_; rintro e wT1 ⟨rfl, hB⟩; have T1 := hid (SD.out.on hB); clear hB)) | (go_at_call 8; first | (with_reducible refine (R1.out _ T3.out.blw).mono ?_; rintro e wT4 ⟨rfl, hB⟩; have T4 := hid (T3.out.on hB); clear hB) | (with_reducible refine (R1.out _ T2.out.blw).mono ?_; rintro e wT3 ⟨rfl, hB⟩; have T3 := hid (T2.out.on hB); clear hB) | (with_reducible refine (R1.out _ T1.out.blw).mono ?_; rintro e wT2 ⟨rfl, hB⟩; have T2 := hid (T1.out.on hB); clear hB) | (with_reducible refine (R1.out _ SD.out.blw).mono ?_; rintro e wT1 ⟨rfl, hB⟩; have T1 := hid (SD.out.on hB); clear hB)) | (go_at_call 5; first | (with_reducible refine (P2.out _ T3.out.blw).mono ?_; rintro e wT4 ⟨rfl, hB⟩; have T4 := hid (T3.out.on hB); clear hB) | (with_reducible refine (P2.out _ T2.out.blw).mono ?_; rintro e wT3 ⟨rfl, hB⟩; have T3 := hid (T2.out.on hB); clear hB) | (with_reducible refine (P2.out _ T1.out.blw).mono ?_; rintro e wT2 ⟨rfl, hB⟩; have T2 := hid (T1.out.on hB); clear hB) | (with_reducible refine (P2.out _ SD.out.blw).mono ?_; rintro e wT1 ⟨rfl, hB⟩; have T1 := hid (SD.out.on hB); clear hB)) | (go_at_call 9; first | (with_reducible refine (R2.out _ T3.out.blw).mono ?_; rintro e wT4 ⟨rfl, hB⟩; have T4 := hid (T3.out.on hB); clear hB) | (with_reducible refine (R2.out _ T2.out.blw).mono ?_; rintro e wT3 ⟨rfl, hB⟩; have T3 := hid (T2.out.on hB); clear hB) | (with_reducible refine (R2.out _ T1.out.blw).mono ?_; rintro e wT2 ⟨rfl, hB⟩; have T2 := hid (T1.out.on hB); clear hB) | (with_reducible refine (R2.out _ SD.out.blw).mono ?_; rintro e wT1 ⟨rfl, hB⟩; have T1 := hid (SD.out.on hB); clear hB)))
          all_goals (go_wp2_with fail; go_meet; exact ⟨rfl, T4⟩)
        case rest =>
          obtain ⟨rfl, S1⟩ := hcut
          clear P1 R1 P2 R2 xx yy SD S0
          go_upto_region 9 with fail
          generalize wc = w5 at *
          obtain ⟨X, hX⟩ := Ie.mulR_ex A B
          obtain ⟨Y, hY⟩ := Ie.divR_ex A B
          have P1 := hid (fun wx (k : Below w.heap.size w wx) => pMul_is A B wx X bdA.1 bdA.2 bdB.1 bdB.2 hX (HT.out.below k))
          have R1 := hid (fun wx (k : Below w.heap.size w wx) => rMul_is A B wx X bdA.1 bdA.2 bdB.1 bdB.2 hX)
          have P2 := hid (fun wx (k : Below w.heap.size w wx) => pDiv_is A B wx Y bdA.1 bdA.2 bdB.1 bdB.2 hY (HT.out.below k))
          have R2 := hid (fun wx (k : Below w.heap.size w wx) => rDiv_is A B wx Y bdA.1 bdA.2 bdB.1 bdB.2 hY)
          have xx : (X == X) = true := beq_self_eq_true X
          have yy : (Y == Y) = true := beq_self_eq_true Y
          clear hX hY
          go_upto_region 9 with fail
          have SD := hid (S1.out.on (udrew3 w5))
          go_cut [76] from 19 to 124 (fun b wx => b = .bool false ∧ Hid (One3 w wx g A B C))
          case first =>
            clear S1
            go_region_held3 (fun w' => w'.cell? ⟨g, 0, none⟩ = some (.int .u64 A) ∧ w'.cell? ⟨g, 1, none⟩ = some (.int .u64 B) ∧ w'.cell? ⟨g, 2, none⟩ = some (.int .u64 C)) (first | (with_reducible exact T4.out.flat) | (with_reducible exact T3.out.flat) | (with_reducible exact T2.out.flat) | (with_reducible exact T1.out.flat) | (with_reducible exact SD.out.flat)) (first | (go_at_call 6; first | (with_reducible refine (P1.out _ T3.out.blw).mono ?_; rintro e wT4 ⟨rfl, hB⟩; have T4 := hid (T3.out.on hB); clear hB) | (with_reducible refine (P1.out _ T2.out.blw).mono ?_; rintro e wT3 ⟨rfl, hB⟩; have T3 := hid (T2.out.on hB); clear hB) | (with_reducible refine (P1.out _ T1.out.blw).mono ?_; rintro e wT2 ⟨rfl, hB⟩; have T2 := hid (T1.out.on hB); clear hB) | (with_reducible refine (P1.out _ SD.out.blw).mono ?_; rintro e wT1 ⟨rfl, hB⟩; have T1 := hid (SD.out.on hB); clear hB)) | (go_at_call 10; first | (with_reducible refine (R1.out _ T3.out.blw).mono ?_; rintro e wT4 ⟨rfl, hB⟩; have T4 := hid (T3.out.on hB); clear hB) | (with_reducible refine (R1.out _ T2.out.blw).mono ?_; rintro e wT3 ⟨rfl, hB⟩; have T3 := hid (T2.out.on hB); clear hB) | (with_reducible refine (R1.out _ T1.out.blw).mono ?_; rintro e wT2 ⟨rfl, hB⟩; have T2 := hid (T1.out.on hB); clear hB) | (with_reducible refine (R1.out _ SD.out.blw).mono ?_; rintro e wT1 ⟨rfl, hB⟩; have T1 := hid (SD.out.on hB); clear hB)) | (go_at_call 7; first | (with_reducible refine (P2.out _ T3.out.blw).mono ?_; rintro e wT4 ⟨rfl, hB⟩; have T4 := hid (T3.out.on hB); clear hB) | (with_reducible refine (P2.out _ T2.out.blw).mono ?_; rintro e wT3 ⟨rfl, hB⟩; have T3 := hid (T2.out.on hB); clear hB) | (with_reducible refine (P2.out _ T1.out.blw).mono ?_; rintro e wT2 ⟨rfl, hB⟩; have T2 := hid (T1.out.on hB); clear hB) | (with_reducible refine (P2.out _ SD.out.blw).mono ?_; rintro e wT1 ⟨rfl, hB⟩; have T1 := hid (SD.out.on hB); clear hB)) | (go_at_call 11; first | (with_reducible refine (R2.out _ T3.out.blw).mono ?_; rintro e wT4 ⟨rfl, hB⟩; have T4 := hid (T3.out.on hB); clear hB) | (with_reducible refine (R2.out _ T2.out.blw).mono ?_; rintro e wT3 ⟨rfl, hB⟩; have T3 := hid (T2.out.on hB); clear hB) | (with_reducible refine (R2.out _ T1.out.blw).mono ?_; rintro e wT2 ⟨rfl, hB⟩; have T2 := hid (T1.out.on hB); clear hB) | (with_reducible refine (R2.out _ SD.out.blw).mono ?_; rintro e wT1 ⟨rfl, hB⟩; have T1 := hid (SD.out.on hB); clear hB)))
            all_goals (go_wp2_with fail; go_meet; exact ⟨rfl, T4⟩)
          case rest =>
            obtain ⟨rfl, S2⟩ := hcut
            clear P1 R1 P2 R2 xx yy SD S1
            go_upto_region 11 with fail
            generalize wc = w6 at *
            obtain ⟨X, hX⟩ := Ie.addR_ex B C
            obtain ⟨Y, hY⟩ := Ie.addR_ex C (Ie.ng A)
            have P1 := hid (fun wx (k : Below w.heap.size w wx) => pAdd_is B C wx X bdB.1 bdB.2 bdC.1 bdC.2 hX (HT.out.below k))
            have R1 := hid (fun wx (k : Below w.heap.size w wx) => rAdd_is B C wx X bdB.1 bdB.2 bdC.1 bdC.2 hX)
            have P2 := hid (fun wx (k : Below w.heap.size w wx) => pSub_is C A wx Y bdC.1 bdC.2 bdA.1 bdA.2 hY (HT.out.below k))
            have R2 := hid (fun wx (k : Below w.heap.size w wx) => rSub_is C A wx Y bdC.1 bdC.2 bdA.1 bdA.2 hY)
            have xx : (X == X) = true := beq_self_eq_true X
            have yy : (Y == Y) = true := beq_self_eq_true Y
            clear hX hY
            go_upto_region 11 with fail
            have SD := hid (S2.out.on (udrew3 w6))
            go_cut [100] from 19 to 124 (fun b wx => b = .bool false ∧ Hid (One3 w wx g A B C))
            case first =>
              clear S2
              go_region_held3 (fun w' => w'.cell? ⟨g, 0, none⟩ = some (.int .u64 A) ∧ w'.cell? ⟨g, 1, none⟩ = some (.int .u64 B) ∧ w'.cell? ⟨g, 2, none⟩ = some (.int .u64 C)) (first | (with_reducible exact T4.out.flat) | (with_reducible exact T3.out.flat) | (with_reducible exact T2.out.flat) | (with_reducible exact T1.out.flat) | (with_reducible exact SD.out.flat)) (first | (go_at_call 4; first | (with_reducible refine (P1.out _ T3.out.blw).mono ?_; rintro e wT4 ⟨rfl, hB⟩; have T4 := hid (T3.out.on hB); clear hB) | (with_reducible refine (P1.out _ T2.out.blw).mono ?_; rintro e wT3 ⟨rfl, hB⟩; have T3 := hid (T2.out.on hB); clear hB) | (with_reducible refine (P1.out _ T1.out.blw).mono ?_; rintro e wT2 ⟨rfl, hB⟩; have T2 := hid (T1.out.on hB); clear hB) | (with_reducible refine (P1.out _ SD.out.blw).mono ?_; rintro e wT1 ⟨rfl, hB⟩; have T1 := hid (SD.out.on hB); clear hB)) | (go_at_call 8; first | (with_reducible refine (R1.out _ T3.out.blw).mono ?_; rintro e wT4 ⟨rfl, hB⟩; have T4 := hid (T3.out.on hB); clear hB) | (with_reducible refine (R1.out _ T2.out.blw).mono ?_; rintro e wT3 ⟨rfl, hB⟩; have T3 := hid (T2.out.on hB); clear hB) | (with_reducible refine (R1.out _ T1.out.blw).mono ?_; rintro e wT2 ⟨rfl, hB⟩; have T2 := hid (T1.out.on hB); clear hB) | (with_reducible refine (R1.out _ SD.out.blw).mono ?_; rintro e wT1 ⟨rfl, hB⟩; have T1 := hid (SD.out.on hB); clear hB)) | (go_at_call 5; first | (with_reducible refine (P2.out _ T3.out.blw).mono ?_; rintro e wT4 ⟨rfl, hB⟩; have T4 := hid (T3.out.on hB); clear hB) | (with_reducible refine (P2.out _ T2.out.blw).mono ?_; rintro e wT3 ⟨rfl, hB⟩; have T3 := hid (T2.out.on hB); clear hB) | (with_reducible refine (P2.out _ T1.out.blw).mono ?_; rintro e wT2 ⟨rfl, hB⟩; have T2 := hid (T1.out.on hB); clear hB) | (with_reducible refine (P2.out _ SD.out.blw).mono ?_; rintro e wT1 ⟨rfl, hB⟩; have T1 := hid (SD.out.on hB); clear hB)) | (go_at_call 9; first | (with_reducible refine (R2.out _ T3.out.blw).mono ?_; rintro e wT4 ⟨rfl, hB⟩; have T4 := hid (T3.out.on hB); clear hB) | (with_reducible refine (R2.out _ T2.out.blw).mono ?_; rintro e wT3 ⟨rfl, hB⟩; have T3 := hid (T2.out.on hB); clear hB) | (with_reducible refine (R2.out _ T1.out.blw).mono ?_; rintro e wT2 ⟨rfl, hB⟩; have T2 := hid (T1.out.on hB); clear hB) | (with_reducible refine (R2.out _ SD.out.blw).mono ?_; rintro e wT1 ⟨rfl, hB⟩; have T1 := hid (SD.out.on hB); clear hB)))
              all_goals (go_wp2_with fail; go_meet; exact ⟨rfl, T4⟩)
            case rest =>
              obtain ⟨rfl, S3⟩ := hcut
              clear P1 R1 P2 R2 xx yy SD S2
              go_upto_region 13 with fail
              generalize wc = w7 at *
              obtain ⟨X, hX⟩ := Ie.mulR_ex B C
              obtain ⟨Y, hY⟩ := Ie.divR_ex C A
              have P1 := hid (fun wx (k : Below w.heap.size w wx) => pMul_is B C wx X bdB.1 bdB.2 bdC.1 bdC.2 hX (HT.out.below k))
              have R1 := hid (fun wx (k : Below w.heap.size w wx) => rMul_is B C wx X bdB.1 bdB.2 bdC.1 bdC.2 hX)
              have P2 := hid (fun wx (k : Below w.heap.size w wx) => pDiv_is C A wx Y bdC.1 bdC.2 bdA.1 bdA.2 hY (HT.out.below k))
              have R2 := hid (fun wx (k : Below w.heap.size w wx) => rDiv_is C A wx Y bdC.1 bdC.2 bdA.1 bdA.2 hY)
              have xx : (X == X) = true := beq_self_eq_true X
              have yy : (Y == Y) = true := beq_self_eq_true Y
              clear hX hY
              go_upto_region 13 with fail
              have SD := hid (S3.out.on (udrew3 w7))
              go_cut [124] from 19 to 124 (fun b wx => b = .bool false ∧ Hid (One3 w wx g A B C))
              case first =>
                clear S3
                go_region_held3 (fun w' => w'.cell? ⟨g, 0, none⟩ = some (.int .u64 A) ∧ w'.cell? ⟨g, 1, none⟩ = some (.int .u64 B) ∧ w'.cell? ⟨g, 2, none⟩ = some (.int .u64 C)) (first | (with_reducible exact T4.out.flat) | (with_reducible exact T3.out.flat) | (with_reducible exact T2.out.flat) | (with_reducible exact T1.out.flat) | (with_reducible exact SD.out.flat)) (first | (go_at_call 6; first | (with_reducible refine (P1.out _ T3.out.blw).mono ?_; rintro e wT4 ⟨rfl, hB⟩; have T4 := hid (T3.out.on hB); clear hB) | (with_reducible refine (P1.out _ T2.out.blw).mono ?_; rintro e wT3 ⟨rfl, hB⟩; have T3 := hid (T2.out.on hB); clear hB) | (with_reducible refine (P1.out _ T1.out.blw).mono ?_; rintro e wT2 ⟨rfl, hB⟩; have T2 := hid (T1.out.on hB); clear hB) | (with_reducible refine (P1.out _ SD.out.blw).mono ?_; rintro e wT1 ⟨rfl, hB⟩; have T1 := hid (SD.out.on hB); clear hB)) | (go_at_call 10; first | (with_reducible refine (R1.out _ T3.out.blw).mono ?_; rintro e wT4 ⟨rfl, hB⟩; have T4 := hid (T3.out.on hB); clear hB) | (with_reducible refine (R1.out _ T2.out.blw).mono ?_; rintro e wT3 ⟨rfl, hB⟩; have T3 := hid (T2.out.on hB); clear hB) | (with_reducible refine (R1.out _ T1.out.blw).mono ?_; rintro e wT2 ⟨rfl, hB⟩; have T2 := hid (T1.out.on hB); clear hB) | (with_reducible refine (R1.out _ SD.out.blw).mono ?_; rintro e wT1 ⟨rfl, hB⟩; have T1 := hid (SD.out.on hB); clear hB)) | (go_at_call 7; first | (with_reducible refine (P2.out _ T3.out.blw).mono ?_; rintro e wT4 ⟨rfl, hB⟩; have T4 := hid (T3.out.on hB); clear hB) | (with_reducible refine (P2.out _ T2.out.blw).mono ?_; rintro e wT3 ⟨rfl, hB⟩; have T3 := hid (T2.out.on hB); clear hB) | (with_reducible refine (P2.out _ T1.out.blw).mono ?_; rintro e wT2 ⟨rfl, hB⟩; have T2 := hid (T1.out.on hB); clear hB) | (with_reducible refine (P2.out _ SD.out.blw).mono ?_; rintro e wT1 ⟨rfl, hB⟩; have T1 := hid (SD.out.on hB); clear hB)) | (go_at_call 11; first | (with_reducible refine (R2.out _ T3.out.blw).mono ?_; rintro e wT4 ⟨rfl, hB⟩; have T4 := hid (T3.out.on hB); clear hB) | (with_reducible refine (R2.out _ T2.out.blw).mono ?_; rintro e wT3 ⟨rfl, hB⟩; have T3 := hid (T2.out.on hB); clear hB) | (with_reducible refine (R2.out _ T1.out.blw).mono ?_; rintro e wT2 ⟨rfl, hB⟩; have T2 := hid (T1.out.on hB); clear hB) | (with_reducible refine (R2.out _ SD.out.blw).mono ?_; rintro e wT1 ⟨rfl, hB⟩; have T1 := hid (SD.out.on hB); clear hB)))
                all_goals (go_wp2_with fail; go_meet; exact ⟨rfl, T4⟩)
              case rest =>
                obtain ⟨rfl, S4⟩ := hcut
                clear P1 R1 P2 R2 xx yy SD S3
                go_wp2_with fail
                go_roundw
                case rel => exact ⟨j + 1, by omega, by go_num, S4.out.1⟩
                case measure => simp [intOf]; omega
    · have hjl : ¬ (j : Int) < (len : Int) := by omega
      go_wp2_with fail
      go_ret
      exact ⟨rfl, D.out⟩
end Go.Proofs.YtnldfeojookaeaaDoor
