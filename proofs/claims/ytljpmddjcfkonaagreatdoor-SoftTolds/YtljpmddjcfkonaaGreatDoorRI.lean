/-
  Texts put together: YRef9, YSqrtR, QRootNum, QRootRef, ZRef7, ZRef17, ZRound, ZRef12, ZRound2.
-/
import Derived.Test.YtljpmddjcfkonaaGreatDoorRH
import Derived.Test.YtljpmddjcfkonaaGreatDoorRD
import Derived.Test.YtljpmddjcfkonaaGreatDoorRE
import Derived.Test.YtljpmddjcfkonaaGreatDoorNums
import Derived.Test.YtljpmddjcfkonaaGreatDoorRC
import Derived.Test.YtljpmddjcfkonaaGreatDoorFromW
import Derived.OwnWalk
import Derived.Deep.LoopGhost
import Derived.Test.YtljpmddjcfkonaaGreatDoorRA
import Derived.Test.YtljpmddjcfkonaaGreatDoorBlenIs
import Derived.Test.YtljpmddjcfkonaaGreatDoorBitW
import Derived.Test.YtljpmddjcfkonaaGreatDoorINum2
import Derived.Test.YtljpmddjcfkonaaGreatDoorShr
import Derived.Test.YtljpmddjcfkonaaGreatDoorTrailW
namespace Go.Proofs.YtljpmddjcfkonaaGreatDoor
open Go Go.RowKit Go.Deep

namespace Ie
/-- What a fused product and sum answers, whoever makes it: one double. -/
def FmaR (a b c r : Int) : Prop :=
  if isn a = true ∨ isn b = true ∨ isn c = true then r = 9221120237041090560
  else if isi a = true ∨ isi b = true then (if isz a = true ∨ isz b = true then r = 9221120237041090560 else AddR (sb (ngd a != ngd b) 9218868437227405312) c r)
  else if isi c = true then r = c
  else RS (uv a * uv b + uv c * 2 ^ 1074) (2 ^ 1074) ((ngd a != ngd b) && ngd c) r

theorem FmaIs.r {a b c r f : Int} (h : FmaIs a b c r f) : FmaR a b c r := by
  have h0 := h
  unfold FmaR
  unfold FmaIs at h
  split
  · rename_i g; rw [if_pos g] at h; exact h.1
  rename_i g1; rw [if_neg g1] at h
  split
  · rename_i g; rw [if_pos g] at h
    split
    · rename_i k; rw [if_pos k] at h; exact h.1
    · rename_i k; rw [if_neg k] at h; exact h.r
  rename_i g2; rw [if_neg g2] at h
  split
  · rename_i g; rw [if_pos g] at h; exact h.1
  rename_i g3
  have fa : fin a := fin_of (by cases c : isn a; rfl; exact absurd (.inl c) g1) (by cases c : isi a; rfl; exact absurd (.inl c) g2)
  have fb : fin b := fin_of (by cases c : isn b; rfl; exact absurd (.inr (.inl c)) g1) (by cases c : isi b; rfl; exact absurd (.inr c) g2)
  have fc : fin c := fin_of (by cases d : isn c; rfl; exact absurd (.inr (.inr d)) g1) (by cases d : isi c; rfl; exact absurd d g3)
  exact h0.rs fa fb fc

theorem FmaR.one {a b c r r' : Int} (h : FmaR a b c r) (k : FmaR a b c r') : r = r' := by
  unfold FmaR at h k
  split at h
  · rename_i g; rw [if_pos g] at k; rw [h, k]
  rename_i g1; rw [if_neg g1] at k
  split at h
  · rename_i g; rw [if_pos g] at k
    split at h
    · rename_i j; rw [if_pos j] at k; rw [h, k]
    · rename_i j; rw [if_neg j] at k; exact h.one k
  rename_i g2; rw [if_neg g2] at k
  split at h
  · rename_i g; rw [if_pos g] at k; rw [h, k]
  rename_i g3; rw [if_neg g3] at k
  exact h.one (Nm.two_pos 1074) (Nm.two_pos 1074) k rfl

theorem fmaR_ex (a b c : Int) : ∃ r, FmaR a b c r := by
  unfold FmaR
  split
  · exact ⟨_, rfl⟩
  split
  · split
    · exact ⟨_, rfl⟩
    · exact addR_ex _ _
  split
  · exact ⟨_, rfl⟩
  exact rs_ex _ _ _

theorem yfma_rs {a b c : Int} {neg : Bool} {V m x : Int} (fa : fin a) (fb : fin b) (fc : fin c) (hS : SumIs (ngd a != ngd b) (dm a * dm b) (de a + de b) (ngd c) (dm c) (de c) neg V m) (hR : Rnd V 1 m false x) : RS (uv a * uv b + uv c * 2 ^ 1074) (2 ^ 1074) ((ngd a != ngd b) && ngd c) (sg neg x) := by
  obtain ⟨_, ⟨ea0, ea1⟩, _, _⟩ := dec_f a fa
  obtain ⟨_, ⟨eb0, eb1⟩, _, _⟩ := dec_f b fb
  obtain ⟨_, ⟨ec0, ec1⟩, gc, _⟩ := dec_f c fc
  have g2 : ∀ k : Nat, (k : Int) = de c + (2148 : Nat) → dm c * 2 ^ k = un (ab c) * 2 ^ 1074 := by
    intro k hk
    obtain ⟨kc, hkc⟩ : ∃ k : Nat, (k : Int) = de c + 1074 := ⟨(de c + 1074).toNat, by omega⟩
    rw [← gc kc hkc, show k = kc + 1074 by omega, Nm.two_add, Int.mul_assoc]
  obtain ⟨c', hc, key, h0⟩ := hS.at 2148 (by omega) (by omega) (fun k hk => prod_at fa fb k (by omega)) g2
  rw [← uv_mul, ← sn_mul_right (ngd c)] at key h0
  exact rs_of hR hS.2.2.1.1 c' 1074 (by omega) key.symm rfl h0

/-- The product of what isn't two numbers, and c. -/
theorem fmaR_inf {a b c p r : Int} (n1 : isn a = false) (n2 : isn b = false) (n3 : isn c = false) (hi : isi a = true ∨ isi b = true) (hp : MulR a b p) (hr : AddR p c r) : FmaR a b c r := by
  unfold FmaR
  rw [if_neg (by simp [n1, n2, n3]), if_pos hi]
  unfold MulR at hp
  rw [if_neg (by simp [n1, n2])] at hp
  have xa : isi a = true → isz a = false := fun h => by simp only [isi, isz, decide_eq_true_eq, decide_eq_false_iff_not] at *; omega
  have xb : isi b = true → isz b = false := fun h => by simp only [isi, isz, decide_eq_true_eq, decide_eq_false_iff_not] at *; omega
  by_cases hz : isz a = true ∨ isz b = true
  · rw [if_pos hz]
    rw [if_pos (by
      rcases hi with h | h
      · have := xa h
        rcases hz with z | z
        · rw [this] at z; cases z
        · exact .inl ⟨h, z⟩
      · have := xb h
        rcases hz with z | z
        · exact .inr ⟨z, h⟩
        · rw [this] at z; cases z)] at hp
    subst hp
    unfold AddR at hr
    rw [if_pos (.inl (by decide))] at hr
    exact hr
  · rw [if_neg hz]
    rw [if_neg (by
      rintro (⟨_, z⟩ | ⟨z, _⟩)
      · exact hz (.inr z)
      · exact hz (.inl z)), if_pos hi] at hp
    rw [← hp]
    exact hr
theorem fmaR_last {a b c p r : Int} (n1 : isn a = false) (n2 : isn b = false) (n3 : isn c = false) (i1 : isi a = false) (i2 : isi b = false) (i3 : isi c = true) (hp : p = sb (ngd a != ngd b) 0) (hr : AddR p c r) : FmaR a b c r := by
  unfold FmaR
  rw [if_neg (by simp [n1, n2, n3]), if_neg (by simp [i1, i2]), if_pos i3]
  have hn : ∀ q : Bool, isn (sb q 0) = false ∧ isi (sb q 0) = false := by intro q; cases q <;> decide
  unfold AddR at hr
  rw [hp] at hr
  rw [if_neg (by simp [(hn (ngd a != ngd b)).1, n3]), if_neg (by simp [(hn (ngd a != ngd b)).2]), if_neg (by simp [(hn (ngd a != ngd b)).2]), if_pos i3] at hr
  exact hr
theorem mulR_bd {a b p : Int} (h : MulR a b p) : 0 ≤ p ∧ p < 18446744073709551616 := by
  have sbb : ∀ (q : Bool) (x : Int), 0 ≤ x → x ≤ 9218868437227405312 → 0 ≤ sb q x ∧ sb q x < 18446744073709551616 := by
    intro q x h0 h1
    cases q <;> simp only [sb, Bool.false_eq_true, if_true, if_false] <;> omega
  unfold MulR at h
  split at h
  · omega
  split at h
  · omega
  split at h
  · rw [h]; exact sbb _ _ (by omega) (by omega)
  obtain ⟨neg, V, x, rfl, _, _, hN, _⟩ := h
  exact sbb _ _ hN.1.1 hN.1.2
end Ie

def FmaTold5 (a b c : Int) (w : World) (r : Ending) (w' : World) : Prop := ∃ x, r = .returned (.int .u64 x) ∧ Ie.FmaR a b c x ∧ Below w.heap.size w w'

set_option maxRecDepth 100000 in
set_option maxHeartbeats 4000000 in
theorem yfma_any (a b c : Int) (w : World) (a0 : 0 ≤ a) (a1 : a < 18446744073709551616) (b0 : 0 ≤ b) (b1 : b < 18446744073709551616) (c0 : 0 ≤ c) (c1 : c < 18446744073709551616) :
    Calls Tryz.prog 7 #[.int .u64 a, .int .u64 b, .int .u64 c] w fun e w' => FmaTold5 a b c w e w' := by
  have GA := hid (fun wx => yngd_any a wx)
  have GB := hid (fun wx => yngd_any b wx)
  have AN := hid (fun wx => yanynan_any a b wx a0 a1 b0 b1)
  have NC := hid (fun wx => ynan_any c wx c0 c1)
  have IA := hid (fun wx => yinf_any a wx a0 a1)
  have IB := hid (fun wx => yinf_any b wx b0 b1)
  have IC := hid (fun wx => yinf_any c wx c0 c1)
  have SI := hid (fun wx => ysigned_any (Ie.ngd a != Ie.ngd b) 0 wx (by omega) (by omega))
  have FF : Hid (∀ x w', Ie.FmaR a b c x → Below w.heap.size w w' → FmaTold5 a b c w (.returned (.int .u64 x)) w') := fun x w' h k => ⟨x, rfl, h, k⟩
  have BR := hid (Below.refl w.heap.size w)
  have ML := hid (fun wx => ymultiply_any a b wx a0 a1 b0 b1)
  have AD := hid (fun p wx (p0 : 0 ≤ p) (p1 : p < 18446744073709551616) => yadd_any p c wx p0 p1 c0 c1)
  have RA : Hid (Ie.isn a = false → Ie.isi a = false → Ie.isn b = false → Ie.isi b = false → Ie.isn c = false → Ie.isi c = false → (∀ wx, Calls Tryz.prog 22 #[.int .u64 a] wx (fun r w' => NumTold5 (Ie.ngd a) (Ie.dm a) 1 (Ie.de a) wx r w')) ∧ (∀ wx, Calls Tryz.prog 22 #[.int .u64 b] wx (fun r w' => NumTold5 (Ie.ngd b) (Ie.dm b) 1 (Ie.de b) wx r w')) ∧ (∀ wx, Calls Tryz.prog 22 #[.int .u64 c] wx (fun r w' => NumTold5 (Ie.ngd c) (Ie.dm c) 1 (Ie.de c) wx r w')) ∧ (Ie.fin a ∧ Ie.fin b ∧ Ie.fin c) ∧ (Ie.dm a < 9007199254740992 ∧ Ie.dm b < 9007199254740992 ∧ Ie.dm a * Ie.dm b < 1298074214633706907132624082305024 ∧ Ie.dm c < 1298074214633706907132624082305024) ∧ (-1100 ≤ Ie.de a ∧ Ie.de a ≤ 1000) ∧ (-1100 ≤ Ie.de b ∧ Ie.de b ≤ 1000) ∧ -1100 ≤ Ie.de c ∧ Ie.de c ≤ 1000) := fun h1 h2 h3 h4 h5 h6 => by
    have fa := Ie.fin_of h1 h2
    have fb := Ie.fin_of h3 h4
    have fc := Ie.fin_of h5 h6
    obtain ⟨⟨da0, da1⟩, ⟨ea0, ea1⟩, _, _⟩ := Ie.dec_f a fa
    obtain ⟨⟨db0, db1⟩, ⟨eb0, eb1⟩, _, _⟩ := Ie.dec_f b fb
    obtain ⟨⟨dc0, dc1⟩, ⟨ec0, ec1⟩, _, _⟩ := Ie.dec_f c fc
    have pb : Ie.dm a * Ie.dm b ≤ 9007199254740992 * 9007199254740992 := Int.mul_le_mul (by omega) (by omega) db0 (by omega)
    exact ⟨fun wx => yof2 a _ _ _ wx a0 a1 rfl rfl rfl da0 da1, fun wx => yof2 b _ _ _ wx b0 b1 rfl rfl rfl db0 db1, fun wx => yof2 c _ _ _ wx c0 c1 rfl rfl rfl dc0 dc1, ⟨fa, fb, fc⟩, ⟨da1, db1, by omega, by omega⟩, ⟨by omega, by omega⟩, ⟨by omega, by omega⟩, by omega, by omega⟩
  clear a0 a1 b0 b1 c0 c1
  rw [show Ie.ab 0 = 0 by decide] at SI
  have SI2 : Hid (∀ wx, Calls Tryz.prog 15 #[.bool (!(Ie.ngd a == Ie.ngd b)), .int .u64 0] wx fun e w' => e = .returned (.int .u64 (Ie.sb (Ie.ngd a != Ie.ngd b) 0)) ∧ w' = wx) := SI.out
  clear SI
  by_cases hn : (Ie.isn a || Ie.isn b) = true
  · have hn2 : Ie.isn a = true ∨ Ie.isn b = true ∨ Ie.isn c = true := by
      rcases Bool.or_eq_true _ _ |>.mp hn with h | h
      · exact .inl h
      · exact .inr (.inl h)
    rw [hn] at AN
    have F := hid (FF.out 9221120237041090560 w (by unfold Ie.FmaR; rw [if_pos hn2]) BR.out)
    clear FF RA BR ML AD
    go_enter Tryz.func7, Tryz.ntmps7
    go_wp2_with (first | (go_at_call 16; first | (with_reducible refine (GA.out _).mono ?_; rintro e w' ⟨rfl, rfl⟩) | (with_reducible refine (GB.out _).mono ?_; rintro e w' ⟨rfl, rfl⟩)) | (go_at_call 12; first | (with_reducible refine (AN.out _).mono ?_; rintro e w' ⟨rfl, rfl⟩)) | (go_at_call 13; first | (with_reducible refine (NC.out _).mono ?_; rintro e w' ⟨rfl, rfl⟩)) | (go_at_call 14; first | (with_reducible refine (IA.out _).mono ?_; rintro e w' ⟨rfl, rfl⟩) | (with_reducible refine (IB.out _).mono ?_; rintro e w' ⟨rfl, rfl⟩) | (with_reducible refine (IC.out _).mono ?_; rintro e w' ⟨rfl, rfl⟩)) | (go_at_call 15; first | (with_reducible refine (SI2.out _).mono ?_; rintro e w' ⟨rfl, rfl⟩)))
    go_ret
    exact F.out
  have h1 : Ie.isn a = false := by cases c : Ie.isn a; rfl; simp [c] at hn
  have h2 : Ie.isn b = false := by cases c : Ie.isn b; rfl; simp [c] at hn
  rw [h1, h2] at AN
  clear hn
  cases h3 : Ie.isn c
  · rw [h3] at NC
    cases h4 : Ie.isi a
    · rw [h4] at IA
      cases h5 : Ie.isi b
      · rw [h5] at IB
        cases h6 : Ie.isi c
        · rw [h6] at IC
          obtain ⟨OA, OB, OC, ⟨fa, fb, fc⟩, ⟨ma, mb, mp, mc⟩, ⟨ea0, ea1⟩, ⟨eb0, eb1⟩, ec0, ec1⟩ := RA.out h1 h4 h2 h5 h3 h6
          have HA := hid OA
          have HB := hid OB
          have HC := hid OC
          have KK : Hid (∀ neg V m x w', Ie.SumIs (Ie.ngd a != Ie.ngd b) (Ie.dm a * Ie.dm b) (Ie.de a + Ie.de b) (Ie.ngd c) (Ie.dm c) (Ie.de c) neg V m → Ie.Rnd V 1 m false x → Below w.heap.size w w' → FmaTold5 a b c w (.returned (.int .u64 (Ie.sg neg x))) w') := fun neg V m x w' hS hR k => FF.out _ w' (by unfold Ie.FmaR; simp only [h1, h2, h3, h4, h5, h6, Bool.false_eq_true, or_self, if_false]; exact Ie.yfma_rs fa fb fc hS hR) k
          clear OA OB OC fa fb fc FF RA BR ML AD SI2
          go_enter Tryz.func7, Tryz.ntmps7
          go_wp2_with (first | (go_at_call 16; first | (with_reducible refine (GA.out _).mono ?_; rintro e w' ⟨rfl, rfl⟩) | (with_reducible refine (GB.out _).mono ?_; rintro e w' ⟨rfl, rfl⟩)) | (go_at_call 12; first | (with_reducible refine (AN.out _).mono ?_; rintro e w' ⟨rfl, rfl⟩)) | (go_at_call 13; first | (with_reducible refine (NC.out _).mono ?_; rintro e w' ⟨rfl, rfl⟩)) | (go_at_call 14; first | (with_reducible refine (IA.out _).mono ?_; rintro e w' ⟨rfl, rfl⟩) | (with_reducible refine (IB.out _).mono ?_; rintro e w' ⟨rfl, rfl⟩) | (with_reducible refine (IC.out _).mono ?_; rintro e w' ⟨rfl, rfl⟩)) | (go_at_call 15; first | (with_reducible refine (SI2.out _).mono ?_; rintro e w' ⟨rfl, rfl⟩)))
          with_reducible refine (HA.out _).mono ?_
          rintro r w1 ⟨v1, rfl, N1, hB1⟩
          go_wp2_with fail
          with_reducible refine (HB.out _).mono ?_
          rintro r w2 ⟨v2, rfl, N2, hB2⟩
          have PR := hid (yproduct_any (N1.on hB2) (N2.lower hB1.size) (Nat.le_trans hB1.size hB2.size) ma mb (by omega) (by omega) (by omega) (by omega))
          have B2 := hid (bel hB1 hB2)
          clear N1 N2 hB1 hB2 HA HB
          go_wp2_with fail
          with_reducible refine PR.out.mono ?_
          rintro r w3 ⟨v3, rfl, N3, hB3⟩
          have B3 := hid (bel B2.out hB3)
          have M3 := hid N3
          clear N3 hB3 PR B2
          go_wp2_with fail
          with_reducible refine (HC.out _).mono ?_
          rintro r w4 ⟨v4, rfl, N4, hB4⟩
          have B4 := hid (bel B3.out hB4)
          have SU := hid (ysum_any (M3.out.on hB4) (N4.lower B3.out.size) B4.out.size mp mc (by omega) (by omega) (by omega) (by omega))
          clear N4 hB4 M3 HC B3
          go_wp2_with fail
          with_reducible refine SU.out.mono ?_
          rintro r w5 ⟨v5, neg, V, m, rfl, N5, hS, hB5⟩
          have YR := hid (yrounded_any N5 (by omega))
          have B5 := hid (bel B4.out hB5)
          have HS := hid hS
          clear N5 hB5 SU B4 hS
          go_wp2_with fail
          with_reducible refine YR.out.mono ?_
          rintro r w6 ⟨x, rfl, R, hB6⟩
          have F := hid (KK.out neg V m x w6 HS.out R (bel B5.out hB6))
          clear R hB6 YR KK B5 HS
          go_wp2_with fail
          go_ret
          exact F.out
        · rw [h6] at IC
          have pz : ∀ q : Bool, 0 ≤ Ie.sb q 0 ∧ Ie.sb q 0 < 18446744073709551616 := by intro q; cases q <;> decide
          have A1 := hid (fun wx => AD.out (Ie.sb (Ie.ngd a != Ie.ngd b) 0) wx (pz _).1 (pz _).2)
          have K1 : Hid (∀ x w', Ie.AddR (Ie.sb (Ie.ngd a != Ie.ngd b) 0) c x → Below w.heap.size w w' → FmaTold5 a b c w (.returned (.int .u64 x)) w') := fun x w' h k => FF.out x w' (Ie.fmaR_last h1 h2 h3 h4 h5 h6 rfl h) k
          clear FF RA BR ML AD pz
          obtain ⟨P, hP⟩ : ∃ P, Ie.sb (Ie.ngd a != Ie.ngd b) 0 = P := ⟨_, rfl⟩
          rw [hP] at A1 K1 SI2
          clear hP
          go_enter Tryz.func7, Tryz.ntmps7
          go_wp2_with (first | (go_at_call 16; first | (with_reducible refine (GA.out _).mono ?_; rintro e w' ⟨rfl, rfl⟩) | (with_reducible refine (GB.out _).mono ?_; rintro e w' ⟨rfl, rfl⟩)) | (go_at_call 12; first | (with_reducible refine (AN.out _).mono ?_; rintro e w' ⟨rfl, rfl⟩)) | (go_at_call 13; first | (with_reducible refine (NC.out _).mono ?_; rintro e w' ⟨rfl, rfl⟩)) | (go_at_call 14; first | (with_reducible refine (IA.out _).mono ?_; rintro e w' ⟨rfl, rfl⟩) | (with_reducible refine (IB.out _).mono ?_; rintro e w' ⟨rfl, rfl⟩) | (with_reducible refine (IC.out _).mono ?_; rintro e w' ⟨rfl, rfl⟩)) | (go_at_call 15; first | (with_reducible refine (SI2.out _).mono ?_; rintro e w' ⟨rfl, rfl⟩)))
          with_reducible refine (A1.out _).mono ?_
          rintro r w1 ⟨x, rfl, hx, hB1⟩
          have F := hid (K1.out x w1 hx hB1)
          clear hx hB1 A1 K1
          go_wp2_with fail
          go_ret
          exact F.out
      · rw [h5] at IB
        have K1 : Hid (∀ p x w', Ie.MulR a b p → Ie.AddR p c x → Below w.heap.size w w' → FmaTold5 a b c w (.returned (.int .u64 x)) w') := fun p x w' hp h k => FF.out x w' (Ie.fmaR_inf h1 h2 h3 (.inr h5) hp h) k
        clear FF RA BR
        obtain ⟨P, hP⟩ : ∃ P, Ie.sb (Ie.ngd a != Ie.ngd b) 0 = P := ⟨_, rfl⟩
        rw [hP] at SI2
        clear hP
        go_enter Tryz.func7, Tryz.ntmps7
        go_wp2_with (first | (go_at_call 16; first | (with_reducible refine (GA.out _).mono ?_; rintro e w' ⟨rfl, rfl⟩) | (with_reducible refine (GB.out _).mono ?_; rintro e w' ⟨rfl, rfl⟩)) | (go_at_call 12; first | (with_reducible refine (AN.out _).mono ?_; rintro e w' ⟨rfl, rfl⟩)) | (go_at_call 13; first | (with_reducible refine (NC.out _).mono ?_; rintro e w' ⟨rfl, rfl⟩)) | (go_at_call 14; first | (with_reducible refine (IA.out _).mono ?_; rintro e w' ⟨rfl, rfl⟩) | (with_reducible refine (IB.out _).mono ?_; rintro e w' ⟨rfl, rfl⟩) | (with_reducible refine (IC.out _).mono ?_; rintro e w' ⟨rfl, rfl⟩)) | (go_at_call 15; first | (with_reducible refine (SI2.out _).mono ?_; rintro e w' ⟨rfl, rfl⟩)))
        with_reducible refine (ML.out _).mono ?_
        rintro r w1 ⟨p, rfl, hp, hB1⟩
        have pb := Ie.mulR_bd hp
        have A1 := hid (fun wx => AD.out p wx pb.1 pb.2)
        have HP := hid hp
        have B1 := hid hB1
        clear hp pb hB1 ML AD
        go_wp2_with fail
        with_reducible refine (A1.out _).mono ?_
        rintro r w2 ⟨x, rfl, hx, hB2⟩
        have F := hid (K1.out p x w2 HP.out hx (bel B1.out hB2))
        clear hx hB2 A1 K1 HP B1
        go_wp2_with fail
        go_ret
        exact F.out
    · rw [h4] at IA
      have K1 : Hid (∀ p x w', Ie.MulR a b p → Ie.AddR p c x → Below w.heap.size w w' → FmaTold5 a b c w (.returned (.int .u64 x)) w') := fun p x w' hp h k => FF.out x w' (Ie.fmaR_inf h1 h2 h3 (.inl h4) hp h) k
      clear FF RA BR
      obtain ⟨P, hP⟩ : ∃ P, Ie.sb (Ie.ngd a != Ie.ngd b) 0 = P := ⟨_, rfl⟩
      rw [hP] at SI2
      clear hP
      go_enter Tryz.func7, Tryz.ntmps7
      go_wp2_with (first | (go_at_call 16; first | (with_reducible refine (GA.out _).mono ?_; rintro e w' ⟨rfl, rfl⟩) | (with_reducible refine (GB.out _).mono ?_; rintro e w' ⟨rfl, rfl⟩)) | (go_at_call 12; first | (with_reducible refine (AN.out _).mono ?_; rintro e w' ⟨rfl, rfl⟩)) | (go_at_call 13; first | (with_reducible refine (NC.out _).mono ?_; rintro e w' ⟨rfl, rfl⟩)) | (go_at_call 14; first | (with_reducible refine (IA.out _).mono ?_; rintro e w' ⟨rfl, rfl⟩) | (with_reducible refine (IB.out _).mono ?_; rintro e w' ⟨rfl, rfl⟩) | (with_reducible refine (IC.out _).mono ?_; rintro e w' ⟨rfl, rfl⟩)) | (go_at_call 15; first | (with_reducible refine (SI2.out _).mono ?_; rintro e w' ⟨rfl, rfl⟩)))
      with_reducible refine (ML.out _).mono ?_
      rintro r w1 ⟨p, rfl, hp, hB1⟩
      have pb := Ie.mulR_bd hp
      have A1 := hid (fun wx => AD.out p wx pb.1 pb.2)
      have HP := hid hp
      have B1 := hid hB1
      clear hp pb hB1 ML AD
      go_wp2_with fail
      with_reducible refine (A1.out _).mono ?_
      rintro r w2 ⟨x, rfl, hx, hB2⟩
      have F := hid (K1.out p x w2 HP.out hx (bel B1.out hB2))
      clear hx hB2 A1 K1 HP B1
      go_wp2_with fail
      go_ret
      exact F.out
  · rw [h3] at NC
    have F := hid (FF.out 9221120237041090560 w (by unfold Ie.FmaR; rw [if_pos (.inr (.inr h3))]) BR.out)
    clear FF RA BR ML AD
    go_enter Tryz.func7, Tryz.ntmps7
    go_wp2_with (first | (go_at_call 16; first | (with_reducible refine (GA.out _).mono ?_; rintro e w' ⟨rfl, rfl⟩) | (with_reducible refine (GB.out _).mono ?_; rintro e w' ⟨rfl, rfl⟩)) | (go_at_call 12; first | (with_reducible refine (AN.out _).mono ?_; rintro e w' ⟨rfl, rfl⟩)) | (go_at_call 13; first | (with_reducible refine (NC.out _).mono ?_; rintro e w' ⟨rfl, rfl⟩)) | (go_at_call 14; first | (with_reducible refine (IA.out _).mono ?_; rintro e w' ⟨rfl, rfl⟩) | (with_reducible refine (IB.out _).mono ?_; rintro e w' ⟨rfl, rfl⟩) | (with_reducible refine (IC.out _).mono ?_; rintro e w' ⟨rfl, rfl⟩)) | (go_at_call 15; first | (with_reducible refine (SI2.out _).mono ?_; rintro e w' ⟨rfl, rfl⟩)))
    go_ret
    exact F.out
end Go.Proofs.YtljpmddjcfkonaaGreatDoor

namespace Go.Proofs.YtljpmddjcfkonaaGreatDoor
namespace Ie

def SqrtR (a r : Int) : Prop :=
  if isn a = true then r = 9221120237041090560
  else if isz a = true then r = a
  else if ngd a = true then r = 9221120237041090560
  else if isi a = true then r = a
  else RootIs (un (ab a) * 2 ^ 1076) r

theorem isi_pos {a : Int} (a0 : 0 ≤ a) (hn : ngd a = false) (hi : isi a = true) : a = 9218868437227405312 := by
  have h1 : ¬ 9223372036854775808 ≤ a := of_decide_eq_false hn
  have h2 : a % 9223372036854775808 = 9218868437227405312 := of_decide_eq_true hi
  omega

theorem SqrtIs.r {a r f : Int} (a0 : 0 ≤ a) (h : SqrtIs a r f) : SqrtR a r := by
  have h0 := h
  unfold SqrtR
  unfold SqrtIs at h
  split
  · rename_i g; rw [if_pos g] at h; exact h.1
  rename_i g1; rw [if_neg g1] at h
  split
  · rename_i g; rw [if_pos (.inl g)] at h; exact h.1
  rename_i g2
  split
  · rename_i g
    rw [if_neg, if_pos g] at h
    · exact h.1
    · rintro (k | k)
      · exact g2 k
      · subst k; exact absurd g (by decide)
  rename_i g3
  have g3' : ngd a = false := by cases c : ngd a; rfl; exact absurd c g3
  split
  · rename_i g
    rw [if_pos (.inr (isi_pos a0 g3' g))] at h
    exact h.1
  rename_i g4
  have fa : fin a := fin_of (by cases c : isn a; rfl; exact absurd c g1) (by cases c : isi a; rfl; exact absurd c g4)
  exact h0.root fa (fun c => g2 (by rw [isz, c]; rfl)) g3'

theorem SqrtR.one {a r r' : Int} (h : SqrtR a r) (k : SqrtR a r') : r = r' := by
  unfold SqrtR at h k
  split at h
  · rename_i g; rw [if_pos g] at k; rw [h, k]
  rename_i g1; rw [if_neg g1] at k
  split at h
  · rename_i g; rw [if_pos g] at k; rw [h, k]
  rename_i g2; rw [if_neg g2] at k
  split at h
  · rename_i g; rw [if_pos g] at k; rw [h, k]
  rename_i g3; rw [if_neg g3] at k
  split at h
  · rename_i g; rw [if_pos g] at k; rw [h, k]
  rename_i g4; rw [if_neg g4] at k
  exact h.one k

theorem root_ex {W : Int} (hlo : 1 < W) (hhi : W < md 9218868437227405311 * md 9218868437227405311) : ∃ x, RootIs W x := by
  have step : ∀ k : Nat, (∃ x, RootIs W x) ∨ (0 < (k : Int) → (k : Int) < 9218868437227405312 → md (k - 1) * md (k - 1) < W ∨ (md (k - 1) * md (k - 1) = W ∧ (k : Int) % 2 = 0)) := by
    intro k
    induction k with
    | zero => exact .inr (fun h => absurd h (by simp))
    | succ k ih =>
      rcases ih with ih | ih
      · exact .inl ih
      · rcases (show (k : Int) = 0 ∨ 0 < (k : Int) by omega) with h0 | h0
        · right
          intro _ _
          rw [show ((k + 1 : Nat) : Int) - 1 = 0 by omega, md_zero]
          left; omega
        · rcases (show (k : Int) < 9218868437227405312 ∨ 9218868437227405312 ≤ (k : Int) by omega) with hk | hk
          · by_cases hu : W < md k * md k ∨ (W = md k * md k ∧ (k : Int) % 2 = 0)
            · exact .inl ⟨k, ⟨h0, hk⟩, ih h0 hk, hu⟩
            · right
              intro _ _
              rw [show ((k + 1 : Nat) : Int) - 1 = k by omega]
              rcases Int.lt_trichotomy (md k * md k) W with g | g | g
              · exact .inl g
              · refine .inr ⟨g, ?_⟩
                have : ¬ (k : Int) % 2 = 0 := fun c => hu (.inr ⟨g.symm, c⟩)
                omega
              · exact absurd (.inl g) hu
          · right
            intro _ h; omega
  rcases step 9218868437227405311 with h | h
  · exact h
  · exact ⟨9218868437227405311, ⟨by decide, by decide⟩, h (by decide) (by decide), .inl hhi⟩

theorem root_room {a : Int} (fa : fin a) (hz : ab a ≠ 0) : 1 < un (ab a) * 2 ^ 1076 ∧ un (ab a) * 2 ^ 1076 < 18014398509481983 * 2 ^ 2045 * (18014398509481983 * 2 ^ 2045) := by
  have up := un_pos (x := ab a) (by have := (ab_bd a).1; omega)
  have um : un (ab a) < 2 ^ 2099 := by
    have h1 := un_lt (ab_bd a).1 fa
    have e1 : man 9218868437227405312 = 4503599627370496 := by decide
    have e2 : ex 9218868437227405312 = 2046 := by decide
    have e3 : un 9218868437227405312 = 2 ^ 2098 := by rw [un, e1, e2, show 2098 = 52 + 2046 by rfl, Nm.two_add]; rfl
    have e4 : (2 : Int) ^ 2099 = 2 * 2 ^ 2098 := Nm.two_succ 2098
    have := Nm.two_pos 2098
    omega
  constructor
  · have h1 : 1 * 2 ^ 1076 ≤ un (ab a) * 2 ^ 1076 := Int.mul_le_mul_of_nonneg_right (by omega) (by have := Nm.two_pos 1076; omega)
    have h2 := Nm.two_mono (show 1 ≤ 1076 by omega)
    have h3 : (2 : Int) ^ 1 = 2 := rfl
    omega
  · have h1 : un (ab a) * 2 ^ 1076 < 2 ^ 2099 * 2 ^ 1076 := Int.mul_lt_mul_of_pos_right um (Nm.two_pos 1076)
    rw [← Nm.two_add] at h1
    have h2 : (2 : Int) ^ 2045 ≤ 18014398509481983 * 2 ^ 2045 := by have := Nm.two_pos 2045; omega
    have h3 := sq_le (show 0 ≤ (2 : Int) ^ 2045 by have := Nm.two_pos 2045; omega) h2
    rw [← Nm.two_add] at h3
    have h4 := Nm.two_mono (show 2099 + 1076 ≤ 2045 + 2045 by omega)
    omega

theorem sqrtR_ex (a : Int) : ∃ r, SqrtR a r := by
  unfold SqrtR
  split
  · exact ⟨_, rfl⟩
  rename_i g1
  split
  · exact ⟨_, rfl⟩
  rename_i g2
  split
  · exact ⟨_, rfl⟩
  split
  · exact ⟨_, rfl⟩
  rename_i g4
  have fa : fin a := fin_of (by cases c : isn a; rfl; exact absurd c g1) (by cases c : isi a; rfl; exact absurd c g4)
  have rr := root_room fa (fun c => g2 (by rw [isz, c]; rfl))
  exact root_ex rr.1 (by rw [md_last]; exact rr.2)

/-- The document's way: the mantissa moved by 120 or 121 bits. -/
theorem yroot_is {a R k x : Int} {d : Nat} (fa : fin a) (hz : ab a ≠ 0) (hd : d = 120 ∨ d = 121) (hk : 2 * k = de a - d) (hI : 0 ≤ R ∧ R * R ≤ dm a * 2 ^ d ∧ dm a * 2 ^ d < (R + 1) * (R + 1)) (hR : Rnd R 1 k (!decide (R * R = dm a * 2 ^ d)) x) : RootIs (un (ab a) * 2 ^ 1076) x := by
  obtain ⟨⟨da0, da1⟩, ⟨ea0, ea1⟩, ga, za⟩ := dec_f a fa
  have dp : 0 < dm a := by omega
  have nb : (2 : Int) ^ 120 ≤ dm a * 2 ^ d := by
    have h1 : 1 * 2 ^ d ≤ dm a * 2 ^ d := Int.mul_le_mul_of_nonneg_right (by omega) (by have := Nm.two_pos d; omega)
    have h2 := Nm.two_mono (show 120 ≤ d by omega)
    omega
  have rb : 1152921504606846976 ≤ R := by
    rcases (show 1152921504606846976 ≤ R ∨ R + 1 ≤ 1152921504606846976 by omega) with g | g
    · exact g
    · exfalso
      have h1 := sq_le (show 0 ≤ R + 1 by have := hI.1; omega) g
      have h2 : (2 : Int) ^ 120 = 1152921504606846976 * 1152921504606846976 := by decide
      have h3 := hI.2.2
      omega
  obtain ⟨ka, hka⟩ : ∃ k : Nat, (k : Int) = de a + 1074 := ⟨(de a + 1074).toNat, by omega⟩
  obtain ⟨c, hc⟩ : ∃ c : Nat, (c : Int) = de a + 2150 - d := ⟨(de a + 2150 - d).toNat, by omega⟩
  have rr := root_room fa hz
  refine root_is (dm a * 2 ^ d) R k x _ _ (by omega) hI.2.1 hI.2.2 (by simp) hR c 0 (by omega) ?_ rr.1 rr.2
  rw [← ga ka hka, Int.pow_zero, Int.mul_one, Int.mul_assoc, Int.mul_assoc, ← Nm.two_add, ← Nm.two_add, show d + c = ka + 1076 by omega]
end Ie
end Go.Proofs.YtljpmddjcfkonaaGreatDoor

namespace Go.Proofs.YtljpmddjcfkonaaGreatDoor
namespace Rn

/-- The root R of what has been brought down, and what is left of it. -/
def Inv (P R S : Int) : Prop := 0 ≤ R ∧ 0 ≤ S ∧ R * R + S = P ∧ S ≤ 2 * R

theorem step_one {P R S pr : Int} (h : Inv P R S) (p1 : pr ≤ 3) (hge : 4 * R + 1 ≤ 4 * S + pr) : Inv (4 * P + pr) (2 * R + 1) (4 * S + pr - (4 * R + 1)) := by
  obtain ⟨h1, h2, h3, h4⟩ := h
  refine ⟨by omega, by omega, ?_, by omega⟩
  have e : (2 * R + 1) * (2 * R + 1) = 4 * (R * R) + 4 * R + 1 := by
    rw [Int.add_mul, Int.mul_add, Int.one_mul, Int.mul_one, Int.mul_assoc, Int.mul_left_comm R]
    omega
  rw [e]
  omega

theorem step_zero {P R S pr : Int} (h : Inv P R S) (p0 : 0 ≤ pr) (hlt : 4 * S + pr < 4 * R + 1) : Inv (4 * P + pr) (2 * R) (4 * S + pr) := by
  obtain ⟨h1, h2, h3, h4⟩ := h
  refine ⟨by omega, by omega, ?_, by omega⟩
  have e : (2 * R) * (2 * R) = 4 * (R * R) := by
    rw [Int.mul_assoc, Int.mul_left_comm R]
    omega
  rw [e]
  omega

theorem four (t : Nat) : (4 : Int) ^ t = 2 ^ (2 * t) := by rw [Int.pow_mul]; rfl

theorem down (A : Int) (t : Nat) : A / 4 ^ t = 4 * (A / 4 ^ (t + 1)) + A / 4 ^ t % 4 := by
  have : A / 4 ^ (t + 1) = A / 4 ^ t / 4 := by
    rw [Int.pow_succ, Int.ediv_ediv_of_nonneg (Int.le_of_lt (Int.pow_pos (by omega)))]
  omega

/-- The pair of binary digits t of a number, in its limb. -/
theorem pair_at (zs : List Int) (t k e sh : Nat) (ht : t = 32 * k + e) (he : e < 32) (hsh : sh = 2 * e) (hz : Nm.Limbs zs) (hk : k < zs.length) : Nm.val zs / 4 ^ t % 4 = zs.getD k 0 / 2 ^ sh % 4 := by
  have h1 := Nm.val_drop zs k (by omega)
  have h2 := Nm.val_bd _ (hz.take k)
  rw [List.length_take, Nat.min_eq_left (by omega)] at h2
  have e1 : (4 : Int) ^ t = Nm.pw k * 2 ^ sh := by
    rw [four, Nm.pw_two, ← Nm.two_add]
    congr 1
    omega
  have hp := Nm.pw_pos k
  have e2 : Nm.val zs / Nm.pw k = Nm.val (zs.drop k) := by
    rw [h1, Int.add_mul_ediv_left _ _ (by omega), Int.ediv_eq_zero_of_lt h2.1 h2.2, Int.zero_add]
  rw [e1, ← Int.ediv_ediv_of_nonneg (Int.le_of_lt hp), e2]
  obtain ⟨z, r, hzr⟩ : ∃ z r, zs.drop k = z :: r := ⟨_, _, List.drop_eq_getElem_cons hk⟩
  have e3 : zs.getD k 0 = z := by
    have : (zs.drop k).getD 0 0 = z := by rw [hzr]; rfl
    rw [← this]
    simp [List.getD, List.getElem?_drop]
  rw [hzr, e3]
  show (z + 18446744073709551616 * Nm.val r) / 2 ^ sh % 4 = _
  have e4 : (18446744073709551616 : Int) = 2 ^ sh * (4 * 2 ^ (62 - sh)) := by
    rw [show (4 : Int) = 2 ^ 2 from rfl, ← Nm.two_add, ← Nm.two_add, show sh + (2 + (62 - sh)) = 64 by omega, Nm.two_64]
  rw [e4, Int.mul_assoc, Int.add_mul_ediv_left _ _ (by have := Nm.two_pos sh; omega), Int.mul_assoc]
  omega

theorem start (A : Int) (n : Nat) (h0 : 0 ≤ A) (h : A < Nm.pw n) : A / 4 ^ (32 * n) = 0 := by
  have e : (4 : Int) ^ (32 * n) = Nm.pw n := by rw [four, Nm.pw_two]; congr 1; omega
  rw [e]
  exact Int.ediv_eq_zero_of_lt h0 h

/-- There is but one whole root. -/
theorem unique {A R R' : Int} (h0 : 0 ≤ R) (h1 : R * R ≤ A) (h2 : A < (R + 1) * (R + 1)) (k0 : 0 ≤ R') (k1 : R' * R' ≤ A) (k2 : A < (R' + 1) * (R' + 1)) : R = R' := by
  rcases (show R = R' ∨ R + 1 ≤ R' ∨ R' + 1 ≤ R by omega) with h | h | h
  · exact h
  · exfalso
    have : (R + 1) * (R + 1) ≤ R' * R' := Int.mul_le_mul h h (by omega) (by omega)
    omega
  · exfalso
    have : (R' + 1) * (R' + 1) ≤ R * R := Int.mul_le_mul h h (by omega) (by omega)
    omega

theorem Inv.root {A R S : Int} (h : Inv A R S) : 0 ≤ R ∧ R * R ≤ A ∧ A < (R + 1) * (R + 1) := by
  obtain ⟨h1, h2, h3, h4⟩ := h
  refine ⟨h1, by omega, ?_⟩
  have e : (R + 1) * (R + 1) = R * R + 2 * R + 1 := by rw [Int.add_mul, Int.mul_add, Int.one_mul, Int.mul_one]; omega
  omega
end Rn
end Go.Proofs.YtljpmddjcfkonaaGreatDoor

namespace Go.Proofs.YtljpmddjcfkonaaGreatDoor
open Go.RowKit Go.Deep

/-- An append whose run is known. -/
theorem wpList_append_r {ty : TypeId} {ops : Array Oper} {rest : List Oper} {o : Oper} {a : Act} {Q : Exit → Act → World → Prop} (hgd : o.guard = none) (s x : Operand)
    (ho : o.op = .call { callee := .builtin .append, args := #[s, x], argTypes := #[ty, ty] }) {v y v' : Value} {w w' : World} (hr : (Builtin.append_ #[ty, ty] o.type #[v, y]).run Tryz.prog w = .ok v' w') (hs : a.eval s = v) (hx : a.eval x = y)
    (h : wpList Tryz.prog ops Q rest (a.put o.dst v') w') : wpList Tryz.prog ops Q (o :: rest) a w := by
  refine wpList_plain hgd fun K hK => ?_
  unfold Oper.wp execOp
  simp only [ho, resolve, invoke, builtin, Sem.run_bind, Sem.run_pure, Result.andThen_ok, List.map_toArray, List.map_cons, List.map_nil, hs, hx, hr]
  exact hK _ _ h

/-- A trimmed list that fills a block of its own. -/
structure Tri (w : World) (g : Nat) (us : List Int) (v : Int) : Prop where
  own : Own w g us
  lim : Nm.Limbs us
  ts : Nm.tsize us = us.length
  val : Nm.val us = v

theorem Tri.below {w w' : World} {g : Nat} {us : List Int} {v : Int} (h : Tri w g us v) (hb : Below w.heap.size w w') : Tri w' g us v := ⟨h.own.below hb h.own.lt, h.lim, h.ts, h.val⟩

theorem Tri.ans {w : World} {g B : Nat} {us : List Int} {v : Int} (h : Tri w g us v) (hB : B ≤ g) : Ans B w (some ⟨g, 0, none⟩) us v := ⟨h.own.lies, h.lim, h.ts, h.val, fun a ha => by cases ha; exact hB⟩

theorem Tri.arg {w : World} {g : Nat} {us : List Int} {v : Int} (h : Tri w g us v) (hs : us.length ≤ 17592186044416) : Arg w (some ⟨g, 0, none⟩) us.length us.length us := ⟨rfl, Nat.le_refl _, hs, h.own.lies, h.lim⟩

theorem short_tri (p : Option Addr) (n cap : Nat) (zs : List Int) (w : World) (hn : zs.length = n) (hm : n ≤ 17592186044416) (h : Lies w p zs) (hz : Nm.Limbs zs) (v : Int) (hv : Nm.val zs = v) :
    Calls Tryz.prog 48 #[.slice p n cap] w fun e w' => ∃ g us, e = .returned (.slice (some ⟨g, 0, none⟩) (List.length us) (List.length us)) ∧ Hid (Tri w' g us v ∧ w.heap.size ≤ g ∧ Below w.heap.size w w') := by
  refine (short_any p n cap zs _ w hn hm h rfl).mono ?_
  rintro e w' ⟨rfl, o, d⟩
  exact ⟨w.heap.size, Nm.trim zs, by rw [Nm.trim_length], ⟨o, hz.trim, by rw [Nm.trim_trim, Nm.trim_length], by rw [Nm.val_trim, hv]⟩, Nat.le_refl _, d⟩

/-- doubled, its block under a name. -/
theorem doubled_some (p : Option Addr) (n cap : Nat) (zs : List Int) (bit : Int) (w : World) (hn : zs.length = n) (hm : n ≤ 17592186044416) (h : Lies w p zs) (hz : Nm.Limbs zs) (b0 : 0 ≤ bit) (b1 : bit ≤ 1) (v : Int) (hv : 2 * Nm.val zs + bit = v) :
    Calls Tryz.prog 49 #[.slice p n cap, .int .u64 bit] w fun e w' => ∃ g os, e = .returned (.slice (some ⟨g, 0, none⟩) (n + 1) (n + 1)) ∧ Hid (Lies w' (some ⟨g, 0, none⟩) os ∧ os.length = n + 1 ∧ Nm.Limbs os ∧ Nm.val os = v ∧ Below w.heap.size w w') := by
  refine (doubled_any p n cap zs bit w hn hm h hz b0 b1).mono ?_
  rintro e w' ⟨os, rfl, K⟩
  obtain ⟨k1, k2, k3, k4, k5⟩ := K.out
  exact ⟨_, os, rfl, k1.lies, k2, k3, by rw [k4, hv], k5⟩

theorem len_of {B : Nat} {w : World} {p : Option Addr} {ys : List Int} {n : Int} (h : Ans B w p ys n) {k : Nat} (hn : n < Nm.pw k) : ys.length ≤ k := by
  rw [← h.2.2.1]
  exact (Nm.tsize_le_iff h.2.1 k).2 (by rw [h.2.2.2.1]; exact hn)

theorem Tri.len {w : World} {g : Nat} {us : List Int} {v : Int} (h : Tri w g us v) {k : Nat} (hn : v < Nm.pw k) : us.length ≤ k := by
  rw [← h.ts]
  exact (Nm.tsize_le_iff h.lim k).2 (by rw [h.val]; exact hn)

theorem Tri.long {w : World} {g g' : Nat} {us ts : List Int} {v v' : Int} (h : Tri w g us v) (k : Tri w g' ts v') (hle : v' ≤ v) : ts.length ≤ us.length := by
  rw [← h.ts, ← k.ts]
  refine (Nm.tsize_le_iff k.lim _).2 ?_
  have := Nm.val_lt_tsize h.lim
  rw [h.val] at this
  rw [k.val]
  omega

theorem Tri.near {w : World} {g g' : Nat} {us ts : List Int} {v v' : Int} (h : Tri w g us v) (k : Tri w g' ts v') (hlt : v < 18446744073709551616 * v') : us.length ≤ ts.length + 1 := by
  rw [← h.ts, ← k.ts]
  refine (Nm.tsize_le_iff h.lim _).2 ?_
  have := Nm.val_lt_tsize k.lim
  rw [k.val] at this
  rw [h.val, Nm.pw_succ]
  omega

theorem rroot_big (p : Option Addr) (n cap : Nat) (za : List Int) (w : World) (ha : Arg w p n cap za) (tz : 256 < Nm.tsize za) :
    Calls Tryz.prog 24 #[.slice p n cap] w fun e w' => e = .returned (.tuple #[.slice none 0 0, .bool false, .int .i64 2]) ∧ w' = w := by
  have hn := ha.2.1
  have hn' := ha.2.2.1
  have h1' : (256 : Int) < (Nm.tsize za : Int) := by omega
  have HL := hid (top_any p n cap za w ha.1 (by omega) ha.2.2.2.1)
  clear ha tz
  go_enter Tryz.func24, Tryz.ntmps24
  go_wp2_with fail
  refine HL.out.mono ?_
  rintro e w' ⟨rfl, rfl⟩
  go_wp2_with fail
  go_ret3
  exact ⟨rfl, rfl⟩

theorem and3 (x : Int) (h0 : 0 ≤ x) (h1 : x < 18446744073709551616) : bits .and .u64 x 3 = x % 4 := by
  obtain ⟨n, rfl⟩ := Int.eq_ofNat_of_zero_le h0
  have h := bits_and_u64_nat n 3 (by omega) (by omega)
  have e : n &&& 3 = n % 4 := Nat.and_two_pow_sub_one_eq_mod n 2
  rw [e] at h
  rw [show (3 : Int) = ((3 : Nat) : Int) from rfl, h]
  omega

theorem and1 (x : Int) (h0 : 0 ≤ x) (h1 : x < 18446744073709551616) : bits .and .u64 x 1 = x % 2 := by
  obtain ⟨n, rfl⟩ := Int.eq_ofNat_of_zero_le h0
  have h := bits_and_u64_nat n 1 (by omega) (by omega)
  have e : n &&& 1 = n % 2 := Nat.and_two_pow_sub_one_eq_mod n 1
  rw [e] at h
  rw [show (1 : Int) = ((1 : Nat) : Int) from rfl, h]
  omega

/-- How long the lists may be. -/
theorem rn_room {A R S : Int} {j : Nat} (h : Rn.Inv (A / 4 ^ j) R S) (hA0 : 0 ≤ A) (hA : A < Nm.pw 256) : R < Nm.pw 256 ∧ S < Nm.pw 257 ∧ 4 * S + 3 < Nm.pw 258 ∧ 4 * R + 1 < Nm.pw 257 := by
  obtain ⟨h1, h2, h3, h4⟩ := h
  have h5 : A / 4 ^ j ≤ A := Int.ediv_le_self _ hA0
  have h6 : R ≤ R * R := by
    rcases (show R = 0 ∨ 1 ≤ R by omega) with h | h
    · subst h; omega
    · have : R * 1 ≤ R * R := Int.mul_le_mul_of_nonneg_left h h1
      omega
  have e1 := Nm.pw_succ 256
  have e2 := Nm.pw_succ 257
  have e3 := Nm.pw_pos 256
  rw [show (256 + 1 : Nat) = 257 from rfl] at e1
  rw [show (257 + 1 : Nat) = 258 from rfl] at e2
  generalize Nm.pw 258 = x at *
  generalize Nm.pw 257 = y at *
  generalize Nm.pw 256 = z at *
  omega

theorem ret_root2 {t : Option Addr} {k : Nat} {b c : Bool} {e : Int} (h : b = c) : Ending.returned (.tuple #[.slice t k k, .bool b, .int .i64 e]) = .returned (.tuple #[.slice t k k, .bool c, .int .i64 e]) := by rw [h]

set_option maxRecDepth 100000 in
set_option maxHeartbeats 8000000 in
theorem rroot_ok (p : Option Addr) (n cap : Nat) (za : List Int) (A : Int) (w : World) (ha : Arg w p n cap za) (tz : Nm.tsize za ≤ 256) (hA : Nm.val za = A) :
    Calls Tryz.prog 24 #[.slice p n cap] w fun e w' => ∃ t os R, e = .returned (.tuple #[.slice t (List.length os) (List.length os), .bool (decide (R * R = A)), .int .i64 0]) ∧ Ans w.heap.size w' t os R ∧ Hid (0 ≤ R ∧ R * R ≤ A ∧ A < (R + 1) * (R + 1)) ∧ Below w.heap.size w w' := by
  have hn := ha.2.1
  have hn' := ha.2.2.1
  have htl := ha.tl
  obtain ⟨N, HN⟩ : ∃ N, Hid (Nm.tsize za = N) := ⟨_, rfl⟩
  have T := top_any p n cap za w ha.1 (by omega) ha.2.2.2.1
  rw [HN.out] at T htl
  have HT := hid T
  have hN : (N : Int) ≤ 256 := by have := HN.out; omega
  have A0 := (Nm.val_bd za ha.2.2.2.2).1
  have A1 := Nm.val_lt_tsize ha.2.2.2.2
  have A2 : A < Nm.pw 256 := by rw [← hA]; exact (Nm.tsize_le_iff ha.2.2.2.2 256).1 tz
  rw [hA] at A0
  rw [hA, HN.out] at A1
  have ST := hid (Rn.start A N A0 A1)
  have HA := hid ha
  have HV := hid hA
  have HA0 := hid A0
  have HA2 := hid A2
  clear ha hA tz T A1 A2 A0
  go_enter Tryz.func24, Tryz.ntmps24
  go_wp2_with fail
  refine HT.out.mono ?_
  rintro e w' ⟨rfl, rfl⟩
  go_wp2_with fail
  go_loopg [6, 7, 8] (32 * N) (fun j a c i wr => ∃ (r : Option Addr) (os : List Int) (s : Option Addr) (us : List Int) (R S : Int), a = .slice r (List.length os) (List.length os) ∧ c = .slice s (List.length us) (List.length us) ∧ i = .int .i64 ((j : Int) - 1) ∧ j ≤ 32 * N ∧ Hid (Ans w'.heap.size wr r os R) ∧ Hid (Ans w'.heap.size wr s us S) ∧ Hid (Rn.Inv (A / 4 ^ j) R S) ∧ Hid (Below w'.heap.size w' wr))
  case atStart => exact ⟨none, [], none, [], 0, 0, rfl, rfl, by go_num, Nat.le_refl _, ans_none _ _ _ (fun a h => by cases h), ans_none _ _ _ (fun a h => by cases h), by show Rn.Inv _ _ _; rw [ST.out]; exact ⟨by omega, by omega, by omega, by omega⟩, Below.refl _ _⟩
  case round =>
    obtain ⟨r, os, s, us, R, S, rfl, rfl, rfl, hj, HO, HU, RI, D⟩ := hrel
    cases gk with
    | zero =>
      have F : Hid ((decide (S = 0) = decide (R * R = A)) ∧ (0 ≤ R ∧ R * R ≤ A ∧ A < (R + 1) * (R + 1))) := by
        have h := RI.out
        rw [Int.pow_zero, Int.ediv_one] at h
        refine ⟨?_, h.root⟩
        have h3 := h.2.2.1
        by_cases hs : S = 0
        · simp [hs]; omega
        · simp [hs]; omega
      have hus : Hid (us.length ≤ 257) := len_of HU.out (rn_room RI.out HA0.out HA2.out).2.1
      have hSZ : Hid (decide (((Nm.tsize us : Int)) = 0) = decide (S = 0)) := by
        have h1 := Nm.tsize_zero_iff HU.out.2.1
        rw [HU.out.2.2.2.1] at h1
        by_cases hs : S = 0
        · simp [Hid, hs, h1.2 hs]
        · have : Nm.tsize us ≠ 0 := fun h => hs (h1.1 h)
          simp [Hid, hs]; omega
      go_wp2_with fail
      refine (top_any s _ _ us _ rfl (by have := hus.out; omega) HU.out.1).mono ?_
      rintro e w2 ⟨rfl, rfl⟩
      go_wp2_with fail
      go_ret3
      exact ⟨r, os, R, ret_root2 (by rw [← F.out.1, ← hSZ.out, Bool.eq_iff_iff]; simp), HO.out, F.out.2, D.out⟩
    | succ t =>
      rw [show ((t + 1 : Nat) : Int) - 1 = (t : Int) by omega]
      have HAr := hid (HA.out.below D.out (Nat.le_refl _))
      obtain ⟨b, off, hp, hbw, HC⟩ := HAr.out.2.2.2.1.at (by have := HAr.out.1; omega)
      subst hp
      obtain ⟨k, hk⟩ : ∃ k, t / 32 = k := ⟨_, rfl⟩
      obtain ⟨e, he⟩ : ∃ e, t % 32 = e := ⟨_, rfl⟩
      obtain ⟨sh, hsh⟩ : ∃ sh, 2 * e = sh := ⟨_, rfl⟩
      have hkn : k < n := by omega
      obtain ⟨x, hx, X⟩ : ∃ x, wr.cell? ⟨b, off + k, none⟩ = some (.int .u64 x) ∧ Hid (x = za.getD k 0) := ⟨_, HC.out k (by have := HAr.out.1; omega), rfl⟩
      have hx0 := HA.out.2.2.2.2.at k
      rw [← X.out] at hx0
      have hy0 : 0 ≤ x / 2 ^ sh := Int.ediv_nonneg hx0.1 (Int.le_of_lt (Nm.two_pos sh))
      have hy1 : x / 2 ^ sh ≤ x := Int.ediv_le_self _ hx0.1
      obtain ⟨y, q4⟩ : ∃ y, x / 2 ^ sh = y := ⟨_, rfl⟩
      rw [q4] at hy0 hy1
      have q5 := and3 y hy0 (by omega)
      obtain ⟨pr, hpr⟩ : ∃ pr, y % 4 = pr := ⟨_, rfl⟩
      rw [hpr] at q5
      have pr0 : 0 ≤ pr := by omega
      have pr1 : pr ≤ 3 := by omega
      have q6 := and1 pr pr0 (by omega)
      obtain ⟨pb, hpb⟩ : ∃ pb, pr % 2 = pb := ⟨_, rfl⟩
      rw [hpb] at q6
      have pb0 : 0 ≤ pb := by omega
      have pb1 : pb ≤ 1 := by omega
      have q1 : (t : Int) / 32 = (k : Int) := by omega
      have q1t : (t : Int).tdiv 32 = (k : Int) := by rw [Int.tdiv_eq_ediv_of_nonneg (by omega)]; exact q1
      have q2 : (t : Int) % 32 = (e : Int) := by omega
      have q2t : (t : Int).tmod 32 = (e : Int) := by rw [Int.tmod_eq_emod_of_nonneg (by omega)]; exact q2
      have q3 : 2 * (e : Int) = (sh : Int) := by omega
      have PR : Hid (A / 4 ^ t = 4 * (A / 4 ^ (t + 1)) + pr) := by
        show _ = _
        have h1 := Rn.pair_at za t k e sh (by omega) (by omega) hsh.symm HA.out.2.2.2.2 (by have := HA.out.1; omega)
        rw [HV.out, ← X.out, q4, hpr] at h1
        have h2 := Rn.down A t
        omega
      have PB : Hid (2 * (pr / 2) + pb = pr) := by show _ = _; omega
      have hsh62 : (sh : Int) ≤ 62 := by omega
      have hkn' : (k : Int) < (n : Int) := by omega
      have RO := hid (rn_room RI.out HA0.out HA2.out)
      have lus : us.length ≤ 257 := len_of HU.out RO.out.2.1
      have los : os.length ≤ 256 := len_of HO.out RO.out.1
      obtain ⟨hx0, hx1⟩ := hx0
      clear hk he hsh hpr hpb HC HAr
      go_wp2_with fail
      refine (doubled_some s _ _ us (pr / 2) _ rfl (by omega) HU.out.1 HU.out.2.1 (by omega) (by omega) (2 * S + pr / 2) (by rw [HU.out.2.2.2.1])).mono ?_
      rintro e1 w1 ⟨g1, l1, rfl, K1⟩
      have D1 := hid (chain D.out K1.out.2.2.2.2 (Nat.le_refl _))
      have HO1 := hid (HO.out.below K1.out.2.2.2.2 (Nat.le_refl _))
      clear q1 q1t q2 q2t q3 q4 q5 hx HO HU D
      go_wp2_with fail
      refine (doubled_some (some ⟨g1, 0, none⟩) _ _ l1 pb _ K1.out.2.1 (by omega) K1.out.1 K1.out.2.2.1 pb0 pb1 (4 * S + pr) (by rw [K1.out.2.2.2.1]; have := PB.out; omega)).mono ?_
      rintro e2 w2 ⟨g2, l2, rfl, K2⟩
      have D2 := hid (chain D1.out K2.out.2.2.2.2 (Nat.le_refl _))
      have HO2 := hid (HO1.out.below K2.out.2.2.2.2 (Nat.le_refl _))
      clear q6 K1 HO1 D1
      go_wp2_with fail
      refine (short_tri (some ⟨g2, 0, none⟩) _ _ l2 _ K2.out.2.1 (by omega) K2.out.1 K2.out.2.2.1 (4 * S + pr) K2.out.2.2.2.1).mono ?_
      rintro e3 w3 ⟨g3, vs, rfl, K3⟩
      have D3 := hid (chain D2.out K3.out.2.2 (Nat.le_refl _))
      have HO3 := hid (HO2.out.below K3.out.2.2 (Nat.le_refl _))
      have TR := hid K3.out.1
      have hg3 : Hid (w'.heap.size ≤ g3) := Nat.le_trans D2.out.size K3.out.2.1
      have hw23 : Hid (w2.heap.size ≤ g3) := K3.out.2.1
      have hrs : Hid (∀ a, r = some a → 0 < os.length → a.block < g3) := fun a h h0 => Nat.lt_of_lt_of_le (HO2.out.1.lt h0 a h) hw23.out
      clear K2 K3 HO2 D2
      go_wp2_with fail
      refine (doubled_some r _ _ os 0 _ rfl (by omega) HO3.out.1 HO3.out.2.1 (by omega) (by omega) (2 * R) (by rw [HO3.out.2.2.2.1]; omega)).mono ?_
      rintro e4 w4 ⟨g4, l4, rfl, K4⟩
      have D4 := hid (chain D3.out K4.out.2.2.2.2 (Nat.le_refl _))
      have HO4 := hid (HO3.out.below K4.out.2.2.2.2 (Nat.le_refl _))
      have TR4 := hid (TR.out.below K4.out.2.2.2.2)
      clear HO3 D3 TR
      go_wp2_with fail
      refine (doubled_some (some ⟨g4, 0, none⟩) _ _ l4 1 _ K4.out.2.1 (by omega) K4.out.1 K4.out.2.2.1 (by omega) (by omega) (4 * R + 1) (by rw [K4.out.2.2.2.1]; omega)).mono ?_
      rintro e5 w5 ⟨g5, l5, rfl, K5⟩
      have D5 := hid (chain D4.out K5.out.2.2.2.2 (Nat.le_refl _))
      have HO5 := hid (HO4.out.below K5.out.2.2.2.2 (Nat.le_refl _))
      have TR5 := hid (TR4.out.below K5.out.2.2.2.2)
      clear K4 HO4 D4 TR4
      go_wp2_with fail
      refine (short_tri (some ⟨g5, 0, none⟩) _ _ l5 _ K5.out.2.1 (by omega) K5.out.1 K5.out.2.2.1 (4 * R + 1) K5.out.2.2.2.1).mono ?_
      rintro e6 w6 ⟨g6, ts, rfl, K6⟩
      have D6 := hid (chain D5.out K6.out.2.2 (Nat.le_refl _))
      have HO6 := hid (HO5.out.below K6.out.2.2 (Nat.le_refl _))
      have TR6 := hid (TR5.out.below K6.out.2.2)
      have TT6 := hid K6.out.1
      have hg36 : g3 ≠ g6 := by have := TR5.out.own.lt; have := K6.out.2.1; omega
      clear K5 K6 HO5 D5 TR5
      have lvs : vs.length ≤ 258 := TR6.out.len (by have := RO.out.2.2.1; omega)
      have lts : ts.length ≤ 257 := TT6.out.len RO.out.2.2.2
      obtain ⟨c, HCC⟩ : ∃ c, Hid (cmpI (4 * S + pr) (4 * R + 1) = c) := ⟨_, rfl⟩
      go_wp2_with fail
      refine (order_is c _ _ _ _ _ _ vs ts _ (TR6.out.arg (by omega)) (TT6.out.arg (by omega)) (by rw [TR6.out.val, TT6.out.val]; exact HCC.out)).mono ?_
      rintro e7 w7 ⟨rfl, d7⟩
      have D7 := hid (chain D6.out d7 (Nat.le_refl _))
      have HO7 := hid (HO6.out.below d7 (Nat.le_refl _))
      have TR7 := hid (TR6.out.below d7)
      have TT7 := hid (TT6.out.below d7)
      clear d7 HO6 D6 TR6 TT6
      by_cases hge : 4 * R + 1 ≤ 4 * S + pr
      · have hc0 : 0 ≤ c := by
          rw [← HCC.out]
          rcases (show 4 * S + pr = 4 * R + 1 ∨ 4 * R + 1 < 4 * S + pr by omega) with h | h
          · rw [cmpI_eq h]; omega
          · rw [cmpI_gt h]; omega
        have RI2 := hid (Rn.step_one RI.out pr1 hge)
        rw [← PR.out] at RI2
        have hlong := TR7.out.long TT7.out hge
        have hnear := TR7.out.near TT7.out (by have := RI.out; obtain ⟨i1, i2, i3, i4⟩ := this; omega)
        have hvs0 : 0 < vs.length := by
          have h1 := TR7.out.ts
          have h2 := Nm.tsize_zero_iff TR7.out.lim
          rw [TR7.out.val] at h2
          have := RI.out.1
          omega
        have HGE := hid hge
        clear hge
        have rest_of_round : ∀ (w8 : World) (g8 cap8 M : Nat) (ms : List Int), Below w7.heap.size w7 w8 → Lies w8 (some ⟨g8, 0, none⟩) ms → ms.length = vs.length → Nm.Limbs ms → Nm.val ms = 4 * R + 1 → g8 ≠ g3 → M = vs.length →
            Calls Tryz.prog 51 #[.slice (some ⟨g3, 0, none⟩) vs.length vs.length, .int .i64 0, .slice (some ⟨g8, 0, none⟩) M cap8] w8 fun e w9 => ∃ os9, e = .returned (.tuple #[]) ∧ Hid (Own w9 g3 os9 ∧ os9.length = vs.length ∧ Nm.Limbs os9 ∧ Nm.val os9 = 4 * S + pr - (4 * R + 1) ∧ Below w'.heap.size w' w9 ∧ Ans w'.heap.size w9 r os R) := by
          intro w8 g8 cap8 M ms d8 m1 m2 m3 m4 hg8 hM
          subst hM
          have o8 := TR7.out.below d8
          refine (takeOff_any g3 vs.length vs.length vs.length vs.length cap8 0 vs (some ⟨g8, 0, none⟩) ms 0 w8 o8.own rfl (Nat.le_refl _) (by omega) m2 hvs0 (by omega) o8.lim m1 m3 (fun a h => by cases h; exact hg8) rfl (by rw [m4, o8.val]; simp only [Nm.pw, Int.one_mul]; exact HGE.out) (by rw [Nat.zero_add]; exact (Nm.val_bd vs o8.lim).2)).mono ?_
          rintro e w9 ⟨os9, rfl, P⟩
          obtain ⟨p1, p2, p3, p4, p5, p6, p7⟩ := P.out
          rw [o8.val, m4] at p4
          simp only [Nm.pw, Int.one_mul] at p4
          have c8 := chain D7.out d8 (Nat.le_refl _)
          refine ⟨os9, rfl, p1, p2, p3, p4, c8.trans (p5.mono hg3.out), ?_⟩
          have a8 := HO7.out.below d8 (Nat.le_refl _)
          rcases Nat.eq_zero_or_pos os.length with h0 | h0
          · have : os = [] := List.eq_nil_of_length_eq_zero h0
            exact ⟨by rw [this]; exact Lies.nil _ _, a8.2⟩
          · exact ⟨a8.1.low p5 (fun a h => hrs.out a h h0), a8.2⟩
        have RR := hid rest_of_round
        clear rest_of_round
        rcases (show ts.length = vs.length ∨ vs.length = ts.length + 1 by omega) with hEq | hEq
        · have hnl : ¬ (ts.length : Int) < (vs.length : Int) := by omega
          have TO := hid (RR.out w7 g6 ts.length ts.length ts (Below.refl _ _) TT7.out.own.lies hEq TT7.out.lim TT7.out.val (fun h => hg36 h.symm) hEq)
          have HEQ := hid hEq
          clear hEq
          go_wp2_with fail
          refine wp_loop_rounds 1 ?_
          rw [rounds_succ]
          go_wp2_with fail
          refine TO.out.mono ?_
          rintro e9 w9 ⟨os9, rfl, P⟩
          clear TO
          go_wp2_with fail
          refine (short_tri (some ⟨g3, 0, none⟩) vs.length vs.length os9 _ P.out.2.1 (by omega) P.out.1.lies P.out.2.2.1 (4 * S + pr - (4 * R + 1)) P.out.2.2.2.1).mono ?_
          rintro e10 w10 ⟨g10, xs, rfl, K10⟩
          have D10 := hid (chain P.out.2.2.2.2.1 K10.out.2.2 (Nat.le_refl _))
          have HO10 := hid (P.out.2.2.2.2.2.below K10.out.2.2 (Nat.le_refl _))
          have TX := hid K10.out.1
          have hg10 : Hid (w'.heap.size ≤ g10) := Nat.le_trans P.out.2.2.2.2.1.size K10.out.2.1
          clear P K10
          go_wp2_with fail
          refine (doubled_some r _ _ os 1 _ rfl (by omega) HO10.out.1 HO10.out.2.1 (by omega) (by omega) (2 * R + 1) (by rw [HO10.out.2.2.2.1])).mono ?_
          rintro e11 w11 ⟨g11, l11, rfl, K11⟩
          have D11 := hid (chain D10.out K11.out.2.2.2.2 (Nat.le_refl _))
          have TX11 := hid (TX.out.below K11.out.2.2.2.2)
          clear HO10 TX D10
          go_wp2_with fail
          refine (short_tri (some ⟨g11, 0, none⟩) _ _ l11 _ K11.out.2.1 (by omega) K11.out.1 K11.out.2.2.1 (2 * R + 1) K11.out.2.2.2.1).mono ?_
          rintro e12 w12 ⟨g12, rs, rfl, K12⟩
          have D12 := hid (chain D11.out K12.out.2.2 (Nat.le_refl _))
          have TX12 := hid ((TX11.out.below K12.out.2.2).ans (B := w'.heap.size) hg10.out)
          have TS12 := hid (K12.out.1.ans (B := w'.heap.size) (Nat.le_trans D11.out.size K12.out.2.1))
          clear K11 K12 D11 TX11 RR
          go_wp2_with fail
          go_roundg t
          case measure => omega
          case rel => exact ⟨_, rs, _, xs, 2 * R + 1, 4 * S + pr - (4 * R + 1), rfl, rfl, by go_num, by omega, TS12.out, TX12.out, RI2.out, D12.out⟩
        · have hnl : (ts.length : Int) < (vs.length : Int) := by omega
          have hnl2 : ¬ ((ts.length : Int) + 1) < (vs.length : Int) := by omega
          obtain ⟨c8, w8, ap, hc8, o8, d8⟩ := grow64 g6 ts.length ts 0 w7 rfl (by omega) TT7.out.own
          have AP := hid ap
          have hl8 : Lies w8 (some ⟨w7.heap.size + 1, 0, none⟩) (ts ++ [0]) := by
            have h := o8.lies.take (ts ++ [0]).length
            rw [List.take_left'] at h
            · exact h
            · rfl
          have TO := hid (RR.out w8 (w7.heap.size + 1) c8 (ts.length + 1) (ts ++ [0]) d8 hl8 (by simp; omega) (TT7.out.lim.append (limb_one (by omega))) (by rw [Nm.val_append, TT7.out.val]; simp [Nm.val]) (by have := TR7.out.own.lt; omega) hEq.symm)
          have HEQ := hid hEq
          clear hEq ap o8 d8 hl8 hc8
          go_wp2_with fail
          refine wp_loop_rounds 2 ?_
          rw [rounds_succ]
          go_wp2_with (at_builtin; refine wpList_append_r rfl _ _ rfl AP.out (by rfl) (by rfl) ?_; clear AP)
          rw [rounds_succ]
          go_wp2_with fail
          refine TO.out.mono ?_
          rintro e9 w9 ⟨os9, rfl, P⟩
          clear TO
          go_wp2_with fail
          refine (short_tri (some ⟨g3, 0, none⟩) vs.length vs.length os9 _ P.out.2.1 (by omega) P.out.1.lies P.out.2.2.1 (4 * S + pr - (4 * R + 1)) P.out.2.2.2.1).mono ?_
          rintro e10 w10 ⟨g10, xs, rfl, K10⟩
          have D10 := hid (chain P.out.2.2.2.2.1 K10.out.2.2 (Nat.le_refl _))
          have HO10 := hid (P.out.2.2.2.2.2.below K10.out.2.2 (Nat.le_refl _))
          have TX := hid K10.out.1
          have hg10 : Hid (w'.heap.size ≤ g10) := Nat.le_trans P.out.2.2.2.2.1.size K10.out.2.1
          clear P K10
          go_wp2_with fail
          refine (doubled_some r _ _ os 1 _ rfl (by omega) HO10.out.1 HO10.out.2.1 (by omega) (by omega) (2 * R + 1) (by rw [HO10.out.2.2.2.1])).mono ?_
          rintro e11 w11 ⟨g11, l11, rfl, K11⟩
          have D11 := hid (chain D10.out K11.out.2.2.2.2 (Nat.le_refl _))
          have TX11 := hid (TX.out.below K11.out.2.2.2.2)
          clear HO10 TX D10
          go_wp2_with fail
          refine (short_tri (some ⟨g11, 0, none⟩) _ _ l11 _ K11.out.2.1 (by omega) K11.out.1 K11.out.2.2.1 (2 * R + 1) K11.out.2.2.2.1).mono ?_
          rintro e12 w12 ⟨g12, rs, rfl, K12⟩
          have D12 := hid (chain D11.out K12.out.2.2 (Nat.le_refl _))
          have TX12 := hid ((TX11.out.below K12.out.2.2).ans (B := w'.heap.size) hg10.out)
          have TS12 := hid (K12.out.1.ans (B := w'.heap.size) (Nat.le_trans D11.out.size K12.out.2.1))
          clear K11 K12 D11 TX11 RR
          go_wp2_with fail
          go_roundg t
          case measure => omega
          case rel => exact ⟨_, rs, _, xs, 2 * R + 1, 4 * S + pr - (4 * R + 1), rfl, rfl, by go_num, by omega, TS12.out, TX12.out, RI2.out, D12.out⟩
      · have hc0 : c < 0 := by
          rw [← HCC.out, cmpI_lt (by omega)]
          omega
        have RI2 := hid (Rn.step_zero RI.out pr0 (by omega))
        rw [← PR.out] at RI2
        clear hge
        go_wp2_with fail
        refine (doubled_some r _ _ os 0 _ rfl (by omega) HO7.out.1 HO7.out.2.1 (by omega) (by omega) (2 * R) (by rw [HO7.out.2.2.2.1]; omega)).mono ?_
        rintro e8 w8 ⟨g8, l8, rfl, K8⟩
        have D8 := hid (chain D7.out K8.out.2.2.2.2 (Nat.le_refl _))
        have TR8 := hid (TR7.out.below K8.out.2.2.2.2)
        go_wp2_with fail
        refine (short_tri (some ⟨g8, 0, none⟩) _ _ l8 _ K8.out.2.1 (by omega) K8.out.1 K8.out.2.2.1 (2 * R) K8.out.2.2.2.1).mono ?_
        rintro e9 w9 ⟨g9, rs, rfl, K9⟩
        have D9 := hid (chain D8.out K9.out.2.2 (Nat.le_refl _))
        have TR9 := hid ((TR8.out.below K9.out.2.2).ans (B := w'.heap.size) hg3.out)
        have TS9 := hid (K9.out.1.ans (B := w'.heap.size) (Nat.le_trans D8.out.size K9.out.2.1))
        clear K8 K9 D8 TR8 D7 HO7 TR7 TT7
        go_wp2_with fail
        go_roundg t
        case measure => omega
        case rel => exact ⟨_, rs, _, vs, 2 * R, 4 * S + pr, rfl, rfl, by go_num, by omega, TS9.out, TR9.out, RI2.out, D9.out⟩
end Go.Proofs.YtljpmddjcfkonaaGreatDoor

namespace Go.Proofs.YtljpmddjcfkonaaGreatDoor
open Go.RowKit Go.Deep

theorem half_more (x0 : Int) (c : Nat) : x0 / 2 ^ c / 2 = x0 / 2 ^ (c + 1) := by
  rw [Nm.two_add, ← Int.ediv_ediv_of_nonneg (by have := Nm.two_pos c; omega)]
  rfl

set_option maxRecDepth 20000 in
set_option maxRecDepth 100000 in
set_option maxHeartbeats 2000000 in
theorem refBitLen_any (p : Option Addr) (n cap : Nat) (zs : List Int) (w : World) (ha : Arg w p n cap zs) :
    Calls Tryz.prog 55 #[.slice p n cap] w fun e w' => (∃ L : Nat, e = .returned (.int .i64 (L : Int)) ∧ Nm.BLen (Nm.val zs) L) ∧ w' = w := by
  obtain ⟨a1, a2, a3, a4, a5⟩ := ha
  have tl := Nm.tsize_le zs
  have S1 := refSize_any p n cap zs w a1 (by omega) a4
  by_cases h0 : Nm.tsize zs = 0
  · rw [h0] at S1
    have HS := hid S1
    have hv := (Nm.tsize_zero_iff a5).1 h0
    have B0 : Hid (Nm.BLen (Nm.val zs) 0) := ⟨by rw [hv]; decide, fun _ => rfl, fun h => by omega⟩
    clear S1 h0 hv
    go_enter Tryz.func55, Tryz.ntmps55
    go_wp2_with fail
    refine HS.out.mono ?_
    rintro e w' ⟨rfl, rfl⟩
    go_wp2
    go_ret
    exact ⟨⟨0, rfl, B0.out⟩, rfl⟩
  · obtain ⟨t, ht⟩ : ∃ t, Nm.tsize zs = t + 1 := ⟨Nm.tsize zs - 1, by omega⟩
    obtain ⟨b, off, rfl, hbw, HC⟩ := a4.at (by omega)
    obtain ⟨x0, hx, X⟩ : ∃ x0, w.cell? ⟨b, off + t, none⟩ = some (.int .u64 x0) ∧ Hid (x0 = zs.getD t 0) := ⟨_, HC.out t (by omega), rfl⟩
    have hx0 : 0 ≤ x0 := by have := a5.at t; have := X.out; omega
    have hx1 : x0 < 18446744073709551616 := by have := a5.at t; have := X.out; omega
    have XP : Hid (0 < x0) := by
      have h := Nm.tsize_top zs (by omega)
      rw [ht, Nat.add_sub_cancel, ← X.out] at h
      show 0 < x0
      omega
    have FIN : Hid (∀ c : Nat, x0 / 2 ^ c = 0 → (c = 0 ∨ 2 ^ (c - 1) ≤ x0) → Nm.BLen (Nm.val zs) (64 * t + c)) := by
      intro c h1 h2
      have hp := Nm.two_pos c
      have hlt : x0 < 2 ^ c := by
        rcases Int.lt_or_le x0 (2 ^ c) with h | h
        · exact h
        · have : 1 ≤ x0 / 2 ^ c := (Int.le_ediv_iff_mul_le hp).2 (by omega)
          omega
      have hc : 1 ≤ c := by
        rcases Nat.eq_zero_or_pos c with h | h
        · subst h
          have := XP.out
          have e : (2 : Int) ^ 0 = 1 := rfl
          omega
        · exact h
      have h3 : (2 : Int) ^ (c - 1) ≤ x0 := by
        rcases h2 with h | h
        · omega
        · exact h
      exact Nm.blen_at zs t c a5 ht hc (by rw [← X.out]; exact h3) (by rw [← X.out]; exact hlt)
    have CB : Hid (∀ c : Nat, 2 ^ (c - 1) ≤ x0 → c ≤ 64) := by
      intro c h
      have h2 : (2 : Int) ^ (c - 1) < 2 ^ 64 := by rw [Nm.two_64]; omega
      rcases Nat.lt_or_ge (c - 1) 64 with h3 | h3
      · omega
      · have := Nm.two_mono h3
        omega
    rw [ht] at S1
    have hS : ((t + 1 : Nat) : Int) = (t : Int) + 1 := by omega
    rw [hS] at S1
    have HS := hid S1
    have htn : (t : Int) < (n : Int) := by omega
    have htb : t ≤ 17592186044416 := by omega
    clear S1 h0 hS ht tl a4
    go_enter Tryz.func55, Tryz.ntmps55
    go_wp2_with fail
    refine HS.out.mono ?_
    rintro e w' ⟨rfl, rfl⟩
    go_wp2_with fail
    go_loop [4, 5] (fun s y => ∃ (c S : Nat) (x : Int), Hid (S = 64 * t + c) ∧ S ≤ 1125899906842688 ∧ s = .int .i64 S ∧ y = .int .u64 x ∧ 0 ≤ x ∧ x ≤ x0 ∧ Hid (x = x0 / 2 ^ c) ∧ Hid (c = 0 ∨ 2 ^ (c - 1) ≤ x0)) (fun _ y => (intOf y).toNat)
    case atStart => exact ⟨0, 64 * t, x0, rfl, by omega, by first | rfl | go_num, rfl, hx0, by omega, by simp [Hid], .inl rfl⟩
    case round =>
      obtain ⟨c, S, x, HSS, hS, rfl, rfl, h1, h2, HX, HCc⟩ := hrel
      by_cases hz : x = 0
      · have hz' : ¬ (0 : Int) < x := by omega
        have E : Hid (Nm.BLen (Nm.val zs) S) := by rw [HSS.out]; exact FIN.out c (by rw [← HX.out]; exact hz) HCc.out
        clear hz
        go_wp2
        go_ret
        exact ⟨⟨S, rfl, E.out⟩, rfl⟩
      · have hz' : (0 : Int) < x := by omega
        have P1 : Hid (2 ^ c ≤ x0) := by
          have h := HX.out
          have hp := Nm.two_pos c
          have : 1 ≤ x0 / 2 ^ c := by omega
          have := (Int.le_ediv_iff_mul_le hp).1 this
          show _ ≤ _
          omega
        have hc64 : c + 1 ≤ 64 := CB.out (c + 1) (by rw [Nat.add_sub_cancel]; exact P1.out)
        have hS2 : S + 1 ≤ 1125899906842688 := by have := HSS.out; omega
        obtain ⟨y, hy, Y⟩ : ∃ y, x / 2 = y ∧ Hid (y = x / 2) := ⟨_, rfl, rfl⟩
        have hy0 : 0 ≤ y := by omega
        have hyx : y < x := by omega
        have YX : Hid (y = x0 / 2 ^ (c + 1)) := by rw [Hid, Y.out, HX.out, half_more]
        clear hz
        go_wp2
        go_round
        case rel => exact ⟨c + 1, S + 1, y, by have := HSS.out; show _ = _; omega, hS2, by go_num, by rw [hy], hy0, by omega, YX.out, .inr (by rw [Nat.add_sub_cancel]; exact P1.out)⟩
        case measure => simp [intOf]; omega
end Go.Proofs.YtljpmddjcfkonaaGreatDoor

namespace Go.Proofs.YtljpmddjcfkonaaGreatDoor
open Go.RowKit Go.Deep


theorem refBit_neg (p : Option Addr) (n cap : Nat) (i : Int) (w : World) (hi : i < 0) :
    Calls Tryz.prog 57 #[.slice p n cap, .int .i64 i] w fun e w' => e = .returned (.int .i64 0) ∧ w' = w := by
  go_enter Tryz.func57, Tryz.ntmps57
  go_wp2
  go_ret
  exact ⟨rfl, rfl⟩

set_option maxRecDepth 20000 in
set_option maxRecDepth 100000 in
set_option maxHeartbeats 2000000 in
theorem refBit_any (p : Option Addr) (n cap : Nat) (zs : List Int) (i : Nat) (ii : Int) (w : World) (ha : Arg w p n cap zs) (hi : ii ≤ 9223372036854775807) (hii : ii = (i : Int)) :
    Calls Tryz.prog 57 #[.slice p n cap, .int .i64 ii] w fun e w' => e = .returned (.int .i64 (Nm.val zs / 2 ^ i % 2)) ∧ w' = w := by
  obtain ⟨a1, a2, a3, a4, a5⟩ := ha
  have hi0 : 0 ≤ ii := by omega
  have hi0' : ¬ ii < 0 := by omega
  obtain ⟨k, HK⟩ : ∃ k : Nat, Hid (ii / 64 = (k : Int) ∧ k = i / 64) := ⟨i / 64, by show _ ∧ _; omega⟩
  obtain ⟨r, HR⟩ : ∃ r : Nat, Hid (ii % 64 = (r : Int) ∧ r = i % 64) := ⟨i % 64, by show _ ∧ _; omega⟩
  have hr : r ≤ 63 := by have := HR.out; omega
  by_cases hk : n ≤ k
  · have hk' : (n : Int) ≤ ii / 64 := by have := HK.out; omega
    have E : Hid (0 = Nm.val zs / 2 ^ i % 2) := by
      have h1 := Nm.val_bd zs a5
      rw [a1, Nm.pw_two] at h1
      have h2 := Nm.two_mono (show 64 * n ≤ i by have := HK.out; omega)
      rw [Hid, Int.ediv_eq_zero_of_lt h1.1 (by omega)]
      rfl
    clear hii
    go_enter Tryz.func57, Tryz.ntmps57
    go_wp2
    go_ret
    exact ⟨ret_i64 E.out, rfl⟩
  · have hk' : ¬ (n : Int) ≤ ii / 64 := by have := HK.out; omega
    obtain ⟨b, off, rfl, hbw, HC⟩ := a4.at (by omega)
    obtain ⟨x0, hx, X⟩ : ∃ x0, w.cell? ⟨b, off + k, none⟩ = some (.int .u64 x0) ∧ Hid (x0 = zs.getD k 0) := ⟨_, HC.out k (by omega), rfl⟩
    have hx0 : 0 ≤ x0 := by have := a5.at k; have := X.out; omega
    have hx1 : x0 < 18446744073709551616 := by have := a5.at k; have := X.out; omega
    have E : Hid (x0 / 2 ^ r % 2 = Nm.val zs / 2 ^ i % 2) := by
      rw [Hid, X.out]
      exact (Nm.bit_at zs i k r (by have := HK.out; have := HR.out; omega) (by omega) a5 (by omega)).symm
    have hq : ii / 64 = (k : Int) := HK.out.1
    have hkn : (k : Int) < (n : Int) := by omega
    have hkn' : ¬ (n : Int) ≤ (k : Int) := by omega
    clear hii a4
    go_enter Tryz.func57, Tryz.ntmps57
    go_wp2
    clear hq
    go_loop [5, 6] (fun y t => ∃ (c : Nat) (x : Int), c ≤ r ∧ t = .int .i64 c ∧ y = .int .u64 x ∧ 0 ≤ x ∧ x ≤ x0 ∧ Hid (x = x0 / 2 ^ c)) (fun _ t => r - (intOf t).toNat)
    case atStart => exact ⟨0, x0, Nat.zero_le _, rfl, rfl, hx0, by omega, by simp [Hid]⟩
    case round =>
      obtain ⟨c, x, hc, rfl, rfl, h1, h2, HX⟩ := hrel
      by_cases hlt : c < r
      · have hlt' : (c : Int) < ii % 64 := by have := HR.out; omega
        obtain ⟨y, hy, Y⟩ : ∃ y, x / 2 = y ∧ Hid (y = x / 2) := ⟨_, rfl, rfl⟩
        have hy0 : 0 ≤ y := by omega
        have hyx : y ≤ x0 := by omega
        have YX : Hid (y = x0 / 2 ^ (c + 1)) := by rw [Hid, Y.out, HX.out, half_more]
        go_wp2
        go_round
        case rel => exact ⟨c + 1, y, by omega, by go_num, by first | rfl | rw [hy], hy0, hyx, YX.out⟩
        case measure => simp [intOf]; omega
      · have hlt' : ¬ (c : Int) < ii % 64 := by have := HR.out; omega
        obtain rfl : c = r := by omega
        obtain ⟨y, hy, Y⟩ : ∃ y, x % 2 = y ∧ Hid (y = x % 2) := ⟨_, rfl, rfl⟩
        have hy0 : 0 ≤ y := by omega
        have hy1 : y ≤ 1 := by omega
        have E2 : Hid (y = Nm.val zs / 2 ^ i % 2) := by rw [Hid, Y.out, HX.out]; exact E.out
        go_wp2
        go_ret
        exact ⟨ret_i64 E2.out, rfl⟩
end Go.Proofs.YtljpmddjcfkonaaGreatDoor

/-
  The document's Round (made by mkzround.py).
-/
namespace Go.Proofs.YtljpmddjcfkonaaGreatDoor
open Go Go.RowKit Go.Deep

/-- What the document's Round tells, once the digits are read. -/
def ZRTold (neg more rs : Bool) (hb : Int) (U : Nat) (g : Int) (r : Ending) : Prop :=
  ∃ up : Bool, r = .returned (.tuple #[.int .u64 (Ie.sg neg ((U : Int) * 4503599627370496 + g + if up = true then 1 else 0)), .int .i64 0]) ∧ (up = true ↔ (hb = 1 ∧ (rs = true ∨ more = true ∨ g % 2 = 1)))


set_option maxRecDepth 100000 in
set_option maxHeartbeats 8000000 in
theorem zround_core (neg : Bool) (p : Option Addr) (n cap : Nat) (w : World) (e u : Int) (L U J T : Nat) (more rs : Bool) (G : Nat → Int) (bv : Nat → Int) (hb : Int)
    (BG : Calls Tryz.prog 54 #[.slice p n cap] w fun r w' => r = .returned (.bool false) ∧ w' = w)
    (BL : Calls Tryz.prog 55 #[.slice p n cap] w fun r w' => r = .returned (.int .i64 (L : Int)) ∧ w' = w)
    (BT : ∀ j, j < J → ∀ ii, ii = u + (j : Int) - e → Calls Tryz.prog 57 #[.slice p n cap, .int .i64 ii] w fun r w' => r = .returned (.int .i64 (bv j)) ∧ w' = w)
    (BH : ∀ ii, ii = u - 1 - e → Calls Tryz.prog 57 #[.slice p n cap, .int .i64 ii] w fun r w' => r = .returned (.int .i64 hb) ∧ w' = w)
    (TR : Calls Tryz.prog 58 #[.slice p n cap] w fun r w' => r = .returned (.int .i64 (T : Int)) ∧ w' = w)
    (hL0 : 0 < L) (hL2 : L ≤ 262144) (he0 : -1048576 ≤ e) (he1 : e ≤ 1048576) (hbig : (L : Int) + e ≤ 1024) (hT : T ≤ 17592186044416)
    (hU : u + 1074 = (U : Int)) (hU2 : U ≤ 2045) (hmax : ((L : Int) + e - 53 < -1074 ∧ u = -1074) ∨ (-1074 ≤ (L : Int) + e - 53 ∧ u = (L : Int) + e - 53))
    (hJ : u + (J : Int) = (L : Int) + e ∨ (J = 0 ∧ (L : Int) + e ≤ u)) (GB : ∀ j, j ≤ J → 0 ≤ G j ∧ G j < 9007199254740992) (GJ : G J = 0) (GS : ∀ j, j < J → G j = 2 * G (j + 1) + bv j ∧ 0 ≤ bv j ∧ bv j ≤ 1)
    (hbb : hb = 0 ∨ hb = 1) (hrs : decide ((T : Int) + e < u - 1) = rs) (hUm : 0 < U → 4503599627370496 ≤ G 0) :
    Calls Tryz.prog 26 #[.bool neg, .slice p n cap, .int .i64 e, .bool more] w fun r w' => ZRTold neg more rs hb U (G 0) r ∧ w' = w := by
  have HBG := hid BG
  have HBL := hid BL
  have HBT := hid BT
  have HBH := hid BH
  have HTR := hid TR
  have HGB := hid GB
  have HGS := hid GS
  have HGJ := hid GJ
  have HRS := hid hrs
  have g0 := GB 0 (Nat.zero_le _)
  obtain ⟨G0, hG0⟩ : ∃ g, G 0 = g := ⟨_, rfl⟩
  rw [hG0] at g0 hUm ⊢
  have HG0 := hid hG0
  clear hG0
  obtain ⟨g00, g01⟩ := g0
  have PZ : Hid (∀ (wx : World) (m : Int), 0 ≤ m → m < 4503599627370496 → U = 0 → Calls Tryz.prog 56 #[.bool neg, .int .i64 0, .int .u64 m] wx fun r w' => r = .returned (.int .u64 (Ie.sg neg ((U : Int) * 4503599627370496 + m))) ∧ w' = wx) := by
    intro wx m m0 m1 hu
    have := zput_any neg 0 m wx (by omega) (by omega) m0 (by omega) (by omega)
    rw [hu]
    exact this
  have PU : Hid (∀ (wx : World) (m ee : Int), 0 ≤ m → m ≤ 9007199254740992 → ee = (U : Int) → Calls Tryz.prog 56 #[.bool neg, .int .i64 ee, .int .u64 m] wx fun r w' => r = .returned (.int .u64 (Ie.sg neg ((U : Int) * 4503599627370496 + m))) ∧ w' = wx) := by
    intro wx m ee m0 m1 hu
    subst hu
    exact zput_any neg U m wx (by omega) (by omega) m0 m1 (by omega)
  have l0 : ((L : Int) == 0) = false := by rw [beq_eq_false_iff_ne]; omega
  have l1 : ¬ 1023 < (L : Int) - 1 + e := by omega
  have l2 : (L : Int) ≤ 262144 := by omega
  have l3 : ¬ e < -1048576 := by omega
  have l4 : ¬ 1048576 < e := by omega
  have t1 : (T : Int) ≤ 17592186044416 := by omega
  have u0 : -1074 ≤ u := by omega
  have u1 : u ≤ 971 := by omega
  have hJ2 : (J : Int) ≤ 1100000 := by omega
  have HUM := hid hUm
  have HU := hid hU
  have HJ := hid hJ
  clear BG BL BT BH TR GB GS GJ hrs hL2 hT hUm hU hJ
  rcases hmax with ⟨hx, hue⟩ | ⟨hx, hue⟩
  · have HUE := hid hue
    clear hue
    go_enter Tryz.func26, Tryz.ntmps26
    go_wp2_with fail
    refine HBG.out.mono ?_
    rintro e' w' ⟨rfl, rfl⟩
    go_wp2_with fail
    refine HBL.out.mono ?_
    rintro e' w' ⟨rfl, rfl⟩
    go_wp2_with fail
    rw [← HUE.out]
    go_loopw [13, 14] (fun a i wr => ∃ (j : Nat) (M z : Int), a = .int .u64 M ∧ i = .int .i64 z ∧ j ≤ J ∧ 0 ≤ M ∧ M < 9007199254740992 ∧ -2000000 ≤ z ∧ z ≤ 1100 ∧ Hid (M = G j ∧ (z = u + (j : Int) - 1 ∨ (j = 0 ∧ z ≤ u - 1))) ∧ wr = w') (fun _ i _ => (intOf i + 2000001).toNat)
    case atStart => exact ⟨J, 0, _, rfl, rfl, Nat.le_refl _, by omega, by omega, by omega, by omega, ⟨HGJ.out.symm, by have := HJ.out; omega⟩, rfl⟩
    case round =>
      obtain ⟨j, M, z, rfl, rfl, hj, M0, M1, z0, z1, I, rfl⟩ := hrel
      cases j with
      | zero =>
        have hM : M = G0 := I.out.1.trans HG0.out
        have hz : z < u := by have := I.out.2; omega
        have hM2 := hM.symm
        clear hM
        subst hM2
        clear I HGS HBT
        go_wp2_with fail
        refine (HBH.out _ (by omega)).mono ?_
        rintro e' w' ⟨rfl, rfl⟩
        rcases hbb with rfl | rfl
        · go_wp2_with fail
          refine HTR.out.mono ?_
          rintro e' w' ⟨rfl, rfl⟩
          by_cases hsm : G0 < 4503599627370496
          · have hu0 : U = 0 := Nat.eq_zero_of_not_pos (fun h => absurd (HUM.out h) (by omega))
            go_wp2_with fail
            refine (PZ.out _ _ (by omega) (by omega) hu0).mono ?_
            rintro e' w' ⟨rfl, rfl⟩
            go_wp2_with fail
            go_ret2
            exact ⟨⟨false, ret_sg (by simp <;> omega), by simp⟩, rfl⟩
          · go_wp2_with fail
            refine (PU.out _ _ _ (by omega) (by omega) (by have := HU.out; omega)).mono ?_
            rintro e' w' ⟨rfl, rfl⟩
            go_wp2_with fail
            go_ret2
            exact ⟨⟨false, ret_sg (by simp <;> omega), by simp⟩, rfl⟩
        · cases rs
          · have HF := of_decide_eq_false HRS.out
            cases more
            · rcases (show G0 % 2 = 0 ∨ G0 % 2 = 1 by omega) with hp | hp
              · go_wp2_with fail
                refine HTR.out.mono ?_
                rintro e' w' ⟨rfl, rfl⟩
                by_cases hsm : G0 < 4503599627370496
                · have hu0 : U = 0 := Nat.eq_zero_of_not_pos (fun h => absurd (HUM.out h) (by omega))
                  go_wp2_with fail
                  refine (PZ.out _ _ (by omega) (by omega) hu0).mono ?_
                  rintro e' w' ⟨rfl, rfl⟩
                  go_wp2_with fail
                  go_ret2
                  exact ⟨⟨false, ret_sg (by simp <;> omega), by simp [hp]⟩, rfl⟩
                · go_wp2_with fail
                  refine (PU.out _ _ _ (by omega) (by omega) (by have := HU.out; omega)).mono ?_
                  rintro e' w' ⟨rfl, rfl⟩
                  go_wp2_with fail
                  go_ret2
                  exact ⟨⟨false, ret_sg (by simp <;> omega), by simp [hp]⟩, rfl⟩
              · go_wp2_with fail
                refine HTR.out.mono ?_
                rintro e' w' ⟨rfl, rfl⟩
                by_cases hsm : G0 + 1 < 4503599627370496
                · have hu0 : U = 0 := Nat.eq_zero_of_not_pos (fun h => absurd (HUM.out h) (by omega))
                  go_wp2_with fail
                  refine (PZ.out _ _ (by omega) (by omega) hu0).mono ?_
                  rintro e' w' ⟨rfl, rfl⟩
                  go_wp2_with fail
                  go_ret2
                  exact ⟨⟨true, ret_sg (by simp <;> omega), by simp [hp]⟩, rfl⟩
                · go_wp2_with fail
                  refine (PU.out _ _ _ (by omega) (by omega) (by have := HU.out; omega)).mono ?_
                  rintro e' w' ⟨rfl, rfl⟩
                  go_wp2_with fail
                  go_ret2
                  exact ⟨⟨true, ret_sg (by simp <;> omega), by simp [hp]⟩, rfl⟩
            · go_wp2_with fail
              refine HTR.out.mono ?_
              rintro e' w' ⟨rfl, rfl⟩
              by_cases hsm : G0 + 1 < 4503599627370496
              · have hu0 : U = 0 := Nat.eq_zero_of_not_pos (fun h => absurd (HUM.out h) (by omega))
                go_wp2_with fail
                refine (PZ.out _ _ (by omega) (by omega) hu0).mono ?_
                rintro e' w' ⟨rfl, rfl⟩
                go_wp2_with fail
                go_ret2
                exact ⟨⟨true, ret_sg (by simp <;> omega), by simp⟩, rfl⟩
              · go_wp2_with fail
                refine (PU.out _ _ _ (by omega) (by omega) (by have := HU.out; omega)).mono ?_
                rintro e' w' ⟨rfl, rfl⟩
                go_wp2_with fail
                go_ret2
                exact ⟨⟨true, ret_sg (by simp <;> omega), by simp⟩, rfl⟩
          · have HF := of_decide_eq_true HRS.out
            go_wp2_with fail
            refine HTR.out.mono ?_
            rintro e' w' ⟨rfl, rfl⟩
            by_cases hsm : G0 + 1 < 4503599627370496
            · have hu0 : U = 0 := Nat.eq_zero_of_not_pos (fun h => absurd (HUM.out h) (by omega))
              go_wp2_with fail
              refine (PZ.out _ _ (by omega) (by omega) hu0).mono ?_
              rintro e' w' ⟨rfl, rfl⟩
              go_wp2_with fail
              go_ret2
              exact ⟨⟨true, ret_sg (by simp <;> omega), by simp⟩, rfl⟩
            · go_wp2_with fail
              refine (PU.out _ _ _ (by omega) (by omega) (by have := HU.out; omega)).mono ?_
              rintro e' w' ⟨rfl, rfl⟩
              go_wp2_with fail
              go_ret2
              exact ⟨⟨true, ret_sg (by simp <;> omega), by simp⟩, rfl⟩
      | succ k =>
        have hz : z = u + (k : Int) := by have := I.out.2; omega
        have hz2 : u ≤ z := by omega
        obtain ⟨s1, s2, s3⟩ := HGS.out k (by omega)
        have B1 := hid (HBT.out k (by omega))
        have gb := HGB.out k (by omega)
        obtain ⟨b, hbk⟩ : ∃ b, bv k = b := ⟨_, rfl⟩
        rw [hbk] at s1 s2 s3 B1
        have HZ := hid hz
        have S1 : Hid (2 * M + b = G k) := by rw [Hid, s1, I.out.1]
        have n1 : 2 * M + b < 9007199254740992 := by rw [S1.out]; exact gb.2
        clear s1 I hz gb hbk
        go_wp2_with fail
        refine (B1.out _ (by have := HZ.out; omega)).mono ?_
        rintro e' wq ⟨rfl, rfl⟩
        go_wp2_with fail
        go_roundw
        case measure => simp only [intOf]; omega
        case rel => exact ⟨k, _, _, rfl, rfl, by omega, by omega, by omega, by omega, by omega, ⟨S1.out, .inl (by have := HZ.out; omega)⟩, by first | rfl | trivial⟩
  · subst hue
    go_enter Tryz.func26, Tryz.ntmps26
    go_wp2_with fail
    refine HBG.out.mono ?_
    rintro e' w' ⟨rfl, rfl⟩
    go_wp2_with fail
    refine HBL.out.mono ?_
    rintro e' w' ⟨rfl, rfl⟩
    go_wp2_with fail
    go_loopw [13, 14] (fun a i wr => ∃ (j : Nat) (M z : Int), a = .int .u64 M ∧ i = .int .i64 z ∧ j ≤ J ∧ 0 ≤ M ∧ M < 9007199254740992 ∧ -2000000 ≤ z ∧ z ≤ 1100 ∧ Hid (M = G j ∧ (z = ((L : Int) + e - 53) + (j : Int) - 1 ∨ (j = 0 ∧ z ≤ ((L : Int) + e - 53) - 1))) ∧ wr = w') (fun _ i _ => (intOf i + 2000001).toNat)
    case atStart => exact ⟨J, 0, _, rfl, rfl, Nat.le_refl _, by omega, by omega, by omega, by omega, ⟨HGJ.out.symm, by have := HJ.out; omega⟩, rfl⟩
    case round =>
      obtain ⟨j, M, z, rfl, rfl, hj, M0, M1, z0, z1, I, rfl⟩ := hrel
      cases j with
      | zero =>
        have hM : M = G0 := I.out.1.trans HG0.out
        have hz : z < ((L : Int) + e - 53) := by have := I.out.2; omega
        have hM2 := hM.symm
        clear hM
        subst hM2
        clear I HGS HBT
        go_wp2_with fail
        refine (HBH.out _ (by omega)).mono ?_
        rintro e' w' ⟨rfl, rfl⟩
        rcases hbb with rfl | rfl
        · go_wp2_with fail
          refine HTR.out.mono ?_
          rintro e' w' ⟨rfl, rfl⟩
          by_cases hsm : G0 < 4503599627370496
          · have hu0 : U = 0 := Nat.eq_zero_of_not_pos (fun h => absurd (HUM.out h) (by omega))
            go_wp2_with fail
            refine (PZ.out _ _ (by omega) (by omega) hu0).mono ?_
            rintro e' w' ⟨rfl, rfl⟩
            go_wp2_with fail
            go_ret2
            exact ⟨⟨false, ret_sg (by simp <;> omega), by simp⟩, rfl⟩
          · go_wp2_with fail
            refine (PU.out _ _ _ (by omega) (by omega) (by have := HU.out; omega)).mono ?_
            rintro e' w' ⟨rfl, rfl⟩
            go_wp2_with fail
            go_ret2
            exact ⟨⟨false, ret_sg (by simp <;> omega), by simp⟩, rfl⟩
        · cases rs
          · have HF := of_decide_eq_false HRS.out
            cases more
            · rcases (show G0 % 2 = 0 ∨ G0 % 2 = 1 by omega) with hp | hp
              · go_wp2_with fail
                refine HTR.out.mono ?_
                rintro e' w' ⟨rfl, rfl⟩
                by_cases hsm : G0 < 4503599627370496
                · have hu0 : U = 0 := Nat.eq_zero_of_not_pos (fun h => absurd (HUM.out h) (by omega))
                  go_wp2_with fail
                  refine (PZ.out _ _ (by omega) (by omega) hu0).mono ?_
                  rintro e' w' ⟨rfl, rfl⟩
                  go_wp2_with fail
                  go_ret2
                  exact ⟨⟨false, ret_sg (by simp <;> omega), by simp [hp]⟩, rfl⟩
                · go_wp2_with fail
                  refine (PU.out _ _ _ (by omega) (by omega) (by have := HU.out; omega)).mono ?_
                  rintro e' w' ⟨rfl, rfl⟩
                  go_wp2_with fail
                  go_ret2
                  exact ⟨⟨false, ret_sg (by simp <;> omega), by simp [hp]⟩, rfl⟩
              · go_wp2_with fail
                refine HTR.out.mono ?_
                rintro e' w' ⟨rfl, rfl⟩
                by_cases hsm : G0 + 1 < 4503599627370496
                · have hu0 : U = 0 := Nat.eq_zero_of_not_pos (fun h => absurd (HUM.out h) (by omega))
                  go_wp2_with fail
                  refine (PZ.out _ _ (by omega) (by omega) hu0).mono ?_
                  rintro e' w' ⟨rfl, rfl⟩
                  go_wp2_with fail
                  go_ret2
                  exact ⟨⟨true, ret_sg (by simp <;> omega), by simp [hp]⟩, rfl⟩
                · go_wp2_with fail
                  refine (PU.out _ _ _ (by omega) (by omega) (by have := HU.out; omega)).mono ?_
                  rintro e' w' ⟨rfl, rfl⟩
                  go_wp2_with fail
                  go_ret2
                  exact ⟨⟨true, ret_sg (by simp <;> omega), by simp [hp]⟩, rfl⟩
            · go_wp2_with fail
              refine HTR.out.mono ?_
              rintro e' w' ⟨rfl, rfl⟩
              by_cases hsm : G0 + 1 < 4503599627370496
              · have hu0 : U = 0 := Nat.eq_zero_of_not_pos (fun h => absurd (HUM.out h) (by omega))
                go_wp2_with fail
                refine (PZ.out _ _ (by omega) (by omega) hu0).mono ?_
                rintro e' w' ⟨rfl, rfl⟩
                go_wp2_with fail
                go_ret2
                exact ⟨⟨true, ret_sg (by simp <;> omega), by simp⟩, rfl⟩
              · go_wp2_with fail
                refine (PU.out _ _ _ (by omega) (by omega) (by have := HU.out; omega)).mono ?_
                rintro e' w' ⟨rfl, rfl⟩
                go_wp2_with fail
                go_ret2
                exact ⟨⟨true, ret_sg (by simp <;> omega), by simp⟩, rfl⟩
          · have HF := of_decide_eq_true HRS.out
            go_wp2_with fail
            refine HTR.out.mono ?_
            rintro e' w' ⟨rfl, rfl⟩
            by_cases hsm : G0 + 1 < 4503599627370496
            · have hu0 : U = 0 := Nat.eq_zero_of_not_pos (fun h => absurd (HUM.out h) (by omega))
              go_wp2_with fail
              refine (PZ.out _ _ (by omega) (by omega) hu0).mono ?_
              rintro e' w' ⟨rfl, rfl⟩
              go_wp2_with fail
              go_ret2
              exact ⟨⟨true, ret_sg (by simp <;> omega), by simp⟩, rfl⟩
            · go_wp2_with fail
              refine (PU.out _ _ _ (by omega) (by omega) (by have := HU.out; omega)).mono ?_
              rintro e' w' ⟨rfl, rfl⟩
              go_wp2_with fail
              go_ret2
              exact ⟨⟨true, ret_sg (by simp <;> omega), by simp⟩, rfl⟩
      | succ k =>
        have hz : z = ((L : Int) + e - 53) + (k : Int) := by have := I.out.2; omega
        have hz2 : ((L : Int) + e - 53) ≤ z := by omega
        obtain ⟨s1, s2, s3⟩ := HGS.out k (by omega)
        have B1 := hid (HBT.out k (by omega))
        have gb := HGB.out k (by omega)
        obtain ⟨b, hbk⟩ : ∃ b, bv k = b := ⟨_, rfl⟩
        rw [hbk] at s1 s2 s3 B1
        have HZ := hid hz
        have S1 : Hid (2 * M + b = G k) := by rw [Hid, s1, I.out.1]
        have n1 : 2 * M + b < 9007199254740992 := by rw [S1.out]; exact gb.2
        clear s1 I hz gb hbk
        go_wp2_with fail
        refine (B1.out _ (by have := HZ.out; omega)).mono ?_
        rintro e' wq ⟨rfl, rfl⟩
        go_wp2_with fail
        go_roundw
        case measure => simp only [intOf]; omega
        case rel => exact ⟨k, _, _, rfl, rfl, by omega, by omega, by omega, by omega, by omega, ⟨S1.out, .inl (by have := HZ.out; omega)⟩, by first | rfl | trivial⟩
end Go.Proofs.YtljpmddjcfkonaaGreatDoor

namespace Go.Proofs.YtljpmddjcfkonaaGreatDoor
open Go.RowKit Go.Deep

theorem val_zero_of {zs : List Int} (h : ∀ j, zs.getD j 0 = 0) : Nm.val zs = 0 := by
  rw [← Nm.val_take_of_zero zs 0 (fun j _ => h j)]
  rfl

set_option maxRecDepth 20000 in
set_option maxRecDepth 100000 in
set_option maxHeartbeats 2000000 in
theorem refTrail_any (p : Option Addr) (n cap : Nat) (zs : List Int) (w : World) (ha : Arg w p n cap zs) :
    Calls Tryz.prog 58 #[.slice p n cap] w fun e w' => (∃ t : Nat, e = .returned (.int .i64 (t : Int)) ∧ Nm.Trl (Nm.val zs) t) ∧ w' = w := by
  obtain ⟨a1, a2, a3, a4, a5⟩ := ha
  rcases a4 with rfl | ⟨b, off, rfl, hcell⟩
  · have hn0 : n = 0 := by simpa using a1.symm
    subst hn0
    clear a1 a5
    go_enter Tryz.func58, Tryz.ntmps58
    go_wp2
    refine wp_loop_rounds 1 ?_
    rw [rounds_succ]
    go_wp2
    go_ret
    exact ⟨⟨0, rfl, .inl ⟨rfl, rfl⟩⟩, rfl⟩
  · have H : Hid (zs.length = n) := a1
    have HC : Hid (∀ i, i < zs.length → w.cell? ⟨b, off + i, none⟩ = some (.int .u64 (zs.getD i 0))) := hcell
    have HL := hid a5
    clear a1 hcell a5
    go_enter Tryz.func58, Tryz.ntmps58
    go_wp2
    go_loop [3] (fun i => ∃ k : Nat, k ≤ n ∧ i = .int .i64 k ∧ Hid (∀ j, j < k → zs.getD j 0 = 0)) (fun i => n - (intOf i).toNat)
    case atStart => exact ⟨0, Nat.zero_le _, rfl, fun j hj => by omega⟩
    case round =>
      obtain ⟨k, hk, rfl, Z⟩ := hrel
      by_cases hlt : k < n
      · have hlt' : (k : Int) < (n : Int) := by omega
        obtain ⟨x, hx, X⟩ : ∃ x, w.cell? ⟨b, off + k, none⟩ = some (.int .u64 x) ∧ Hid (x = zs.getD k 0) := ⟨_, HC.out k (by have := H.out; omega), rfl⟩
        have hx0 : 0 ≤ x := by have := HL.out.at k; have := X.out; omega
        have hx1 : x < 18446744073709551616 := by have := HL.out.at k; have := X.out; omega
        by_cases hz : x = 0
        · have hz' : (x != 0) = false := by simp [hz]
          have Z2 : Hid (∀ j, j < k + 1 → zs.getD j 0 = 0) := by
            intro j hj
            by_cases e : j = k
            · rw [e, ← X.out]; exact hz
            · exact Z.out j (by omega)
          clear hz
          go_wp2
          go_round
          case rel => exact ⟨k + 1, by omega, by go_num, Z2.out⟩
          case measure => simp [intOf]; omega
        · have hz' : (x != 0) = true := by simp [hz]
          have XP : Hid (0 < x) := by show 0 < x; omega
          have FIN : Hid (∀ (c : Nat) (m : Int), x = 2 ^ c * (2 * m + 1) → c ≤ 63 → Nm.Trl (Nm.val zs) (64 * k + c)) := fun c m h hc => Nm.trl_at zs k c m (by have := H.out; omega) Z.out (by rw [← X.out]; exact h) hc
          have CB : Hid (∀ (c : Nat) (y : Int), 1 ≤ y → x = 2 ^ c * y → c ≤ 63) := by
            intro c y hy h
            rcases Nat.lt_or_ge c 64 with h1 | h1
            · omega
            · exfalso
              have h2 := Nm.two_mono h1
              rw [Nm.two_64] at h2
              have h3 : (2 : Int) ^ c * 1 ≤ 2 ^ c * y := Int.mul_le_mul_of_nonneg_left hy (by omega)
              omega
          have hkb : k ≤ 17592186044416 := by omega
          clear hz
          go_wp2_with fail
          go_loop [4, 5] (fun s y => ∃ (c S : Nat) (v : Int), Hid (S = 64 * k + c) ∧ S ≤ 1125899906842688 ∧ s = .int .i64 S ∧ y = .int .u64 v ∧ 1 ≤ v ∧ v ≤ x ∧ Hid (x = 2 ^ c * v)) (fun _ y => (intOf y).toNat)
          case atStart => exact ⟨0, 64 * k, x, rfl, by omega, by first | rfl | go_num, rfl, by have := XP.out; omega, by omega, by simp [Hid]⟩
          case round =>
            obtain ⟨c, S, v, HS, hS, rfl, rfl, hv1, hv2, HX⟩ := hrel
            have hc63 := CB.out c v hv1 HX.out
            by_cases hodd : v % 2 = 0
            · have hodd' : (v % 2 == 0) = true := by simp [hodd]
              obtain ⟨u, hu, U⟩ : ∃ u, v / 2 = u ∧ Hid (u = v / 2) := ⟨_, rfl, rfl⟩
              have hu1 : 1 ≤ u := by omega
              have huv : u < v := by omega
              have HX2 : Hid (x = 2 ^ (c + 1) * u) := by
                rw [Hid, Nm.two_succ, HX.out, Int.mul_assoc, Int.mul_left_comm]
                congr 1
                omega
              have hc2 := CB.out (c + 1) u hu1 HX2.out
              have hS2 : S + 1 ≤ 1125899906842688 := by have := HS.out; omega
              clear hodd
              go_wp2
              go_round
              case rel => exact ⟨c + 1, S + 1, u, by have := HS.out; show _ = _; omega, hS2, by go_num, by rw [hu], hu1, by omega, HX2.out⟩
              case measure => simp [intOf]; omega
            · have hodd' : (v % 2 == 0) = false := by simp; omega
              have E : Hid (Nm.Trl (Nm.val zs) S) := by
                rw [HS.out]
                exact FIN.out c (v / 2) (by rw [HX.out]; congr 1; omega) hc63
              clear hodd
              go_wp2
              go_ret
              exact ⟨⟨S, rfl, E.out⟩, rfl⟩
      · have hlt' : ¬ (k : Int) < (n : Int) := by omega
        have E : Hid (Nm.Trl (Nm.val zs) 0) := by
          refine .inl ⟨val_zero_of (fun j => ?_), rfl⟩
          by_cases hj : j < k
          · exact Z.out j hj
          · simp [List.getD, List.getElem?_eq_none (show zs.length ≤ j by have := H.out; omega)]
        go_wp2
        go_ret
        exact ⟨⟨0, rfl, E.out⟩, rfl⟩
end Go.Proofs.YtljpmddjcfkonaaGreatDoor

/-
  The document's Round, whole.
-/
namespace Go.Proofs.YtljpmddjcfkonaaGreatDoor
open Go Go.RowKit Go.Deep

theorem ztrl_ex : ∀ (n : Nat) (V : Int), 0 < V → V.toNat ≤ n → ∃ t, Nm.Trl V t
  | 0, V, h0, h => by omega
  | n + 1, V, h0, h => by
    rcases (show V % 2 = 1 ∨ V % 2 = 0 by omega) with g | g
    · exact ⟨0, .inr ⟨V / 2, by rw [Int.pow_zero, Int.one_mul]; omega⟩⟩
    · obtain ⟨t, ht⟩ := ztrl_ex n (V / 2) (by omega) (by omega)
      rcases ht with ⟨hz, _⟩ | ⟨m, hm⟩
      · omega
      · exact ⟨t + 1, .inr ⟨m, by rw [Nm.two_succ, Int.mul_assoc, ← hm]; omega⟩⟩

/-- The digits of V from the place z on. -/
def Ie.dgs (V z : Int) : Int := if 0 ≤ z then V / 2 ^ z.toNat else V * 2 ^ (-z).toNat
/-- The digit at the place z. -/
def Ie.dgt (V z : Int) : Int := if 0 ≤ z then V / 2 ^ z.toNat % 2 else 0

theorem Ie.dgs_step (V z : Int) : Ie.dgs V z = 2 * Ie.dgs V (z + 1) + Ie.dgt V z ∧ 0 ≤ Ie.dgt V z ∧ Ie.dgt V z ≤ 1 := by
  by_cases h : 0 ≤ z
  · rw [Ie.dgs, Ie.dgs, Ie.dgt, if_pos h, if_pos (by omega), if_pos h]
    have e : (z + 1).toNat = z.toNat + 1 := by omega
    have : V / 2 ^ (z.toNat + 1) = V / 2 ^ z.toNat / 2 := by
      rw [Int.ediv_ediv_of_nonneg (Int.le_of_lt (Nm.two_pos _)), Int.mul_comm, ← Nm.two_succ]
    rw [e, this]
    omega
  · by_cases h1 : z = -1
    · subst h1
      rw [Ie.dgs, Ie.dgs, Ie.dgt, if_neg (by omega), if_pos (by omega), if_neg (by omega)]
      have e1 : (2 : Int) ^ ((-(-1) : Int)).toNat = 2 := rfl
      have e2 : (2 : Int) ^ ((-1 + 1 : Int)).toNat = 1 := rfl
      rw [e1, e2, Int.ediv_one]
      omega
    · rw [Ie.dgs, Ie.dgs, Ie.dgt, if_neg h, if_neg (by omega), if_neg h]
      have e : (-z).toNat = (-(z + 1)).toNat + 1 := by omega
      rw [e, Nm.two_succ, Int.mul_left_comm]
      omega

theorem Ie.dgs_bd (V z : Int) (L : Nat) (h0 : 0 ≤ V) (h1 : V < 2 ^ L) (hz : (L : Int) ≤ z + 53) : 0 ≤ Ie.dgs V z ∧ Ie.dgs V z < 9007199254740992 := by
  have e53 : (2 : Int) ^ 53 = 9007199254740992 := by decide
  by_cases h : 0 ≤ z
  · rw [Ie.dgs, if_pos h]
    have hp := Nm.two_pos z.toNat
    refine ⟨Int.ediv_nonneg h0 (by omega), ?_⟩
    rw [Int.ediv_lt_iff_lt_mul hp]
    have g := Nm.two_mono (show L ≤ z.toNat + 53 by omega)
    rw [Nm.two_add, e53] at g
    rw [Int.mul_comm]
    omega
  · rw [Ie.dgs, if_neg h]
    have hp := Nm.two_pos (-z).toNat
    refine ⟨Int.mul_nonneg h0 (by omega), ?_⟩
    have g1 : V * 2 ^ (-z).toNat < 2 ^ (L + (-z).toNat) := by rw [Nm.two_add]; exact Int.mul_lt_mul_of_pos_right h1 hp
    have g2 := Nm.two_mono (show L + (-z).toNat ≤ 53 by omega)
    omega

theorem Ie.dgs_top (V z : Int) (L : Nat) (h0 : 0 ≤ V) (h1 : V < 2 ^ L) (hz : (L : Int) ≤ z) : Ie.dgs V z = 0 := by
  rw [Ie.dgs, if_pos (by omega)]
  have := Nm.two_mono (show L ≤ z.toNat by omega)
  exact Int.ediv_eq_zero_of_lt h0 (by omega)

theorem refBit_dgt (p : Option Addr) (n cap : Nat) (zs : List Int) (V z : Int) (w : World) (ha : Arg w p n cap zs) (hV : Nm.val zs = V) (hz : z ≤ 9223372036854775807) :
    Calls Tryz.prog 57 #[.slice p n cap, .int .i64 z] w fun e w' => e = .returned (.int .i64 (Ie.dgt V z)) ∧ w' = w := by
  by_cases h : 0 ≤ z
  · have := refBit_any p n cap zs z.toNat z w ha hz (by omega)
    rw [hV] at this
    rw [Ie.dgt, if_pos h]
    exact this
  · rw [Ie.dgt, if_neg h]
    exact refBit_neg p n cap z w (by omega)

set_option maxRecDepth 100000 in
set_option maxHeartbeats 4000000 in
theorem zround_any (neg : Bool) (p : Option Addr) (n cap : Nat) (zs : List Int) (w : World) (ha : Arg w p n cap zs) (tz : Nm.tsize zs ≤ 4096) (V e : Int) (more : Bool) (hV : Nm.val zs = V) :
    Calls Tryz.prog 26 #[.bool neg, .slice p n cap, .int .i64 e, .bool more] w fun r w' => ∃ x, r = .returned (.tuple #[.int .u64 (Ie.sg neg x), .int .i64 0]) ∧ Ie.Rnd V 1 e more x ∧ w' = w := by
  obtain ⟨L, hL, BL, hl, _⟩ := blen_is zs ha.2.2.2.2
  have v0 : 0 ≤ V := by rw [← hV]; exact (Nm.val_bd zs ha.2.2.2.2).1
  rw [hV] at BL
  have hL2 : L ≤ 262144 := by omega
  have BG := refBig_is false p n cap zs w ha (by simp; omega)
  have B1 : Calls Tryz.prog 55 #[.slice p n cap] w fun r w' => r = .returned (.int .i64 (L : Int)) ∧ w' = w := by
    refine (refBitLen_any p n cap zs w ha).mono ?_
    rintro r w' ⟨⟨L', rfl, h⟩, rfl⟩
    rw [hV] at h
    rw [Nm.BLen.unique v0 h BL]
    exact ⟨rfl, rfl⟩
  rcases (show V = 0 ∨ 0 < V by omega) with hv | hv
  · have hL0 : L = 0 := BL.2.1 hv
    subst hL0
    have R := hid (Ie.rnd_zero 1 e more (by omega))
    subst hv
    have H1 := hid BG
    have H2 := hid B1
    have PP := hid (zput_any neg 0 0 w (by omega) (by omega) (by omega) (by omega) (by omega))
    clear ha tz hV hL BL hl hL2 v0 BG B1
    go_enter Tryz.func26, Tryz.ntmps26
    go_wp2_with fail
    refine H1.out.mono ?_
    rintro e' w' ⟨rfl, rfl⟩
    go_wp2_with fail
    refine H2.out.mono ?_
    rintro e' w' ⟨rfl, rfl⟩
    go_wp2_with fail
    refine PP.out.mono ?_
    rintro e' w' ⟨rfl, rfl⟩
    go_wp2_with fail
    go_ret2
    exact ⟨0, ret_sg (by simp), R.out, rfl⟩
  · obtain ⟨hL1, hp⟩ := BL.2.2 hv
    have l0 : ((L : Int) == 0) = false := by rw [beq_eq_false_iff_ne]; omega
    have l2 : (L : Int) ≤ 262144 := by omega
    by_cases c1 : e < -1048576
    · have R := hid (Ie.rnd_small V 1 e L 0 more BL.1 (by decide) (by omega))
      have H1 := hid BG
      have H2 := hid B1
      have PP := hid (zput_any neg 0 0 w (by omega) (by omega) (by omega) (by omega) (by omega))
      clear ha tz hV hL BL hl hL2 v0 hv hp hL1 BG B1
      go_enter Tryz.func26, Tryz.ntmps26
      go_wp2_with fail
      refine H1.out.mono ?_
      rintro e' w' ⟨rfl, rfl⟩
      go_wp2_with fail
      refine H2.out.mono ?_
      rintro e' w' ⟨rfl, rfl⟩
      go_wp2_with fail
      refine PP.out.mono ?_
      rintro e' w' ⟨rfl, rfl⟩
      go_wp2_with fail
      go_ret2
      exact ⟨0, ret_sg (by simp), R.out, rfl⟩
    · by_cases c2 : 1048576 < e
      · have R := hid (Ie.rnd_inf V 1 e (L - 1) 0 more hp (by decide) (by omega))
        have H1 := hid BG
        have H2 := hid B1
        have PP := hid (zput_any neg 2047 0 w (by omega) (by omega) (by omega) (by omega) (by omega))
        clear ha tz hV hL BL hl hL2 v0 hv hp hL1 BG B1
        go_enter Tryz.func26, Tryz.ntmps26
        go_wp2_with fail
        refine H1.out.mono ?_
        rintro e' w' ⟨rfl, rfl⟩
        go_wp2_with fail
        refine H2.out.mono ?_
        rintro e' w' ⟨rfl, rfl⟩
        go_wp2_with fail
        refine PP.out.mono ?_
        rintro e' w' ⟨rfl, rfl⟩
        go_wp2_with fail
        go_ret2
        exact ⟨_, ret_sg (by simp), R.out, rfl⟩
      · by_cases c3 : 1023 < (L : Int) - 1 + e
        · have R := hid (Ie.rnd_inf V 1 e (L - 1) 0 more hp (by decide) (by omega))
          have H1 := hid BG
          have H2 := hid B1
          have PP := hid (zput_any neg 2047 0 w (by omega) (by omega) (by omega) (by omega) (by omega))
          clear ha tz hV hL BL hl hL2 v0 hv hp hL1 BG B1
          go_enter Tryz.func26, Tryz.ntmps26
          go_wp2_with fail
          refine H1.out.mono ?_
          rintro e' w' ⟨rfl, rfl⟩
          go_wp2_with fail
          refine H2.out.mono ?_
          rintro e' w' ⟨rfl, rfl⟩
          go_wp2_with fail
          refine PP.out.mono ?_
          rintro e' w' ⟨rfl, rfl⟩
          go_wp2_with fail
          go_ret2
          exact ⟨_, ret_sg (by simp), R.out, rfl⟩
        · obtain ⟨u, hu⟩ : ∃ u : Int, ((L : Int) + e - 53 < -1074 ∧ u = -1074) ∨ (-1074 ≤ (L : Int) + e - 53 ∧ u = (L : Int) + e - 53) := by
            rcases (show (L : Int) + e - 53 < -1074 ∨ -1074 ≤ (L : Int) + e - 53 by omega) with h | h
            · exact ⟨_, .inl ⟨h, rfl⟩⟩
            · exact ⟨_, .inr ⟨h, rfl⟩⟩
          obtain ⟨U, hU⟩ : ∃ U : Nat, u + 1074 = (U : Int) := ⟨(u + 1074).toNat, by omega⟩
          obtain ⟨T, hT⟩ := ztrl_ex V.toNat V hv (Nat.le_refl _)
          have hTb : T ≤ 262144 := by
            rcases hT with ⟨h, _⟩ | ⟨m, hm⟩
            · omega
            · rcases Nat.lt_or_ge T (L + 1) with g | g
              · omega
              · exfalso
                have g1 := Nm.two_mono (show L ≤ T by omega)
                have hm1 : 1 ≤ 2 * m + 1 := by
                  rcases (show 1 ≤ 2 * m + 1 ∨ 2 * m + 1 ≤ 0 by omega) with q | q
                  · exact q
                  · have := Int.mul_le_mul_of_nonneg_left q (Int.le_of_lt (Nm.two_pos T)); rw [Int.mul_zero] at this; omega
                have g2 : (2 : Int) ^ T * 1 ≤ 2 ^ T * (2 * m + 1) := Int.mul_le_mul_of_nonneg_left hm1 (Int.le_of_lt (Nm.two_pos T))
                have := BL.1
                omega
          have TR : Calls Tryz.prog 58 #[.slice p n cap] w fun r w' => r = .returned (.int .i64 (T : Int)) ∧ w' = w := by
            refine (refTrail_any p n cap zs w ha).mono ?_
            rintro r w' ⟨⟨t, rfl, h⟩, rfl⟩
            rw [hV] at h
            rw [Nm.Trl.unique h hT]
            exact ⟨rfl, rfl⟩
          obtain ⟨J, hJ⟩ : ∃ J : Nat, u + (J : Int) = (L : Int) + e ∨ (J = 0 ∧ (L : Int) + e ≤ u) := ⟨((L : Int) + e - u).toNat, by omega⟩
          have key := zround_core neg p n cap w e u L U J T more (decide ((T : Int) + e < u - 1)) (fun j => Ie.dgs V (u + (j : Int) - e)) (fun j => Ie.dgt V (u + (j : Int) - e)) (Ie.dgt V (u - 1 - e)) BG B1
            (fun j hj ii hii => by subst hii; exact refBit_dgt p n cap zs V _ w ha hV (by omega)) (fun ii hii => by subst hii; exact refBit_dgt p n cap zs V _ w ha hV (by omega)) TR
            (by omega) hL2 (by omega) (by omega) (by omega) (by omega) hU (by omega) hu hJ (fun j _ => Ie.dgs_bd V _ L v0 BL.1 (by omega))
            (Ie.dgs_top V _ L v0 BL.1 (by omega)) (fun j _ => by
              have := Ie.dgs_step V (u + (j : Int) - e)
              rw [show u + (j : Int) - e + 1 = u + ((j + 1 : Nat) : Int) - e by omega] at this
              exact this)
            (by have := (Ie.dgs_step V (u - 1 - e)).2; omega) rfl ?_
          · refine key.mono ?_
            rintro r w' ⟨⟨up, rfl, hup⟩, rfl⟩
            refine ⟨_, rfl, ?_, rfl⟩
            simp only [Int.natCast_zero, Int.add_zero] at hup ⊢
            by_cases hk : u ≤ e
            · obtain ⟨j, hj⟩ : ∃ j : Nat, e - u = (j : Int) := ⟨(e - u).toNat, by omega⟩
              have hd : Ie.dgt V (u - 1 - e) = 0 := by rw [Ie.dgt, if_neg (by omega)]
              have hup' : up = false := by
                cases up
                · rfl
                · have := (hup.1 rfl).1; omega
              have hg : Ie.dgs V (u - e) = V * 2 ^ j := by
                rw [Ie.dgs]
                rcases Nat.eq_zero_or_pos j with h | h
                · rw [if_pos (by omega), h, show (u - e).toNat = 0 by omega, Int.pow_zero, Int.ediv_one, Int.mul_one]
                · rw [if_neg (by omega), show (-(u - e)).toNat = j by omega]
              rw [hup', hg]
              have := Ie.rnd_exact V e L j U more hv hp hL1 BL.1 (by omega) (by omega) (by omega) (by omega)
              simpa using this
            · obtain ⟨k, hk⟩ : ∃ k : Nat, u - e = (k : Int) + 1 := ⟨(u - e - 1).toNat, by omega⟩
              have hg : Ie.dgs V (u - e) = V / 2 ^ (k + 1) := by rw [Ie.dgs, if_pos (by omega), show (u - e).toNat = k + 1 by omega]
              have hd : Ie.dgt V (u - 1 - e) = V / 2 ^ k % 2 := by rw [Ie.dgt, if_pos (by omega), show (u - 1 - e).toNat = k by omega]
              have hl := Sh.lost_iff (n := k) hT hv
              rw [hg] at hup ⊢
              refine Ie.rnd_cut V e L (k + 1) U more up hv hp hL1 BL.1 (by omega) (by omega) (by omega) (by omega) ?_
              rw [hup, Nat.add_sub_cancel, hd]
              have hr : decide ((T : Int) + e < u - 1) = true ↔ V % 2 ^ k ≠ 0 := by
                rw [decide_eq_true_iff]
                have h2 : (T : Int) < (k : Int) ↔ V % 2 ^ k ≠ 0 := by simpa only [decide_eq_decide] using hl
                rw [← h2]
                omega
              constructor
              · rintro ⟨g1, g | g | g⟩
                · exact ⟨by omega, g1, .inr (.inr (hr.1 g))⟩
                · exact ⟨by omega, g1, .inl g⟩
                · exact ⟨by omega, g1, .inr (.inl g)⟩
              · rintro ⟨_, g1, g | g | g⟩
                · exact ⟨g1, .inr (.inl g)⟩
                · exact ⟨g1, .inr (.inr g)⟩
                · exact ⟨g1, .inl (hr.2 g)⟩
          · intro hU0
            have hue : u = (L : Int) + e - 53 := by omega
            rw [Ie.dgs]
            have e52 : (2 : Int) ^ 52 = 4503599627370496 := by decide
            by_cases hz : 0 ≤ u + ((0 : Nat) : Int) - e
            · rw [if_pos hz, Int.le_ediv_iff_mul_le (Nm.two_pos _)]
              rw [show L - 1 = 52 + (u + ((0 : Nat) : Int) - e).toNat by omega, Nm.two_add, e52] at hp
              exact hp
            · rw [if_neg hz]
              have g1 : (2 : Int) ^ (L - 1 + (-(u + ((0 : Nat) : Int) - e)).toNat) ≤ V * 2 ^ (-(u + ((0 : Nat) : Int) - e)).toNat := by rw [Nm.two_add]; exact Int.mul_le_mul_of_nonneg_right hp (Int.le_of_lt (Nm.two_pos _))
              rw [show L - 1 + (-(u + ((0 : Nat) : Int) - e)).toNat = 52 by omega, e52] at g1
              exact g1

set_option maxRecDepth 100000 in
theorem zround_big (neg : Bool) (p : Option Addr) (n cap : Nat) (zs : List Int) (w : World) (ha : Arg w p n cap zs) (tz : 4096 < Nm.tsize zs) (e : Int) (more : Bool) :
    Calls Tryz.prog 26 #[.bool neg, .slice p n cap, .int .i64 e, .bool more] w fun r w' => r = .returned (.tuple #[.int .u64 0, .int .i64 2]) ∧ w' = w := by
  have H1 := hid (refBig_is true p n cap zs w ha (by simp; omega))
  clear ha tz
  go_enter Tryz.func26, Tryz.ntmps26
  go_wp2_with fail
  refine H1.out.mono ?_
  rintro e' w' ⟨rfl, rfl⟩
  go_wp2_with fail
  go_ret2
  exact ⟨rfl, rfl⟩
end Go.Proofs.YtljpmddjcfkonaaGreatDoor
