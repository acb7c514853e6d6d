/-
  numeral's spread.
-/
import Derived.Test.YtbdilikdenhnkaaDoorRD
import Derived.Test.YtbdilikdenhnkaaDoorQDivOk
import Derived.Deep.RegionWith
import Derived.Deep.CutRange
import Derived.Deep.DeepFit
namespace Go.Proofs.YtbdilikdenhnkaaDoor
open Go.RowKit Go.Deep

/-- The powers b, b^2, b^4 .., in blocks below g. -/
def Pows (g : Nat) (b : Int) (pm : Option Addr) (K : Nat) (w : World) : Prop :=
  ∀ s, s < K → ∃ gm r us, pm = some ⟨gm, 0, none⟩ ∧ gm < g ∧ w.cell? ⟨gm, s, none⟩ = some (.slice r (List.length us) (List.length us)) ∧ Arg w r us.length us.length us ∧ Nm.val us = b ^ (2 ^ s) ∧ Nm.tsize us ≤ 4096 ∧ ∀ a, r = some a → a.block < g

theorem Pows.only {g : Nat} {b : Int} {pm : Option Addr} {K : Nat} {w w' : World} (h : Pows g b pm K w) (k : Only g w w') : Pows g b pm K w' := by
  intro s hs
  obtain ⟨gm, r, us, h1, h2, h3, h4, h5, h6, h7⟩ := h s hs
  exact ⟨gm, r, us, h1, h2, k.cell h3 (Nat.ne_of_lt h2), h4.only k (fun a ha => Nat.ne_of_lt (h7 a ha)), h5, h6, h7⟩

/-- What spread leaves behind. -/
def Spread (B : Int) (g o L : Nat) (ds : List Int) (V : Int) (w w' : World) : Prop := OwnB w' g (put ds o (Dn.dg B L V)) ∧ Only g w w'

structure ShutN (p : Prop) : Prop where
  out : p

theorem Ans.smallT {B : Nat} {w : World} {p : Option Addr} {ys : List Int} {n : Int} (h : Ans B w p ys n) (hn : n < Nm.pw 4096) : ys.length ≤ 4096 := by
  have h1 := (Nm.tsize_le_iff h.2.1 4096).2 (by rw [h.2.2.2.1]; exact hn)
  have h2 := h.2.2.1
  omega

theorem Ans.tsN {B : Nat} {w : World} {p : Option Addr} {ys : List Int} {n : Int} (h : Ans B w p ys n) (hn : n < Nm.pw 4096) : Nm.tsize ys ≤ 4096 := (Nm.tsize_le_iff h.2.1 4096).2 (by rw [h.2.2.2.1]; exact hn)

theorem below_drew (w : World) : Below w.heap.size w w.drew := (Below.refl _ _).drew

theorem Ans.onlyF {B g : Nat} {w w' : World} {p : Option Addr} {ys : List Int} {n : Int} (h : Ans B w p ys n) (k : Only g w w') (hp : ∀ a, p = some a → a.block ≠ g) : Ans B w' p ys n :=
  ⟨h.1.only k hp, h.2.1, h.2.2.1, h.2.2.2.1, fun a ha => ⟨(h.2.2.2.2 a ha).1, fun h0 o => by
    have hf := (h.2.2.2.2 a ha).2 h0 o
    have e := k.block a.block (h.1.lt h0 a ha) (hp a ha)
    rw [← hf]
    simp only [World.frozen?, e]⟩⟩

set_option maxRecDepth 100000 in
set_option maxHeartbeats 4000000 in
theorem spread_any (B : Int) (W g K cp : Nat) (pm : Option Addr) (h2 : 2 ≤ B) (h36 : B ≤ 36) (hW1 : 1 ≤ W) (hW : W ≤ 63) (hBW : B ^ W < 18446744073709551616) (hK : K ≤ 18) : ∀ (k : Nat), k ≤ K → k ≤ cp → ∀ (o L cap n c : Nat) (p : Option Addr) (za ds : List Int) (V : Int) (w : World),
    L = W * 2 ^ k → OwnB w g ds → o + L ≤ ds.length → L ≤ cap → cap ≤ 35184372088832 → Arg w p n c za → (∀ a, p = some a → a.block ≠ g) → Nm.val za = V → V < B ^ L → Nm.tsize za ≤ 4096 → Pows g (B ^ W) pm K w →
    Calls Tryd.prog 25 #[.slice (some ⟨g, o, none⟩) L cap, .slice p n c, .slice pm k cp, .int .u64 B] w fun e w' => e = .returned (.tuple #[]) ∧ Spread B g o L ds V w w' := by
  intro k
  induction k with
  | zero =>
    intro _ _ o L cap n c p za ds V w hL hd hol hc hcm ha hp hV hV1 ht hP
    rw [Nat.pow_zero, Nat.mul_one] at hL
    subst hL
    exact spread_zero B L g o cap cp n c p pm za ds V w h2 h36 hW hd hol ha hV (by omega)
  | succ k ih =>
    intro hkK hkc o L cap n c p za ds V w hL hd hol hc hcm ha hp hV hV1 ht hP
    obtain ⟨H, hH⟩ : ∃ H, W * 2 ^ k = H := ⟨_, rfl⟩
    have hLH : L = H + H := by rw [hL, Nat.pow_succ, ← Nat.mul_assoc, hH]; omega
    subst hLH
    have hB1 : 0 < B := by omega
    have hV0 : 0 ≤ V := by rw [← hV]; exact (Nm.val_bd za ha.2.2.2.2).1
    obtain ⟨gm, r, us, e1, e2, hcell, hr, hus, htu, hrb⟩ := hP k (by omega)
    subst e1
    have ePk : Nm.val us = B ^ H := by rw [hus, ← Int.pow_mul, hH]
    have hPk : 0 < B ^ H := Int.pow_pos hB1
    have htu0 : 0 < Nm.tsize us := by
      rcases Nat.eq_zero_or_pos (Nm.tsize us) with c | c
      · have := (Nm.tsize_zero_iff hr.2.2.2.2).1 c
        omega
      · exact c
    have DM := hid (divMod_ok p r n c _ _ za us w ha hr ht htu htu0)
    rw [hV, ePk] at DM
    have vh0 : 0 ≤ V / B ^ H := Int.ediv_nonneg hV0 (Int.le_of_lt hPk)
    have vh : V / B ^ H < B ^ H := Int.ediv_lt_of_lt_mul hPk (by rw [← Int.pow_add]; exact hV1)
    have vl : V % B ^ H < B ^ H := Int.emod_lt_of_pos _ hPk
    have vV : V < Nm.pw 4096 := by rw [← hV]; exact (Nm.tsize_le_iff ha.2.2.2.2 4096).1 ht
    have vhp : V / B ^ H < Nm.pw 4096 := Int.lt_of_le_of_lt (Int.ediv_le_self _ hV0) vV
    have vlp : V % B ^ H < Nm.pw 4096 := by
      have h1 := Int.emod_add_mul_ediv V (B ^ H)
      have h2 := Int.mul_nonneg (Int.le_of_lt hPk) vh0
      exact Int.lt_of_le_of_lt (by omega) vV
    have I1 : ShutN (∀ (w1 : World) (q : Option Addr) (os : List Int), OwnB w1 g ds → Ans w.heap.size w1 q os (V / B ^ H) → Pows g (B ^ W) (some ⟨gm, 0, none⟩) K w1 →
        Calls Tryd.prog 25 #[.slice (some ⟨g, o, none⟩) H cap, .slice q (List.length os) (List.length os), .slice (some ⟨gm, 0, none⟩) k cp, .int .u64 B] w1 fun e w' => e = .returned (.tuple #[]) ∧ Spread B g o H ds (V / B ^ H) w1 w') :=
      ⟨fun w1 q os a1 a2 a3 => ih (by omega) (by omega) o H cap _ _ q os ds _ w1 hH.symm a1 (by omega) (by omega) hcm (a2.arg (by have := a2.smallT vhp; omega)) (fun a ha => by have := a2.2.2.2.2 a ha; have := hd.lt; omega) a2.2.2.2.1 vh (a2.tsN vhp) a3⟩
    have I2 : ShutN (∀ (H2 : Nat) (w1 : World) (q : Option Addr) (os ds1 : List Int), H2 = H → OwnB w1 g ds1 → ds1.length = ds.length → Ans w.heap.size w1 q os (V % B ^ H) → Pows g (B ^ W) (some ⟨gm, 0, none⟩) K w1 →
        Calls Tryd.prog 25 #[.slice (some ⟨g, o + H, none⟩) H2 (cap - H), .slice q (List.length os) (List.length os), .slice (some ⟨gm, 0, none⟩) k cp, .int .u64 B] w1 fun e w' => e = .returned (.tuple #[]) ∧ Spread B g (o + H) H ds1 (V % B ^ H) w1 w') :=
      ⟨fun H2 w1 q os ds1 a0 a1 al a2 a3 => by subst a0; exact ih (by omega) (by omega) (o + H2) H2 (cap - H2) _ _ q os ds1 _ w1 hH.symm a1 (by omega) (by omega) (by omega) (a2.arg (by have := a2.smallT vlp; omega)) (fun a ha => by have := a2.2.2.2.2 a ha; have := hd.lt; omega) a2.2.2.2.1 vl (a2.tsN vlp) a3⟩
    have FIN : ShutN (∀ w1 w2 w3 w4 : World, Below w.heap.size w w1 → Spread B g o H ds (V / B ^ H) w1 w2 → Only g w2 w3 → Spread B g (o + H) H (put ds o (Dn.dg B H (V / B ^ H))) (V % B ^ H) w3 w4 → Spread B g o (H + H) ds V w w4) := by
      refine ⟨fun w1 w2 w3 w4 b1 s1 b2 s2 => ?_⟩
      have e1 := s2.1
      have hl := Dn.dg_length B H (V / B ^ H)
      have hl2 := Dn.dg_length B H (V % B ^ H)
      have e2 := put_two ds o (Dn.dg B H (V / B ^ H)) (Dn.dg B H (V % B ^ H)) (by rw [hl, hl2]; omega)
      rw [hl] at e2
      rw [e2, ← Dn.dg_split hB1] at e1
      exact ⟨e1, ((Only.of_below b1).trans s1.2).trans (b2.trans s2.2)⟩
    have PL : Hid ((put ds o (Dn.dg B H (V / B ^ H))).length = ds.length) := put_length _ _ _ (by rw [Dn.dg_length]; omega)
    obtain ⟨L, HL⟩ : ∃ L, Hid (H + H = L) := ⟨_, rfl⟩
    obtain ⟨K1, HK1⟩ : ∃ K1, Hid (k + 1 = K1) := ⟨_, rfl⟩
    have r1 : ((K1 : Int) == 0) = false := by rw [beq_eq_false_iff_ne]; have := HK1.out; omega
    have r2 : (K1 : Int) - 1 = (k : Int) := by have := HK1.out; omega
    have r3 : (L : Int) / 2 = (H : Int) := by have := HL.out; omega
    have r4 : (L : Int).tdiv 2 = (H : Int) := by have := HL.out; rw [Int.tdiv_eq_ediv_of_nonneg (by omega)]; omega
    have hk1 : (k : Int) < (K1 : Int) := by have := HK1.out; omega
    have hk18 : (k : Int) ≤ 18 := by omega
    have hH1 : 1 ≤ H := by rw [← hH]; exact Nat.mul_pos (by omega) (Nat.pow_pos (by omega))
    have hHc : H ≤ cap := by omega
    have hne : ¬ cap = H := by omega
    have hne2 : ¬ L = H := by have := HL.out; omega
    have hHL : H ≤ L := by have := HL.out; omega
    have hkc2 : k ≤ cp := by omega
    have hLc : L ≤ cap := by have := HL.out; omega
    have OB := hid hd
    have HG := hid hd.lt
    have PW := hid hP
    rw [HL.out] at FIN
    rw [HL.out, HK1.out]
    clear ih hL hd hol hc ha hp hV hV1 ht hP hus hr htu hrb ePk htu0 vh0 vh vl vV vhp vlp e2 hkK hkc hH hBW hV0 hPk
    go_enter Tryd.func25, Tryd.ntmps25
    go_wp2_with fail
    refine DM.out.mono ?_
    rintro e w1 ⟨q1, os1, q2, os2, rfl, A1, A2, d1⟩
    have SA1 := hid A1
    have SA2 := hid A2
    have D1 := hid d1
    have OB1 := hid (OB.out.below d1 OB.out.lt)
    have PW1 := hid (PW.out.only (Only.of_below d1))
    clear A1 A2 d1 DM OB PW hcell
    have C1 := hid (I1.out w1.drew q1 os1 OB1.out (SA1.out.below (below_drew w1) (Nat.le_refl _)) (PW1.out.only (Only.of_below (below_drew w1))))
    go_upto_region 8 with fail
    go_cut [] from 57 to 65 (fun wx => Hid (Spread B g o H ds (V / B ^ H) w1 wx))
    case first =>
      go_region_with (go_at_call 25; refine C1.out.mono ?_; rintro e w2 ⟨rfl, s2⟩; have F : Hid (Spread B g o H ds (V / B ^ H) w1 w2) := ⟨s2.1, (Only.of_below (below_drew w1)).trans s2.2⟩; clear s2)
      all_goals (go_wp2_with fail; go_meet; exact F)
    case rest =>
      have SA3 : Hid (Ans w.heap.size wc q2 os2 (V % B ^ H)) := SA2.out.onlyF hcut.out.2 (fun a ha => by have := SA2.out.2.2.2.2 a ha; have := HG.out; omega)
      have PW2 := hid (PW1.out.only hcut.out.2)
      have C2 := hid (I2.out (L - H) wc.drew q2 os2 _ (by have := HL.out; omega) hcut.out.1 PL.out (SA3.out.below (below_drew wc) (Nat.le_refl _)) (PW2.out.only (Only.of_below (below_drew wc))))
      clear C1 SA1 SA2 PW1 OB1 SA3 PW2 I1 I2
      go_upto_region 9 with fail
      go_region_with (go_at_call 25; go_must (go_fit C2.out); rintro e w3 ⟨rfl, s3⟩; have F : Hid (Spread B g o L ds V w w3) := FIN.out w1 wc wc.drew w3 D1.out hcut.out (Only.of_below (below_drew wc)) s3; clear s3)
      all_goals (go_wp2_with fail; go_end0; exact ⟨rfl, F.out⟩)
end Go.Proofs.YtbdilikdenhnkaaDoor
