/-
  Texts put together: NSpread, NWritten, NInBase, FDigits, FExact, FExact2.
-/
import Derived.Test.YtobiapniidaibaaGreatDoorWAF
import Derived.Test.YtobiapniidaibaaGreatDoorWAR
import Derived.Deep.RegionWith
import Derived.Deep.CutRange
import Derived.Deep.DeepFit
import Derived.Test.YtobiapniidaibaaGreatDoorWAP
import Derived.Test.YtobiapniidaibaaGreatDoorWAD
import Derived.Test.YtobiapniidaibaaGreatDoorWAG
import Derived.Test.YtobiapniidaibaaGreatDoorWAK
import Derived.Test.YtobiapniidaibaaGreatDoorWAN
import Derived.Test.YtobiapniidaibaaGreatDoorWAL
import Derived.Test.YtobiapniidaibaaGreatDoorWAH
import Derived.Deep.RegionHeld3
namespace Go.Proofs.YtobiapniidaibaaGreatDoor
open Go.RowKit Go.Deep

/-- The powers b, b^2, b^4 .., in blocks below g. -/
def Pows (g : Nat) (b : Int) (pm : Option Addr) (K : Nat) (w : World) : Prop :=
  ∀ s, s < K → ∃ gm r us, pm = some ⟨gm, 0, none⟩ ∧ gm < g ∧ w.cell? ⟨gm, s, none⟩ = some (.slice r (List.length us) (List.length us)) ∧ Arg w r us.length us.length us ∧ Nm.val us = b ^ (2 ^ s) ∧ Nm.tsize us ≤ 4096 ∧ ∀ a, r = some a → a.block < g

theorem Pows.only {g : Nat} {b : Int} {pm : Option Addr} {K : Nat} {w w' : World} (h : Pows g b pm K w) (k : Only g w w') : Pows g b pm K w' := by
  intro s hs
  obtain ⟨gm, r, us, h1, h2, h3, h4, h5, h6, h7⟩ := h s hs
  exact ⟨gm, r, us, h1, h2, k.cell h3 (Nat.ne_of_lt h2), h4.only k (fun a ha => Nat.ne_of_lt (h7 a ha)), h5, h6, h7⟩

/-- What spread leaves behind. -/
def Spread (B : Int) (g o L : Nat) (ds : List Int) (V : Int) (w w' : World) : Prop := OwnB w' g (put ds o (Dn.dg B L V)) ∧ Only g w w'

structure ShutN (p : Prop) : Prop where
  out : p

theorem Ans.smallT {B : Nat} {w : World} {p : Option Addr} {ys : List Int} {n : Int} (h : Ans B w p ys n) (hn : n < Nm.pw 4096) : ys.length ≤ 4096 := by
  have h1 := (Nm.tsize_le_iff h.2.1 4096).2 (by rw [h.2.2.2.1]; exact hn)
  have h2 := h.2.2.1
  omega

theorem Ans.tsN {B : Nat} {w : World} {p : Option Addr} {ys : List Int} {n : Int} (h : Ans B w p ys n) (hn : n < Nm.pw 4096) : Nm.tsize ys ≤ 4096 := (Nm.tsize_le_iff h.2.1 4096).2 (by rw [h.2.2.2.1]; exact hn)

theorem below_drew (w : World) : Below w.heap.size w w.drew := (Below.refl _ _).drew

set_option maxRecDepth 100000 in
set_option maxHeartbeats 4000000 in
theorem spread_any (B : Int) (W g K cp : Nat) (pm : Option Addr) (h2 : 2 ≤ B) (h36 : B ≤ 36) (hW1 : 1 ≤ W) (hW : W ≤ 63) (hBW : B ^ W < 18446744073709551616) (hK : K ≤ 18) : ∀ (k : Nat), k ≤ K → k ≤ cp → ∀ (o L cap n c : Nat) (p : Option Addr) (za ds : List Int) (V : Int) (w : World),
    L = W * 2 ^ k → OwnB w g ds → o + L ≤ ds.length → L ≤ cap → cap ≤ 35184372088832 → Arg w p n c za → (∀ a, p = some a → a.block ≠ g) → Nm.val za = V → V < B ^ L → Nm.tsize za ≤ 4096 → Pows g (B ^ W) pm K w →
    Calls Tryz.prog 117 #[.slice (some ⟨g, o, none⟩) L cap, .slice p n c, .slice pm k cp, .int .u64 B] w fun e w' => e = .returned (.tuple #[]) ∧ Spread B g o L ds V w w' := by
  intro k
  induction k with
  | zero =>
    intro _ _ o L cap n c p za ds V w hL hd hol hc hcm ha hp hV hV1 ht hP
    rw [Nat.pow_zero, Nat.mul_one] at hL
    subst hL
    exact spread_zero B L g o cap cp n c p pm za ds V w h2 h36 hW hd hol ha hV (by omega)
  | succ k ih =>
    intro hkK hkc o L cap n c p za ds V w hL hd hol hc hcm ha hp hV hV1 ht hP
    obtain ⟨H, hH⟩ : ∃ H, W * 2 ^ k = H := ⟨_, rfl⟩
    have hLH : L = H + H := by rw [hL, Nat.pow_succ, ← Nat.mul_assoc, hH]; omega
    subst hLH
    have hB1 : 0 < B := by omega
    have hV0 : 0 ≤ V := by rw [← hV]; exact (Nm.val_bd za ha.2.2.2.2).1
    obtain ⟨gm, r, us, e1, e2, hcell, hr, hus, htu, hrb⟩ := hP k (by omega)
    subst e1
    have ePk : Nm.val us = B ^ H := by rw [hus, ← Int.pow_mul, hH]
    have hPk : 0 < B ^ H := Int.pow_pos hB1
    have htu0 : 0 < Nm.tsize us := by
      rcases Nat.eq_zero_or_pos (Nm.tsize us) with c | c
      · have := (Nm.tsize_zero_iff hr.2.2.2.2).1 c
        omega
      · exact c
    have DM := hid (divMod_ok p r n c _ _ za us w ha hr ht htu htu0)
    rw [hV, ePk] at DM
    have vh0 : 0 ≤ V / B ^ H := Int.ediv_nonneg hV0 (Int.le_of_lt hPk)
    have vh : V / B ^ H < B ^ H := Int.ediv_lt_of_lt_mul hPk (by rw [← Int.pow_add]; exact hV1)
    have vl : V % B ^ H < B ^ H := Int.emod_lt_of_pos _ hPk
    have vV : V < Nm.pw 4096 := by rw [← hV]; exact (Nm.tsize_le_iff ha.2.2.2.2 4096).1 ht
    have vhp : V / B ^ H < Nm.pw 4096 := Int.lt_of_le_of_lt (Int.ediv_le_self _ hV0) vV
    have vlp : V % B ^ H < Nm.pw 4096 := by
      have h1 := Int.emod_add_mul_ediv V (B ^ H)
      have h2 := Int.mul_nonneg (Int.le_of_lt hPk) vh0
      exact Int.lt_of_le_of_lt (by omega) vV
    have I1 : ShutN (∀ (w1 : World) (q : Option Addr) (os : List Int), OwnB w1 g ds → Ans w.heap.size w1 q os (V / B ^ H) → Pows g (B ^ W) (some ⟨gm, 0, none⟩) K w1 →
        Calls Tryz.prog 117 #[.slice (some ⟨g, o, none⟩) H cap, .slice q (List.length os) (List.length os), .slice (some ⟨gm, 0, none⟩) k cp, .int .u64 B] w1 fun e w' => e = .returned (.tuple #[]) ∧ Spread B g o H ds (V / B ^ H) w1 w') :=
      ⟨fun w1 q os a1 a2 a3 => ih (by omega) (by omega) o H cap _ _ q os ds _ w1 hH.symm a1 (by omega) (by omega) hcm (a2.arg (by have := a2.smallT vhp; omega)) (fun a ha => by have := a2.2.2.2.2 a ha; have := hd.lt; omega) a2.2.2.2.1 vh (a2.tsN vhp) a3⟩
    have I2 : ShutN (∀ (H2 : Nat) (w1 : World) (q : Option Addr) (os ds1 : List Int), H2 = H → OwnB w1 g ds1 → ds1.length = ds.length → Ans w.heap.size w1 q os (V % B ^ H) → Pows g (B ^ W) (some ⟨gm, 0, none⟩) K w1 →
        Calls Tryz.prog 117 #[.slice (some ⟨g, o + H, none⟩) H2 (cap - H), .slice q (List.length os) (List.length os), .slice (some ⟨gm, 0, none⟩) k cp, .int .u64 B] w1 fun e w' => e = .returned (.tuple #[]) ∧ Spread B g (o + H) H ds1 (V % B ^ H) w1 w') :=
      ⟨fun H2 w1 q os ds1 a0 a1 al a2 a3 => by subst a0; exact ih (by omega) (by omega) (o + H2) H2 (cap - H2) _ _ q os ds1 _ w1 hH.symm a1 (by omega) (by omega) (by omega) (a2.arg (by have := a2.smallT vlp; omega)) (fun a ha => by have := a2.2.2.2.2 a ha; have := hd.lt; omega) a2.2.2.2.1 vl (a2.tsN vlp) a3⟩
    have FIN : ShutN (∀ w1 w2 w3 w4 : World, Below w.heap.size w w1 → Spread B g o H ds (V / B ^ H) w1 w2 → Only g w2 w3 → Spread B g (o + H) H (put ds o (Dn.dg B H (V / B ^ H))) (V % B ^ H) w3 w4 → Spread B g o (H + H) ds V w w4) := by
      refine ⟨fun w1 w2 w3 w4 b1 s1 b2 s2 => ?_⟩
      have e1 := s2.1
      have hl := Dn.dg_length B H (V / B ^ H)
      have hl2 := Dn.dg_length B H (V % B ^ H)
      have e2 := put_two ds o (Dn.dg B H (V / B ^ H)) (Dn.dg B H (V % B ^ H)) (by rw [hl, hl2]; omega)
      rw [hl] at e2
      rw [e2, ← Dn.dg_split hB1] at e1
      exact ⟨e1, ((Only.of_below b1).trans s1.2).trans (b2.trans s2.2)⟩
    have PL : Hid ((put ds o (Dn.dg B H (V / B ^ H))).length = ds.length) := put_length _ _ _ (by rw [Dn.dg_length]; omega)
    obtain ⟨L, HL⟩ : ∃ L, Hid (H + H = L) := ⟨_, rfl⟩
    obtain ⟨K1, HK1⟩ : ∃ K1, Hid (k + 1 = K1) := ⟨_, rfl⟩
    have r1 : ((K1 : Int) == 0) = false := by rw [beq_eq_false_iff_ne]; have := HK1.out; omega
    have r2 : (K1 : Int) - 1 = (k : Int) := by have := HK1.out; omega
    have r3 : (L : Int) / 2 = (H : Int) := by have := HL.out; omega
    have r4 : (L : Int).tdiv 2 = (H : Int) := by have := HL.out; rw [Int.tdiv_eq_ediv_of_nonneg (by omega)]; omega
    have hk1 : (k : Int) < (K1 : Int) := by have := HK1.out; omega
    have hk18 : (k : Int) ≤ 18 := by omega
    have hH1 : 1 ≤ H := by rw [← hH]; exact Nat.mul_pos (by omega) (Nat.pow_pos (by omega))
    have hHc : H ≤ cap := by omega
    have hne : ¬ cap = H := by omega
    have hne2 : ¬ L = H := by have := HL.out; omega
    have hHL : H ≤ L := by have := HL.out; omega
    have hkc2 : k ≤ cp := by omega
    have hLc : L ≤ cap := by have := HL.out; omega
    have OB := hid hd
    have HG := hid hd.lt
    have PW := hid hP
    rw [HL.out] at FIN
    rw [HL.out, HK1.out]
    clear ih hL hd hol hc ha hp hV hV1 ht hP hus hr htu hrb ePk htu0 vh0 vh vl vV vhp vlp e2 hkK hkc hH hBW hV0 hPk
    go_enter Tryz.func117, Tryz.ntmps117
    go_wp2_with fail
    refine DM.out.mono ?_
    rintro e w1 ⟨q1, os1, q2, os2, rfl, A1, A2, d1⟩
    have SA1 := hid A1
    have SA2 := hid A2
    have D1 := hid d1
    have OB1 := hid (OB.out.below d1 OB.out.lt)
    have PW1 := hid (PW.out.only (Only.of_below d1))
    clear A1 A2 d1 DM OB PW hcell
    have C1 := hid (I1.out w1.drew q1 os1 OB1.out (SA1.out.below (below_drew w1) (Nat.le_refl _)) (PW1.out.only (Only.of_below (below_drew w1))))
    go_upto_region 8 with fail
    go_cut [] from 57 to 65 (fun wx => Hid (Spread B g o H ds (V / B ^ H) w1 wx))
    case first =>
      go_region_with (go_at_call 117; refine C1.out.mono ?_; rintro e w2 ⟨rfl, s2⟩; have F : Hid (Spread B g o H ds (V / B ^ H) w1 w2) := ⟨s2.1, (Only.of_below (below_drew w1)).trans s2.2⟩; clear s2)
      all_goals (go_wp2_with fail; go_meet; exact F)
    case rest =>
      have SA3 : Hid (Ans w.heap.size wc q2 os2 (V % B ^ H)) := ⟨SA2.out.1.only hcut.out.2 (fun a ha => by have := SA2.out.2.2.2.2 a ha; have := HG.out; omega), SA2.out.2⟩
      have PW2 := hid (PW1.out.only hcut.out.2)
      have C2 := hid (I2.out (L - H) wc.drew q2 os2 _ (by have := HL.out; omega) hcut.out.1 PL.out (SA3.out.below (below_drew wc) (Nat.le_refl _)) (PW2.out.only (Only.of_below (below_drew wc))))
      clear C1 SA1 SA2 PW1 OB1 SA3 PW2 I1 I2
      go_upto_region 9 with fail
      go_region_with (go_at_call 117; go_must (go_fit C2.out); rintro e w3 ⟨rfl, s3⟩; have F : Hid (Spread B g o L ds V w w3) := FIN.out w1 wc wc.drew w3 D1.out hcut.out (Only.of_below (below_drew wc)) s3; clear s3)
      all_goals (go_wp2_with fail; go_end0; exact ⟨rfl, F.out⟩)
end Go.Proofs.YtobiapniidaibaaGreatDoor

namespace Go.Proofs.YtobiapniidaibaaGreatDoor
open Go.RowKit Go.Deep

/-- The letters of a row of digits. -/
def lets (lt ds : List Int) : List Int := ds.map (fun d => lt.getD d.toNat 0)

/-- The list of powers, as spread wants it. -/
theorem RowsIn.pows {base g : Nat} {b A : Int} {pm : Option Addr} {K cp : Nat} {l : List (Option Addr × List Int)} {w w' : World} (h : RowsIn base b A (.slice pm K cp) l w) (hl : l.length = K) (hg : w.heap.size ≤ g) (hb : Below w.heap.size w w') (hA : A < Nm.pw 4096) : Pows g b pm K w' := by
  intro s hs
  have he : l[s]? = some l[s] := List.getElem?_eq_getElem (by omega)
  obtain ⟨h1, h2⟩ := h.row s _ he
  rcases h.own.2 with ⟨_, h0⟩ | ⟨gm, cp', cur, hv, _⟩
  · omega
  · simp only [Value.slice.injEq] at hv
    obtain ⟨rfl, hK, rfl⟩ := hv
    have hc := h.own.cells (g := gm) rfl s (rowV l[s]) (by rw [List.getElem?_map, he]; rfl)
    rw [Go.WideShapes.add_plain, Nat.zero_add] at hc
    have ht : Nm.tsize (l[s]).2 ≤ 4096 := (Nm.tsize_le_iff h1.2.1 4096).2 (by rw [h1.2.2.2.1]; exact Int.lt_of_le_of_lt h2 hA)
    refine ⟨gm, (l[s]).1, (l[s]).2, rfl, Nat.lt_of_lt_of_le (cell_lt hc) hg, ?_, ?_, h1.2.2.2.1, ht, fun a ha => Nat.lt_of_lt_of_le (h1.2.2.2.2 a ha).1 hg⟩
    · rw [hb.cell (p := ⟨gm, s, none⟩) (cell_lt hc)]
      exact hc
    · exact (h1.arg (by have := h1.2.2.1; omega)).below hb (Nat.le_refl _)

/-- On the way: the first t digits behind the zeros are letters. -/
def Lett (g J : Nat) (ds lt : List Int) (t : Nat) (w0 wr : World) : Prop :=
  ∃ es, OwnB wr g es ∧ es.length = ds.length ∧ (∀ i, i < t → es.getD (J + i) 0 = lt.getD (ds.getD (J + i) 0).toNat 0) ∧ (∀ i, t ≤ i → es.getD (J + i) 0 = ds.getD (J + i) 0) ∧ Only g w0 wr

theorem Lett.step {g J : Nat} {ds lt : List Int} {t : Nat} {w0 wr : World} (h : Lett g J ds lt t w0 wr) (ht : J + t < ds.length) {x : Int} (hx : x = lt.getD (ds.getD (J + t) 0).toNat 0) : Lett g J ds lt (t + 1) w0 (wr.setCell ⟨g, J + t, none⟩ (.int .u8 x)) := by
  obtain ⟨es, h1, h2, h3, h4, h5⟩ := h
  refine ⟨es.set (J + t) x, h1.set _ _, by simpa using h2, fun i hi => ?_, fun i hi => ?_, h5.trans (Only.set _ _)⟩
  · by_cases e : i = t
    · subst e
      simp [List.getD, show J + i < es.length by omega, hx]
    · have := h3 i (by omega)
      simpa [List.getD, List.getElem?_set, show ¬ t = i by omega] using this
  · have := h4 i (by omega)
    simpa [List.getD, List.getElem?_set, show ¬ t = i by omega] using this

theorem chain' {B : Nat} {a b c : World} (h : Below B a b) (k : Below B b c) : Below B a c := h.trans k

set_option maxRecDepth 100000 in
set_option maxHeartbeats 4000000 in
theorem written_any (p : Option Addr) (n cap : Nat) (za lt : List Int) (V B : Int) (ls : ByteArray) (w : World) (ha : Arg w p n cap za) (hV : Nm.val za = V) (ht : Nm.tsize za ≤ 4096) (h0 : 0 < V) (h2 : 2 ≤ B) (h36 : B ≤ 36) (hls : Str ls lt) (hlt : lt.length = 36) :
    Calls Tryz.prog 89 #[.slice p n cap, .int .u64 B, .string ls] w fun e w' => (∃ s L, e = .returned (.string s) ∧ V < B ^ L ∧ Str s (lets lt (Dn.strip (Dn.dg B L V)))) ∧ Below w.heap.size w w' := by
  have hAs : ShutN (V < Nm.pw 4096) := ⟨by rw [← hV]; exact (Nm.tsize_le_iff ha.2.2.2.2 4096).1 ht⟩
  have HV := hid hV
  have HA := hid ha
  have HT := hid ht
  have HS := hid hls
  have hsz : ls.size = 36 := by rw [hls.size, hlt]
  have GR := hid (group_any B w h2 h36)
  clear ha hV ht hls
  go_enter Tryz.func89, Tryz.ntmps89
  go_wp2_with fail
  refine GR.out.mono ?_
  rintro e w' ⟨⟨W, P, rfl, hP, hW1, hW63, hPl⟩, rfl⟩
  have hP2 : 2 ≤ P := by
    rw [hP, show W = W - 1 + 1 by omega, Int.pow_succ]
    have h1 : 1 ≤ B ^ (W - 1) := by have : 0 < B ^ (W - 1) := Int.pow_pos (by omega); omega
    have h3 := Int.mul_le_mul h1 h2 (by omega) (by omega)
    omega
  have HP := hid hP
  have FU := hid (fromUint_any P w' (by omega) hPl)
  have HPL := hid hPl
  clear GR hP hPl
  go_wp2_with fail
  refine FU.out.mono ?_
  rintro e w1 ⟨r1, os1, rfl, A1, d1⟩
  have SQ := hid (nsquares_any r1 p n cap os1 za P V _ w1 A1 hP2 HPL.out (HA.out.below d1 (Nat.le_refl _)) HV.out HT.out)
  have D1 := hid d1
  clear A1 d1 FU
  go_wp2_with fail
  refine SQ.out.mono ?_
  rintro e w2 ⟨mv, l, rfl, F2⟩
  obtain ⟨pm, cp, hmv, hcp⟩ : ∃ pm cp, mv = .slice pm l.length cp ∧ l.length ≤ cp := by
    rcases F2.out.1.own.2 with ⟨rfl, h0⟩ | ⟨gm, cp, cur, rfl, _, _, h1, _⟩
    · exact ⟨none, 0, by rw [h0], by omega⟩
    · exact ⟨_, cp, rfl, h1⟩
  subst hmv
  obtain ⟨K, HK⟩ : ∃ K, Hid (l.length = K) := ⟨_, rfl⟩
  have hK18 : (K : Int) ≤ 18 := by have := HK.out; have := F2.out.2.2.1; omega
  obtain ⟨L, HL⟩ : ∃ L, Hid (W * 2 ^ K = L) := ⟨_, rfl⟩
  have VL : ShutN (V < B ^ L) := ⟨by
    have h := F2.out.2.1
    rw [HP.out, HK.out, ← Int.pow_mul, HL.out] at h
    exact h⟩
  have D2 := hid (chain D1.out F2.out.2.2.2 (Nat.le_refl _))
  rw [HK.out] at F2 hcp
  rw [HK.out]
  have hL63 : L ≤ 63 * 262144 := by
    have h1 : 2 ^ K ≤ 2 ^ 18 := Nat.pow_le_pow_right (by omega) (by omega)
    have h2 := Nat.mul_le_mul hW63 h1
    have := HL.out
    omega
  have q1 : IntKind.i64.wrap ((W : Int) * 2 ^ K) = (L : Int) := by
    have e : (W : Int) * 2 ^ K = (L : Int) := by rw [← HL.out]; simp
    rw [e, IntKind.wrap_i64]
    omega
  have mk := make8 L (by omega) w2
  have bm : Below w2.heap.size w2 (w2.alloc (.cells (madeCells #[.int .u8 0] L) 5)) := (Below.refl _ _).alloc (Nat.le_refl _) _
  have ob : OwnB (w2.alloc (.cells (madeCells #[.int .u8 0] L) 5)) w2.heap.size (List.replicate L 0) := by rw [made_zero8]; exact OwnB.alloc w2 _
  obtain ⟨w3, hw3⟩ : ∃ w3, w2.alloc (.cells (madeCells #[.int .u8 0] L) 5) = w3 := ⟨_, rfl⟩
  rw [hw3] at mk bm ob
  have D3 := hid (chain D2.out bm (Nat.le_refl _))
  have hzl : 0 < za.length := by
    rcases Nat.eq_zero_or_pos za.length with c | c
    · have := HV.out
      rw [List.eq_nil_of_length_eq_zero c] at this
      simp [Nm.val] at this
      omega
    · exact c
  obtain ⟨g, HG⟩ : ∃ g, Hid (w2.heap.size = g) := ⟨_, rfl⟩
  rw [HG.out] at mk ob
  have PO := F2.out.1.pows HK.out (Nat.le_of_eq HG.out) bm hAs.out
  rw [HP.out] at PO
  have hwg : w'.heap.size ≤ g := by have := D2.out.size; have := HG.out; omega
  have SP := hid (spread_any B W g K cp pm h2 h36 hW1 hW63 (by rw [← HP.out]; exact HPL.out) (by omega) K (Nat.le_refl _) hcp 0 L L n cap p za (List.replicate L 0) V w3 HL.out.symm ob (by simp) (Nat.le_refl _) (by omega) (HA.out.below D3.out (Nat.le_refl _)) (fun a ha => by have := HA.out.2.2.2.1.lt hzl a ha; omega) HV.out VL.out HT.out PO)
  have HWG := hid hwg
  have HW63 := hid hL63
  clear PO bm ob hw3 hcp F2 SQ D1 D2 hwg hL63
  go_wp2_with fail
  refine SP.out.mono ?_
  rintro e w4 ⟨rfl, s4⟩
  obtain ⟨D, hD⟩ : ∃ D, Dn.dg B L V = D := ⟨_, rfl⟩
  have hDl : D.length = L := by rw [← hD]; exact Dn.dg_length B L V
  have O4 : Hid (OwnB w4 g D) := by
    have := s4.1
    rw [hD] at this
    simp only [put, List.take_zero, List.nil_append, hDl, Nat.zero_add, List.drop_replicate, Nat.sub_self, List.replicate_zero, List.append_nil] at this
    exact this
  have N4 := hid s4.2
  have hB0 : 0 < B := by omega
  have DM : Hid (∀ t, 0 ≤ D.getD t 0 ∧ D.getD t 0 < 36) := by
    intro t
    by_cases c : t < D.length
    · have e : D.getD t 0 = D[t] := by simp [List.getD, c]
      have := Dn.dg_mem hB0 L V (D[t]) (by rw [hD]; exact List.getElem_mem c)
      rw [e]
      omega
    · rw [show D.getD t 0 = 0 by simp [List.getD, List.getElem?_eq_none (show D.length ≤ t by omega)]]
      omega
  obtain ⟨J, hJ⟩ : ∃ J, Lead D J := Lead.ex (by
    rw [← hD]
    apply Dn.strip_ne (B := B)
    rw [Dn.tv_dg hB0 L V (by omega) VL.out]
    omega)
  have BT := hid (btrim_any g L J D w4 O4.out hDl hJ)
  have FIN : ShutN (∀ s, Str s (lets lt (D.drop J)) → ∃ s' L, Ending.returned (.string s) = .returned (.string s') ∧ V < B ^ L ∧ Str s' (lets lt (Dn.strip (Dn.dg B L V)))) :=
    ⟨fun s hs => ⟨s, L, rfl, VL.out, by rw [hD, hJ.strip]; exact hs⟩⟩
  have HDL := hid hDl
  have HJL : Hid (J < L) := by show _ < _; have := hJ.lt; omega
  have LE0 : Hid (Lett g J D lt 0 w4 w4) := ⟨D, O4.out, rfl, fun i hi => by omega, fun i _ => rfl, Only.refl _ _⟩
  clear s4 hD hDl hJ SP mk q1 VL O4
  go_wp2_with fail
  refine BT.out.mono ?_
  rintro e w5 ⟨rfl, rfl⟩
  obtain ⟨M, HM⟩ : ∃ M, Hid (L - J = M) := ⟨_, rfl⟩
  rw [HM.out]
  have hM : (M : Int) ≤ 16515072 := by have := HM.out; have := HW63.out; omega
  clear BT
  go_wp2_with fail
  go_loopw [11, 12, 36] (fun _ _ t wr => ∃ j : Nat, t = .int .i64 (j : Int) ∧ j ≤ M ∧ Hid (Lett g J D lt j w5 wr)) (fun _ _ t _ => M - (intOf t).toNat)
  case atStart => exact ⟨0, rfl, Nat.zero_le _, LE0.out⟩
  case round =>
    clear LE0
    obtain ⟨j, rfl, hj, I⟩ := hrel
    by_cases hlt : j < M
    · have hji : (j : Int) < (M : Int) := by omega
      have hJj : J + j < D.length := by have := HDL.out; have := HM.out; omega
      obtain ⟨es, i1, i2, i3, i4, i5⟩ := I.out
      obtain ⟨d, hd, X⟩ : ∃ d, wr.cell? ⟨g, J + j, none⟩ = some (.int .u8 d) ∧ Hid (d = D.getD (J + j) 0) := ⟨_, i1.cell (J + j) (by omega), i4 j (Nat.le_refl _)⟩
      have hfr := i1.free (J + j)
      have hd0 : 0 ≤ d := by rw [X.out]; exact (DM.out _).1
      have hd1 : d < 36 := by rw [X.out]; exact (DM.out _).2
      have ST : Hid (∀ x, x = lt.getD d.toNat 0 → Lett g J D lt (j + 1) w5 (wr.setCell ⟨g, J + j, none⟩ (.int .u8 x))) := fun x hx => I.out.step hJj (by rw [hx, X.out])
      clear i1 i2 i3 i4 i5 I hJj
      go_wp2_with fail
      go_roundw
      case rel => exact ⟨j + 1, by go_num, by omega, ST.out _ (HS.out.at _ _)⟩
      case measure => simp [intOf]; omega
    · obtain rfl : j = M := by omega
      obtain ⟨es, i1, i2, i3, i4, i5⟩ := I.out
      have hxl : (lets lt (D.drop J)).length = j := by simp [lets]; have := HDL.out; have := HM.out; omega
      have CV := run_convert_bytes_arg (P := Tryz.prog) wr 32 5 Tryz.underlying32 Tryz.underlying5 g J j j (lets lt (D.drop J)) hxl (fun i hi => by
        rw [i1.cell (J + i) (by have := HDL.out; have := HM.out; omega), i3 i hi]
        simp [lets, List.getD, List.getElem?_eq_getElem (show J + i < D.length by have := HDL.out; have := HM.out; omega)]) 9 Tryz.underlying9
      have FS := FIN.out _ (Str.of_nums (xs := lets lt (D.drop J)) (fun x hx => by
        obtain ⟨d, _, rfl⟩ := List.mem_map.1 hx
        exact HS.out.atb _))
      have D6 : Hid (Below w'.heap.size w' wr) := chain' D3.out ((N4.out.trans i5).below HWG.out D3.out.size)
      have HFS := hid FS
      clear i1 i2 i3 i4 i5 I hxl FS
      go_wp2_with fail
      go_ret
      exact ⟨HFS.out, D6.out⟩
end Go.Proofs.YtobiapniidaibaaGreatDoor

namespace Go.Proofs.YtobiapniidaibaaGreatDoor
open Go.RowKit Go.Deep

def smallL : List Int := [48, 49, 50, 51, 52, 53, 54, 55, 56, 57, 97, 98, 99, 100, 101, 102, 103, 104, 105, 106, 107, 108, 109, 110, 111, 112, 113, 114, 115, 116, 117, 118, 119, 120, 121, 122]
def capL : List Int := [48, 49, 50, 51, 52, 53, 54, 55, 56, 57, 65, 66, 67, 68, 69, 70, 71, 72, 73, 74, 75, 76, 77, 78, 79, 80, 81, 82, 83, 84, 85, 86, 87, 88, 89, 90]
def lettersOf (up : Bool) : List Int := if up then capL else smallL

/-- What InBase tells. -/
inductive InIs (zs : List Int) (B : Int) (up : Bool) : List Int → Int → Prop
  | big : 4096 < Nm.tsize zs → InIs zs B up [] 2
  | base : Nm.tsize zs ≤ 4096 → (B < 2 ∨ 36 < B) → InIs zs B up [] 32
  | zero : Nm.tsize zs = 0 → 2 ≤ B → B ≤ 36 → InIs zs B up [48] 0
  | ok (L : Nat) : 0 < Nm.tsize zs → Nm.tsize zs ≤ 4096 → 2 ≤ B → B ≤ 36 → Nm.val zs < B ^ L → InIs zs B up (lets (lettersOf up) (Dn.strip (Dn.dg B L (Nm.val zs)))) 0

theorem blen_big {zs : List Int} (hl : Nm.Limbs zs) : ∃ L : Nat, blen zs = (L : Int) ∧ (262144 < (L : Int) ↔ 4096 < Nm.tsize zs) ∧ ((L : Int) = 0 ↔ Nm.tsize zs = 0) := by
  obtain ⟨L, l1, l2, l3, l4⟩ := blen_is zs hl
  refine ⟨L, l1, ?_, ?_⟩
  · by_cases h : 0 < Nm.tsize zs
    · have := l4 h
      omega
    · omega
  · by_cases h : 0 < Nm.tsize zs
    · have := l4 h
      omega
    · omega

set_option maxRecDepth 100000 in
set_option maxHeartbeats 4000000 in
theorem inBase_any (p : Option Addr) (n cap : Nat) (za : List Int) (B : Int) (up : Bool) (w : World) (ha : Arg w p n cap za) (hB0 : -9223372036854775808 ≤ B) (hB1 : B ≤ 9223372036854775807) :
    Calls Tryz.prog 63 #[.slice p n cap, .int .i64 B, .bool up] w fun e w' => ∃ s xs E, e = .returned (.tuple #[.string s, .int .i64 E]) ∧ Str s xs ∧ InIs za B up xs E ∧ Below w.heap.size w w' := by
  obtain ⟨L, hL, hbig, hzero⟩ := blen_big ha.2.2.2.2
  have BL := hid (bitLen_isT L p n cap za w ha hL)
  have Z : Hid (Str ⟨#[]⟩ []) := rfl
  by_cases h1 : 4096 < Nm.tsize za
  · have hLi : (262144 : Int) < (L : Int) := hbig.2 h1
    have F : Hid (InIs za B up [] 2) := .big h1
    clear ha hL hbig hzero h1
    go_enter Tryz.func63, Tryz.ntmps63
    go_wp2_with fail
    refine BL.out.mono ?_
    rintro e w' ⟨rfl, rfl⟩
    go_wp2_with fail
    go_ret2
    exact ⟨_, _, _, rfl, Z.out, F.out, Below.refl _ _⟩
  have hLi : (L : Int) ≤ 262144 := by have := hbig.1; omega
  by_cases h2 : B < 2 ∨ 36 < B
  · have F : Hid (InIs za B up [] 32) := .base (by omega) h2
    clear ha hL hbig hzero h1
    rcases h2 with h2 | h2
    · go_enter Tryz.func63, Tryz.ntmps63
      go_wp2_with fail
      refine BL.out.mono ?_
      rintro e w' ⟨rfl, rfl⟩
      go_wp2_with fail
      go_ret2
      exact ⟨_, _, _, rfl, Z.out, F.out, Below.refl _ _⟩
    · go_enter Tryz.func63, Tryz.ntmps63
      go_wp2_with fail
      refine BL.out.mono ?_
      rintro e w' ⟨rfl, rfl⟩
      go_wp2_with fail
      go_ret2
      exact ⟨_, _, _, rfl, Z.out, F.out, Below.refl _ _⟩
  have h3 : 2 ≤ B := by omega
  have h4 : B ≤ 36 := by omega
  by_cases h5 : Nm.tsize za = 0
  · have F : Hid (InIs za B up [48] 0) := .zero h5 h3 h4
    have Z2 : Hid (Str ⟨#[48]⟩ [48]) := rfl
    have hL0 : (L : Int) = 0 := hzero.2 h5
    obtain rfl : L = 0 := by omega
    clear ha hL hbig hzero h1 h2 h5
    go_enter Tryz.func63, Tryz.ntmps63
    go_wp2_with fail
    refine BL.out.mono ?_
    rintro e w' ⟨rfl, rfl⟩
    go_wp2_with fail
    refine BL.out.mono ?_
    rintro e w' ⟨rfl, rfl⟩
    go_wp2_with fail
    go_ret2
    exact ⟨_, _, _, rfl, Z2.out, F.out, Below.refl _ _⟩
  · have hL0 : ((L : Int) == 0) = false := by rw [beq_eq_false_iff_ne]; intro c; exact h5 (hzero.1 c)
    have hv : 0 < Nm.val za := by
      have e1 := Nm.tsize_zero_iff ha.2.2.2.2
      have e2 := (Nm.val_bd za ha.2.2.2.2).1
      omega
    have F : Hid (∀ s L, Nm.val za < B ^ L → Str s (lets (lettersOf up) (Dn.strip (Dn.dg B L (Nm.val za)))) → ∃ s' xs E, Ending.returned (.tuple #[.string s, .int .i64 0]) = .returned (.tuple #[.string s', .int .i64 E]) ∧ Str s' xs ∧ InIs za B up xs E) := fun s L hl hs => ⟨s, _, 0, rfl, hs, .ok L (by omega) (by omega) h3 h4 hl⟩
    have WR : Hid (∀ ls, Str ls (lettersOf up) → Calls Tryz.prog 89 #[.slice p n cap, .int .u64 B, .string ls] w fun e w' => (∃ s L, e = .returned (.string s) ∧ Nm.val za < B ^ L ∧ Str s (lets (lettersOf up) (Dn.strip (Dn.dg B L (Nm.val za))))) ∧ Below w.heap.size w w') :=
      fun ls hls => written_any p n cap za (lettersOf up) _ B ls w ha rfl (by omega) hv h3 h4 hls (by cases up <;> rfl)
    clear ha hL hbig hzero h1 h2 h5 hv
    cases up with
    | true =>
      have W2 := hid (WR.out ⟨#[48, 49, 50, 51, 52, 53, 54, 55, 56, 57, 65, 66, 67, 68, 69, 70, 71, 72, 73, 74, 75, 76, 77, 78, 79, 80, 81, 82, 83, 84, 85, 86, 87, 88, 89, 90]⟩ rfl)
      go_enter Tryz.func63, Tryz.ntmps63
      go_wp2_with fail
      refine BL.out.mono ?_
      rintro e w' ⟨rfl, rfl⟩
      go_wp2_with fail
      refine BL.out.mono ?_
      rintro e w' ⟨rfl, rfl⟩
      go_wp2_with fail
      refine W2.out.mono ?_
      rintro e w1 ⟨⟨s, M, rfl, hM, hs⟩, d1⟩
      have G := hid (F.out s M hM hs)
      have D := hid d1
      clear hM hs d1
      go_wp2_with fail
      go_ret2
      obtain ⟨s', xs, E, k1, k2, k3⟩ := G.out
      exact ⟨s', xs, E, k1, k2, k3, D.out⟩
    | false =>
      have W2 := hid (WR.out ⟨#[48, 49, 50, 51, 52, 53, 54, 55, 56, 57, 97, 98, 99, 100, 101, 102, 103, 104, 105, 106, 107, 108, 109, 110, 111, 112, 113, 114, 115, 116, 117, 118, 119, 120, 121, 122]⟩ rfl)
      go_enter Tryz.func63, Tryz.ntmps63
      go_wp2_with fail
      refine BL.out.mono ?_
      rintro e w' ⟨rfl, rfl⟩
      go_wp2_with fail
      refine BL.out.mono ?_
      rintro e w' ⟨rfl, rfl⟩
      go_wp2_with fail
      refine W2.out.mono ?_
      rintro e w1 ⟨⟨s, M, rfl, hM, hs⟩, d1⟩
      have G := hid (F.out s M hM hs)
      have D := hid d1
      clear hM hs d1
      go_wp2_with fail
      go_ret2
      obtain ⟨s', xs, E, k1, k2, k3⟩ := G.out
      exact ⟨s', xs, E, k1, k2, k3, D.out⟩
end Go.Proofs.YtobiapniidaibaaGreatDoor

namespace Go.Proofs.YtobiapniidaibaaGreatDoor
open Go Go.RowKit Go.Deep

theorem fp10_pw {j : Nat} (h : j ≤ 20000) : (10 : Int) ^ j < Nm.pw 4096 := by
  have h1 := Nat.pow_le_pow_left (show 10 ≤ 2 ^ 4 by decide) j
  rw [← Nat.pow_mul] at h1
  have e1 : ((10 ^ j : Nat) : Int) = 10 ^ j := by simp
  have e2 : ((2 ^ (4 * j) : Nat) : Int) = 2 ^ (4 * j) := by simp
  have h3 : (2 : Int) ^ (4 * j) < 2 ^ 262144 := by
    have h4 := Nm.two_mono (show 4 * j + 1 ≤ 262144 by omega)
    have h5 : (2 : Int) ^ (4 * j + 1) = 2 ^ (4 * j) * 2 := Int.pow_succ _ _
    have h6 : (0 : Int) < 2 ^ (4 * j) := Int.pow_pos (by omega)
    generalize (2 : Int) ^ 262144 = a at *
    omega
  rw [fpw_4096]
  omega

theorem f5_10 (n : Nat) : (5 : Int) ^ n ≤ 10 ^ n := by
  have h1 := Nat.pow_le_pow_left (show 5 ≤ 10 by decide) n
  have e1 : ((10 ^ n : Nat) : Int) = 10 ^ n := by simp
  have e2 : ((5 ^ n : Nat) : Int) = 5 ^ n := by simp
  omega
theorem f2_10 (n : Nat) : (2 : Int) ^ n ≤ 10 ^ n := by
  have h1 := Nat.pow_le_pow_left (show 2 ≤ 10 by decide) n
  have e1 : ((10 ^ n : Nat) : Int) = 10 ^ n := by simp
  have e2 : ((2 ^ n : Nat) : Int) = 2 ^ n := by simp
  omega

theorem fpow5_ok (k : Int) (n : Nat) (w : World) (hk : k = (n : Int)) (hn : n ≤ 20000) :
    Calls Tryz.prog 53 #[.int .i64 k] w fun e w' => ∃ r os, e = .returned (.tuple #[.slice r (List.length os) (List.length os), .int .i64 0]) ∧ Ans w.heap.size w' r os (5 ^ n) ∧ Below w.heap.size w w' := by
  refine (pow5_gives k n w hk (by omega)).mono ?_
  rintro e w' ⟨⟨_, r, os, rfl, A⟩ | ⟨h, _⟩, hB⟩
  · exact ⟨r, os, rfl, A, hB⟩
  · exact absurd (Int.lt_of_le_of_lt (f5_10 n) (fp10_pw hn)) (Int.not_lt.2 h)

/-- s writes T in base 10. -/
structure DigT (T : Int) (s : ByteArray) (xs : List Int) : Prop where
  str : Str s xs
  digs : Digs xs
  val : dv xs = T
  head : xs.getD 0 0 ≠ 48
  ne : xs ≠ []
  len : xs.length ≤ 3000

theorem small_dig : ∀ d : Int, 0 ≤ d → d < 10 → (lettersOf false).getD d.toNat 0 = d + 48 := by
  intro d h0 h1
  obtain ⟨n, rfl⟩ := Int.eq_ofNat_of_zero_le h0
  have : n < 10 := by omega
  match n, this with
  | 0, _ => rfl
  | 1, _ => rfl
  | 2, _ => rfl
  | 3, _ => rfl
  | 4, _ => rfl
  | 5, _ => rfl
  | 6, _ => rfl
  | 7, _ => rfl
  | 8, _ => rfl
  | 9, _ => rfl

theorem dig_lets {T : Int} {L K : Nat} {s : ByteArray} (h0 : 0 < T) (hL : T < 10 ^ L) (hK : K ≤ 2000) (hb : T < 10 ^ K) (hs : Str s (lets (lettersOf false) (Dn.strip (Dn.dg 10 L T)))) : DigT T s (lets (lettersOf false) (Dn.strip (Dn.dg 10 L T))) := by
  have mem : ∀ d ∈ Dn.strip (Dn.dg 10 L T), 0 ≤ d ∧ d < 10 := fun d hd => Dn.dg_mem (by omega) L T d (Dn.strip_mem hd)
  have e : lets (lettersOf false) (Dn.strip (Dn.dg 10 L T)) = (Dn.strip (Dn.dg 10 L T)).map (fun d => d + 48) := List.map_congr_left fun d hd => small_dig d (mem d hd).1 (mem d hd).2
  have v : Dn.tv 10 0 (Dn.strip (Dn.dg 10 L T)) = T := by rw [Dn.tv_strip]; exact Dn.tv_dg (by omega) L T (by omega) hL
  have ne : Dn.strip (Dn.dg 10 L T) ≠ [] := by
    intro c
    rw [c] at v
    simp [Dn.tv] at v
    omega
  have dg : Digs (lets (lettersOf false) (Dn.strip (Dn.dg 10 L T))) := by
    rw [e]
    intro d hd
    obtain ⟨x, hx, rfl⟩ := List.mem_map.1 hd
    have := mem x hx
    omega
  have dvT : dv (lets (lettersOf false) (Dn.strip (Dn.dg 10 L T))) = T := by
    rw [e]
    unfold dv
    rw [List.map_map, show ((fun d : Int => d - 48) ∘ fun d => d + 48) = id from funext fun d => by simp, List.map_id]
    exact v
  have hd : (lets (lettersOf false) (Dn.strip (Dn.dg 10 L T))).getD 0 0 ≠ 48 := by
    rw [e]
    match hm : Dn.strip (Dn.dg 10 L T), ne with
    | x :: ys, _ =>
      have := Dn.strip_head hm
      simp
      omega
  have nn : lets (lettersOf false) (Dn.strip (Dn.dg 10 L T)) ≠ [] := by rw [e]; simpa using ne
  refine ⟨hs, dg, dvT, hd, nn, ?_⟩
  obtain ⟨n, hn⟩ : ∃ n, (lets (lettersOf false) (Dn.strip (Dn.dg 10 L T))).length = n + 1 := ⟨(lets (lettersOf false) (Dn.strip (Dn.dg 10 L T))).length - 1, by have := List.length_pos_iff.2 nn; omega⟩
  have := Fx.head_low dg hn hd
  rw [dvT] at this
  have := Fx.p_lt (a := n) (b := K) (Int.lt_of_le_of_lt this hb)
  omega

set_option maxRecDepth 100000 in
theorem fdigits_any (p : Option Addr) (os : List Int) (B : Nat) (T : Int) (w : World) (K : Nat) (A : Ans B w p os T) (h0 : 0 < T) (hK : K ≤ 2000) (hb : T < 10 ^ K) :
    Calls Tryz.prog 44 #[.slice p (List.length os) (List.length os)] w fun e w' => ∃ s xs, e = .returned (.tuple #[.string s, .int .i64 0]) ∧ DigT T s xs ∧ Below w.heap.size w w' := by
  have hp : T < Nm.pw 4096 := Int.lt_trans hb (fp10_pw (by omega))
  have IB : Hid (Calls Tryz.prog 63 #[.slice p (List.length os) (List.length os), .int .i64 10, .bool false] w fun e w' => ∃ s xs, e = .returned (.tuple #[.string s, .int .i64 0]) ∧ DigT T s xs ∧ Below w.heap.size w w') := by
    refine (inBase_any p _ _ os 10 false w (A.argT hp) (by omega) (by omega)).mono ?_
    rintro e w' ⟨s, xs, E, rfl, hs, h, hB⟩
    have ts := A.tsT hp
    have hv : Nm.val os = T := A.2.2.2.1
    cases h with
    | big c => omega
    | base _ c => omega
    | zero c _ _ =>
      have := (Nm.tsize_zero_iff A.2.1).1 c
      omega
    | ok L c1 c2 c3 c4 c5 =>
      rw [hv] at c5 hs
      exact ⟨s, _, rfl, dig_lets h0 c5 hK hb hs, hB⟩
  clear A h0 hb hp hK
  go_enter Tryz.func44, Tryz.ntmps44
  go_wp2_with fail
  refine IB.out.mono ?_
  rintro e w' ⟨s, xs, rfl, D, hB⟩
  have HD := hid (And.intro D hB)
  clear D hB IB
  go_wp2_with fail
  go_ret2
  exact ⟨s, xs, rfl, HD.out.1, HD.out.2⟩
end Go.Proofs.YtobiapniidaibaaGreatDoor

namespace Go.Proofs.YtobiapniidaibaaGreatDoor
open Go Go.RowKit Go.Deep

theorem fprod_room {q : Int} {n : Nat} (q1 : q < 18446744073709551616) : q * 5 ^ n < 10 ^ (20 + n) := by
  have h1 := f5_10 n
  have h0 : (0 : Int) < 5 ^ n := Int.pow_pos (by omega)
  have h2 : q * 5 ^ n < 18446744073709551616 * 5 ^ n := Int.mul_lt_mul_of_pos_right q1 h0
  rw [Int.pow_add]
  have e : (10 : Int) ^ 20 = 100000000000000000000 := by decide
  rw [e]
  omega

set_option maxRecDepth 100000 in
theorem behind_any (p : Option Addr) (os : List Int) (B : Nat) (q k : Int) (n : Nat) (w : World) (A : Ans B w p os q) (q0 : 0 < q) (q1 : q < 18446744073709551616) (hk : k = (n : Int)) (hn : n ≤ 1074) :
    Calls Tryz.prog 42 #[.slice p (List.length os) (List.length os), .int .i64 k] w fun e w' => ∃ s xs, e = .returned (.string s) ∧ DigT (q * 5 ^ n) s xs ∧ Below w.heap.size w w' := by
  have F := hid (fpow5_ok k n w hk (by omega))
  have MU : Hid (∀ (w1 : World) (r : Option Addr) (zs : List Int), Below w.heap.size w w1 → Ans w.heap.size w1 r zs (5 ^ n) → Calls Tryz.prog 54 #[.slice p (List.length os) (List.length os), .slice r (List.length zs) (List.length zs)] w1 fun e w' => ∃ r os, e = .returned (.tuple #[.slice r (List.length os) (List.length os), .int .i64 0]) ∧ Ans w1.heap.size w' r os (q * 5 ^ n) ∧ Below w1.heap.size w1 w') := by
    intro w1 r zs hB A1
    have A0 := A.below hB (Nat.le_refl _)
    have r0 : q < Nm.pw 4096 := Int.lt_trans (show q < 10 ^ 20 by rw [show (10 : Int) ^ 20 = 100000000000000000000 by decide]; omega) (fp10_pw (by omega))
    have r1 : (5 : Int) ^ n < Nm.pw 4096 := Int.lt_of_le_of_lt (f5_10 n) (fp10_pw (by omega))
    have m := mul_ok p r _ _ _ _ os zs w1 (A0.argT r0) (A1.argT r1) (A0.tsT r0) (A1.tsT r1) (by rw [A0.2.2.2.1, A1.2.2.2.1]; exact Int.lt_trans (fprod_room q1) (fp10_pw (by omega)))
    rw [A0.2.2.2.1, A1.2.2.2.1] at m
    exact m
  have DG : Hid (∀ (w1 : World) (r : Option Addr) (zs : List Int) (B : Nat), Ans B w1 r zs (q * 5 ^ n) → Calls Tryz.prog 44 #[.slice r (List.length zs) (List.length zs)] w1 fun e w' => ∃ s xs, e = .returned (.tuple #[.string s, .int .i64 0]) ∧ DigT (q * 5 ^ n) s xs ∧ Below w1.heap.size w1 w') :=
    fun w1 r zs B A1 => fdigits_any r zs B _ w1 (20 + n) A1 (Int.mul_pos q0 (Int.pow_pos (by omega))) (by omega) (fprod_room q1)
  clear A q0 q1 hk hn
  generalize q * 5 ^ n = T at *
  generalize (5 : Int) ^ n = G at *
  go_enter Tryz.func42, Tryz.ntmps42
  go_wp2_with fail
  refine F.out.mono ?_
  rintro e w1 ⟨r, zs, rfl, A1, B1⟩
  have M1 := hid (MU.out w1 r zs B1 A1)
  have HB := hid B1
  clear A1 B1 MU F
  go_wp2_with fail
  refine M1.out.mono ?_
  rintro e w2 ⟨r2, z2, rfl, A2, B2⟩
  have D2 := hid (DG.out w2 r2 z2 _ A2)
  have HB2 := hid (HB.out.trans (B2.mono HB.out.size))
  clear A2 B2 M1 DG HB
  go_wp2_with fail
  refine D2.out.mono ?_
  rintro e w3 ⟨s, xs, rfl, D3, B3⟩
  have K := hid (And.intro D3 (HB2.out.trans (B3.mono HB2.out.size)))
  clear D3 B3 D2 HB2
  go_wp2_with fail
  go_ret
  exact ⟨s, xs, rfl, K.out.1, K.out.2⟩

/-- The digits of an odd number times a power of five: no zero is at their end. -/
theorem ex_odd {m e q : Int} {t n : Nat} {xs : List Int} {s : ByteArray} (hm : m = 2 ^ t * q) (q0 : 0 < q) (hq : q % 2 = 1) (he : -1074 ≤ e) (hn : (n : Int) = -(e + t)) (D : DigT (q * 5 ^ n) s xs) : Fx.Ex m e xs (e + t) := by
  have hm0 : 0 < m := by rw [hm]; exact Int.mul_pos (Int.pow_pos (by omega)) q0
  obtain ⟨L, hL⟩ : ∃ L, xs.length = L + 1 := ⟨xs.length - 1, by have := List.length_pos_iff.2 D.ne; omega⟩
  have odd : dv xs % 2 = 1 := by
    rw [D.val]
    have : ∀ k : Nat, (5 : Int) ^ k % 2 = 1 := by
      intro k
      induction k with
      | zero => rfl
      | succ k ih => rw [Int.pow_succ]; omega
    rw [Int.mul_emod, hq, this n]
    rfl
  refine ⟨by omega, fun c => by omega, fun _ => ⟨D.digs, D.ne, D.head, ?_⟩, fun _ => ?_⟩
  · have := Fx.dv_mod D.digs hL
    rw [hL, Nat.add_sub_cancel]
    omega
  · rw [D.val]
    obtain ⟨a, ha⟩ : ∃ a : Nat, (e + (t : Int) + 1074).toNat = a := ⟨_, rfl⟩
    obtain ⟨b, hb⟩ : ∃ b : Nat, (e + 1074).toNat = b := ⟨_, rfl⟩
    have e1 : a = t + b := by omega
    have e2 : 1074 = n + a := by omega
    rw [ha, hb, hm, Fx.F5, e2, Int.pow_add, e1, show (10 : Int) = 2 * 5 from rfl, Int.mul_pow, Int.pow_add 2]
    generalize (5 : Int) ^ n = x1
    generalize (5 : Int) ^ (t + b) = x2
    generalize (2 : Int) ^ t = x3
    generalize (2 : Int) ^ b = x4
    ac_rfl

/-- The digits of a whole number, without the zeros at their end. -/
theorem ex_whole {m e q : Int} {t n k : Nat} {xs : List Int} {s : ByteArray} (hm : m = 2 ^ t * q) (q0 : 0 < q) (he : -1074 ≤ e) (hn : (n : Int) = e + t) (D : DigT (q * 2 ^ n) s xs) (hk : k ≤ xs.length) (h0 : ∀ i, k ≤ i → i < xs.length → xs.getD i 0 = 48) (hl : 0 < k → xs.getD (k - 1) 0 ≠ 48) : Fx.Ex m e (xs.take k) (xs.length - k) := by
  have hm0 : 0 < m := by rw [hm]; exact Int.mul_pos (Int.pow_pos (by omega)) q0
  have := (Fx.ex_of (m := m) (e := e) (F := 0) hm0 D.digs D.head hk h0 hl (by omega) (by
    rw [D.val]
    obtain ⟨b, hb⟩ : ∃ b : Nat, (e + 1074).toNat = b := ⟨_, rfl⟩
    have e1 : n + 1074 = t + b := by omega
    have e2 : (2 : Int) ^ n * 2 ^ 1074 = 2 ^ t * 2 ^ b := by rw [← Int.pow_add, ← Int.pow_add, e1]
    rw [hb, hm, Fx.F5, show ((0 : Int) + 1074).toNat = 1074 from rfl]
    generalize 1074 = z at *
    rw [show (10 : Int) = 2 * 5 from rfl, Int.mul_pow]
    generalize (5 : Int) ^ z = x1
    generalize (2 : Int) ^ z = x2 at *
    rw [show q * 2 ^ n * (x2 * x1) = q * (2 ^ n * x2) * x1 by ac_rfl, e2]
    ac_rfl)).1
  rw [Int.zero_add] at this
  exact this
end Go.Proofs.YtobiapniidaibaaGreatDoor

namespace Go.Proofs.YtobiapniidaibaaGreatDoor
open Go Go.RowKit Go.Deep

/-- What exact tells. -/
def ExTold (d : Int) (w : World) (e : Ending) (w' : World) : Prop :=
  ∃ s, e = .returned (.tuple #[.string s, .int .i64 (Fx.ed (Ie.dm d) (Ie.de d))]) ∧ Str s (Fx.xd (Ie.dm d) (Ie.de d)) ∧ Below w.heap.size w w'

theorem ExTold.of {d : Int} {w w' : World} {s : ByteArray} {xs : List Int} {E : Int} (hm : 0 ≤ Ie.dm d) (h : Fx.Ex (Ie.dm d) (Ie.de d) xs E) (hs : Str s xs) (hB : Below w.heap.size w w') : ExTold d w (.returned (.tuple #[.string s, .int .i64 E])) w' := by
  obtain ⟨e1, e2⟩ := h.is hm
  exact ⟨s, by rw [e2], by rw [← e1]; exact hs, hB⟩

set_option maxRecDepth 100000 in
set_option maxHeartbeats 4000000 in
theorem exact_any (d : Int) (w : World) (hT : Tab w) (h0 : 0 ≤ d) (h1 : d < 18446744073709551616) (hf : Ie.cls d < 3) :
    Calls Tryz.prog 25 #[.int .u64 d] w fun e w' => ExTold d w e w' := by
  have D := hid (decode_any d w h0 h1)
  obtain ⟨m0, m1, e0, e1, mz⟩ := Ie.fdec d hf
  have FIN : Hid (∀ (w' : World) (s : ByteArray) (xs : List Int) (E : Int), Fx.Ex (Ie.dm d) (Ie.de d) xs E → Str s xs → Below w.heap.size w w' → ExTold d w (.returned (.tuple #[.string s, .int .i64 E])) w') := fun w' s xs E h hs hB => .of m0 h hs hB
  have HT := hid hT
  simp only [partsOf] at D
  generalize decide (9223372036854775808 ≤ d) = neg at *
  generalize Ie.dm d = m at *
  generalize Ie.de d = x at *
  generalize Ie.cls d = c at *
  clear hT h0 h1 hf
  by_cases hc : c = 0
  · subst hc
    have hm := mz.1 rfl
    subst hm
    have F0 : Hid (∀ (w' : World), Below w.heap.size w w' → ExTold d w (.returned (.tuple #[.string ⟨#[48]⟩, .int .i64 0])) w') := fun w' hB => FIN.out w' _ [48] 0 ⟨by omega, fun _ => ⟨rfl, rfl⟩, fun h => by omega, fun h => by omega⟩ rfl hB
    clear FIN mz HT
    go_enter Tryz.func25, Tryz.ntmps25
    go_wp2_with fail
    refine D.out.mono ?_
    rintro e w1 ⟨rfl, hB⟩
    have K := hid (F0.out _ (hB.trans ((alloc_b w1 (.cells #[.bool neg, .int .i64 0, .int .u64 0, .int .i64 x] 63)).mono hB.size)))
    clear hB F0 D
    go_wp2_with fail
    go_ret2
    exact K.out
  · have hc' : (c == 0) = false := by rw [beq_eq_false_iff_ne]; exact hc
    have hm : 0 < m := by rcases (show m = 0 ∨ 0 < m by omega) with h | h; exact absurd (mz.2 h) hc; exact h
    have TZ : Hid (∀ wx : World, Tab wx → Calls Tryz.prog 40 #[.int .u64 m] wx fun e w' => ∃ (t : Nat) (q : Int), e = .returned (.int .i64 t) ∧ t ≤ 63 ∧ Hid (m = 2 ^ t * q ∧ 0 < q ∧ q % 2 = 1) ∧ m / 2 ^ t = q ∧ 0 ≤ q ∧ q < 9007199254740992 ∧ w' = wx) := by
      intro wx hT
      refine (tz64 m wx hm (by omega) hT).mono ?_
      rintro e w' ⟨t, q, rfl, ht, hq, rfl⟩
      have hq' : m = 2 ^ t * (2 * q + 1) := hq
      have p2 : (0 : Int) < 2 ^ t := Int.pow_pos (by omega)
      have qp : 0 < 2 * q + 1 := by
        rcases (show 2 * q + 1 ≤ 0 ∨ 0 < 2 * q + 1 by omega) with h | h
        · have := Int.mul_nonpos_of_nonneg_of_nonpos (Int.le_of_lt p2) h
          omega
        · exact h
      have dv' : m / 2 ^ t = 2 * q + 1 := by rw [hq']; exact Int.mul_ediv_cancel_left _ (by omega)
      refine ⟨t, 2 * q + 1, rfl, ht, ⟨hq', qp, by omega⟩, dv', by omega, ?_, rfl⟩
      have : (1 : Int) * (2 * q + 1) ≤ 2 ^ t * (2 * q + 1) := Int.mul_le_mul_of_nonneg_right p2 (by omega)
      omega
    have XB := hid (And.intro e0 e1)
    clear mz hc hm
    go_enter Tryz.func25, Tryz.ntmps25
    go_wp2_with fail
    refine D.out.mono ?_
    rintro e w1 ⟨rfl, hB1⟩
    have HB1 := hid hB1
    clear hB1 D
    go_upto_region 4 with fail
    have hb := HB1.out.trans ((alloc_b w1 (.cells #[.bool neg, .int .i64 c, .int .u64 m, .int .i64 x] 63)).mono HB1.out.size)
    have P := Row4.new w1 63 (.bool neg) (.int .i64 c) (.int .u64 m) (.int .i64 x)
    obtain ⟨SS, KS, CS, BS, MS⟩ := state (fun w' => (w'.cell? ⟨w1.heap.size, 2, none⟩ = some (.int .u64 m) ∧ w'.cell? ⟨w1.heap.size, 3, none⟩ = some (.int .i64 x)) ∧ Tab w') w (((Stays.cell _ _).and (Stays.cell _ _)).and Stays.tab)
    have S0 := hid (MS.out _ ⟨⟨P.cells.1.2.2.1, P.cells.1.2.2.2⟩, HT.out.below hb⟩ hb)
    clear P hb HT HB1 MS
    generalize w1.alloc (.cells #[.bool neg, .int .i64 c, .int .u64 m, .int .i64 x] 63) = wA at *
    generalize w1.heap.size = b at *
    have CC : Hid (∀ wx : World, SS wx → (wx.cell? ⟨b, 2, none⟩ = some (.int .u64 m) ∧ wx.cell? ⟨b, 3, none⟩ = some (.int .i64 x))) := fun wx h => (CS.out wx h).1
    have T0 := hid (TZ.out _ (CS.out _ S0.out).2)
    obtain ⟨p2, p3⟩ := CC.out _ S0.out
    clear CS TZ
    go_wp2_with fail
    refine T0.out.mono ?_
    rintro e wz ⟨t, q, rfl, ht, HQ, dq, q0, q1, hz⟩
    replace hz := hz.symm
    subst hz
    have FU := hid (fun (wx : World) => fromUint_any q wx q0 (by omega))
    obtain ⟨y, hy⟩ : ∃ y, x + (t : Int) = y := ⟨_, rfl⟩
    have WK : IntKind.i64.wrap (x + (t : Int)) = y := by rw [IntKind.wrap_i64]; omega
    have WN : IntKind.i64.wrap y = y := by rw [IntKind.wrap_i64]; omega
    clear T0
    have S1 := hid (KS.out _ _ S0.out (drew_nil _))
    go_upto_region 5 with fail
    go_region_held3 (fun w' => w'.cell? ⟨b, 2, none⟩ = some (.int .u64 m) ∧ w'.cell? ⟨b, 3, none⟩ = some (.int .i64 x)) (first | (with_reducible exact CC.out _ S2.out) | (with_reducible exact CC.out _ S1.out)) (first
      | (go_at_call 41; refine (FU.out _).mono ?_; rintro e w2 ⟨p, os, rfl, A, hB⟩; have S2 := hid (KS.out _ _ S1.out hB); have A2 := hid A; clear hB A))
    all_goals
      by_cases hy0 : y < 0
      · obtain ⟨n, hn⟩ : ∃ n : Nat, -y = (n : Int) := ⟨(-y).toNat, by omega⟩
        have hn0 : (n : Int) ≤ 1074 := by omega
        have BH := hid (behind_any p os _ q (n : Int) n w2 A2.out HQ.out.2.1 (by omega) rfl (by omega))
        have KK : Hid (∀ (w3 : World) (s : ByteArray) (xs : List Int), DigT (q * 5 ^ n) s xs → Below w2.heap.size w2 w3 → ExTold d w (.returned (.tuple #[.string s, .int .i64 y])) w3) := by
          intro w3 s xs D hB
          refine FIN.out w3 s xs y ?_ D.str ((BS.out _ S2.out).trans (hB.mono (BS.out _ S2.out).size))
          rw [← hy]
          exact ex_odd HQ.out.1 HQ.out.2.1 HQ.out.2.2 XB.out.1 (by omega) D
        clear FIN A2 FU S0 S1 CC HQ dq hy WK p2 p3
        go_wp2_with fail
        refine BH.out.mono ?_
        rintro e w3 ⟨s, xs, rfl, D, hB⟩
        have K := hid (KK.out w3 s xs D hB)
        clear D hB KK BH
        go_wp2_with fail
        go_ret2
        exact K.out
      · obtain ⟨n, hn⟩ : ∃ n : Nat, y = (n : Int) := ⟨y.toNat, by omega⟩
        have hn0 : (n : Int) ≤ 1034 := by omega
        have room : q * 2 ^ n < 10 ^ (20 + n) := by
          have h1 := f2_10 n
          have h0 : (0 : Int) < 2 ^ n := Int.pow_pos (by omega)
          have h2 : q * 2 ^ n < 9007199254740992 * 2 ^ n := Int.mul_lt_mul_of_pos_right q1 h0
          rw [Int.pow_add]
          have e : (10 : Int) ^ 20 = 100000000000000000000 := by decide
          rw [e]
          omega
        have r0 : q < Nm.pw 4096 := Int.lt_trans (show q < 10 ^ 20 by rw [show (10 : Int) ^ 20 = 100000000000000000000 by decide]; omega) (fp10_pw (by omega))
        have SH := fshl_any p _ _ os (n : Int) n w2 (A2.out.argT r0) (A2.out.tsT r0) rfl (by rw [A2.out.2.2.2.1]; exact Int.lt_trans room (fp10_pw (by omega)))
        rw [A2.out.2.2.2.1] at SH
        have HS := hid SH
        have DG : Hid (∀ (w1 : World) (r : Option Addr) (zs : List Int) (B : Nat), Ans B w1 r zs (q * 2 ^ n) → Calls Tryz.prog 44 #[.slice r (List.length zs) (List.length zs)] w1 fun e w' => ∃ s xs, e = .returned (.tuple #[.string s, .int .i64 0]) ∧ DigT (q * 2 ^ n) s xs ∧ Below w1.heap.size w1 w') :=
          fun w1 r zs B A1 => fdigits_any r zs B _ w1 (20 + n) A1 (Int.mul_pos HQ.out.2.1 (Int.pow_pos (by omega))) (by omega) room
        have KK : Hid (∀ (w3 : World) (s s' : ByteArray) (xs : List Int) (k : Nat), DigT (q * 2 ^ n) s xs → Str s' (xs.take k) → k ≤ xs.length → (∀ i, k ≤ i → i < xs.length → xs.getD i 0 = 48) → (0 < k → xs.getD (k - 1) 0 ≠ 48) → Below w.heap.size w w3 → ExTold d w (.returned (.tuple #[.string s', .int .i64 ((s.size : Int) - (s'.size : Int))])) w3) := by
          intro w3 s s' xs k D hs hk g0 gl hB
          have z1 : s.size = xs.length := D.str.size
          have z2 : s'.size = k := by rw [hs.size, List.length_take]; omega
          rw [z1, z2]
          exact FIN.out w3 s' (xs.take k) _ (ex_whole HQ.out.1 HQ.out.2.1 XB.out.1 (by omega) D hk g0 gl) hs hB
        have hy1 : ¬ (n : Int) < 0 := by omega
        subst hn
        clear FIN A2 FU S0 S1 CC HQ dq hy WK p2 p3 SH room r0 hy0
        generalize q * 2 ^ n = T at *
        go_wp2_with fail
        refine HS.out.mono ?_
        rintro e w3 ⟨r, zs, rfl, A3, B3⟩
        have D3 := hid (DG.out w3 r zs _ A3)
        have HB3 := hid ((BS.out _ S2.out).trans (B3.mono (BS.out _ S2.out).size))
        clear A3 B3 HS DG
        go_wp2_with fail
        refine D3.out.mono ?_
        rintro e w4 ⟨s, xs, rfl, D4, B4⟩
        have HB4 := hid (HB3.out.trans (B4.mono HB3.out.size))
        have HD := hid D4
        have TR := hid (frtrim0_any s xs w4 D4.str (by have := D4.len; omega))
        have sz1 : (s.size : Int) ≤ 3000 := by have := D4.str.size; have := D4.len; omega
        clear D4 B4 D3 HB3
        go_wp2_with fail
        refine TR.out.mono ?_
        rintro e w5 ⟨⟨s', k, rfl, g1, g2, g3, g4⟩, hz⟩
        have sz2 : (s'.size : Int) ≤ (s.size : Int) := by rw [g1.size, HD.out.str.size, List.length_take]; omega
        have K := hid (KK.out w5 s s' xs k HD.out g1 g2 g3 g4 (by rw [hz]; exact HB4.out))
        clear g1 g2 g3 g4 hz TR KK HD HB4
        go_wp2_with fail
        go_ret2
        exact K.out
end Go.Proofs.YtobiapniidaibaaGreatDoor
