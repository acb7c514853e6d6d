/-
  Texts put together: Ref14, Ref15, Ref16, Ref17, MulOver, Over, SubA, Sub.
-/
import Derived.Test.YtmglogncpfoldaaDoorRef13
import Derived.Test.YtmglogncpfoldaaDoorRefSum
import Derived.Test.YtmglogncpfoldaaDoorWalk4
import Derived.Test.YtmglogncpfoldaaDoorWalk3
import Derived.Test.YtmglogncpfoldaaDoorWalk2a
import Derived.Shelf.Spec.BitsCarry
import Derived.Test.YtmglogncpfoldaaDoorSmall
namespace Go.Proofs.YtmglogncpfoldaaDoor
open Go.RowKit Go.Deep

/-- The error of Shl. -/
def shlErr (za : List Int) (kk : Int) : Int := if 4096 < Nm.tsize za then 2 else if kk < 0 then 1 else 2

/-- Shl is refused. -/
def shlBad (za : List Int) (kk : Int) : Prop := 4096 < Nm.tsize za ∨ kk < 0 ∨ Nm.pw 4096 ≤ Nm.val za * 2 ^ kk.toNat

theorem lift_big {v : Int} {L k : Nat} (h0 : 0 < v) (hL : Nm.BLen v L) : Nm.pw 4096 ≤ v * 2 ^ k ↔ 262144 < L + k := by
  have h1 := hL.1
  have h2 := (hL.2.2 h0)
  have hp := Nm.two_pos k
  have e : (2 : Int) ^ L * 2 ^ k = 2 ^ (L + k) := (Nm.two_add _ _).symm
  have e2 : (2 : Int) ^ (L - 1) * 2 ^ k = 2 ^ (L - 1 + k) := (Nm.two_add _ _).symm
  rw [pw_4096]
  constructor
  · intro h
    have h3 : v * 2 ^ k < 2 ^ L * 2 ^ k := Int.mul_lt_mul_of_pos_right h1 hp
    rw [e] at h3
    exact two_lt (by omega)
  · intro h
    have h3 : (2 : Int) ^ (L - 1) * 2 ^ k ≤ v * 2 ^ k := Int.mul_le_mul_of_nonneg_right h2.2 (by omega)
    rw [e2] at h3
    have h4 := Nm.two_mono (show 262144 ≤ L - 1 + k by omega)
    omega

set_option maxHeartbeats 1000000 in
theorem refShl_any (p : Option Addr) (n cap : Nat) (za : List Int) (kk : Int) (w : World) (ha : Arg w p n cap za) (hk1 : kk ≤ 9223372036854775807) :
    Calls Tryd.prog 27 #[.slice p n cap, .int .i64 kk] w fun e w' => Tells (shlBad za kk) (shlErr za kk) (Nm.val za * 2 ^ kk.toNat) w e w' := by
  have HA := hid ha
  by_cases h1 : 4096 < Nm.tsize za
  · have S1 := hid (refBig_is true p n cap za w ha (by simpa using h1))
    have EE : shlErr za kk = 2 := if_pos h1
    have E : Hid (Tells (shlBad za kk) (shlErr za kk) (Nm.val za * 2 ^ kk.toNat) w (.returned (.tuple #[.slice none 0 0, .int .i64 2])) w) := by rw [EE]; exact Tells.bad (.inl h1) (Below.refl _ _)
    clear ha h1 HA EE
    go_enter Tryd.func27, Tryd.ntmps27
    go_wp2_with fail
    refine S1.out.mono ?_
    rintro e w' ⟨rfl, rfl⟩
    go_wp2
    go_ret2
    exact E.out
  have S1 := hid (refBig_is false p n cap za w ha (by simp; omega))
  by_cases h2 : kk < 0
  · have EE : shlErr za kk = 1 := by rw [shlErr, if_neg h1, if_pos h2]
    have E : Hid (Tells (shlBad za kk) (shlErr za kk) (Nm.val za * 2 ^ kk.toNat) w (.returned (.tuple #[.slice none 0 0, .int .i64 1])) w) := by rw [EE]; exact Tells.bad (.inr (.inl h2)) (Below.refl _ _)
    clear ha h1 HA EE
    go_enter Tryd.func27, Tryd.ntmps27
    go_wp2_with fail
    refine S1.out.mono ?_
    rintro e w' ⟨rfl, rfl⟩
    go_wp2
    go_ret2
    exact E.out
  have EE : Hid (shlErr za kk = 2) := by rw [Hid, shlErr, if_neg h1, if_neg h2]
  have T1 : Hid (Nm.tsize za ≤ 4096) := by show _ ≤ _; omega
  have x0 := hid (Nm.val_bd za ha.2.2.2.2).1
  have x1 := Shut.mk ((Nm.tsize_le_iff ha.2.2.2.2 4096).1 T1.out)
  obtain ⟨k, HK⟩ : ∃ k : Nat, Hid (kk = (k : Int)) := ⟨kk.toNat, by show _ = _; omega⟩
  have HKN : Hid (kk.toNat = k) := by have := HK.out; show _ = _; omega
  have PB : Shut (shlBad za kk ↔ Nm.pw 4096 ≤ Nm.val za * 2 ^ k) := ⟨by
    unfold shlBad
    rw [HKN.out]
    constructor
    · rintro (h | h | h)
      · omega
      · omega
      · exact h
    · exact fun h => .inr (.inr h)⟩
  clear ha h1
  go_enter Tryd.func27, Tryd.ntmps27
  go_wp2_with fail
  refine S1.out.mono ?_
  rintro e w' ⟨rfl, rfl⟩
  go_wp2_with fail
  refine (refBitLen_any p n cap za _ HA.out).mono ?_
  rintro e w2 ⟨⟨L, rfl, BL⟩, rfl⟩
  have HBL := hid BL
  have lL := blen_le BL x0.out x1.out
  clear BL
  by_cases hL : L = 0
  · have V0 : Shut (Nm.val za = 0) := ⟨by
      rcases (show Nm.val za = 0 ∨ 0 < Nm.val za by have := x0.out; omega) with h | h
      · exact h
      · have := (HBL.out.2.2 h).1; omega⟩
    have D : Hid (Below w2.heap.size w2 (w2.alloc (.cells #[] 28))) := (Below.refl _ _).alloc (Nat.le_refl _) _
    have NB : Shut (¬ shlBad za kk) := ⟨by rw [PB.out, V0.out, Int.zero_mul]; have := Nm.pw_pos 4096; omega⟩
    have E : Hid (Tells (shlBad za kk) (shlErr za kk) (Nm.val za * 2 ^ kk.toNat) w2 (.returned (.tuple #[.slice (some ⟨w2.heap.size, 0, none⟩) 0 0, .int .i64 0])) (w2.alloc (.cells #[] 28))) :=
      Tells.good (os := []) NB.out (by rw [V0.out, Int.zero_mul]; exact Ans.none _ _ _ (fun a h => by cases h; exact Nat.le_refl _)) D.out
    subst hL
    go_wp2
    go_ret2
    exact E.out
  · have hL' : ((L : Int) == 0) = false := by rw [beq_eq_false_iff_ne]; omega
    have VP : Shut (0 < Nm.val za) := ⟨by
      rcases (show Nm.val za = 0 ∨ 0 < Nm.val za by have := x0.out; omega) with h | h
      · have := HBL.out.2.1 h; omega
      · exact h⟩
    have LB := Shut.mk (lift_big (k := k) VP.out HBL.out)
    by_cases hb : 262144 - (L : Int) < kk
    · have E : Hid (Tells (shlBad za kk) (shlErr za kk) (Nm.val za * 2 ^ kk.toNat) w2 (.returned (.tuple #[.slice none 0 0, .int .i64 2])) w2) := by
        rw [EE.out]
        exact Tells.bad (PB.out.2 (LB.out.2 (by have := HK.out; omega))) (Below.refl _ _)
      go_wp2
      go_ret2
      exact E.out
    · have hkb : k ≤ 262144 := by have := HK.out; omega
      have NB : Shut (¬ shlBad za kk) := ⟨fun h => by have := LB.out.1 (PB.out.1 h); have := HK.out; omega⟩
      go_wp2_with fail
      refine (lift_any p n cap za kk k _ HA.out (by have := T1.out; omega) HK.out hkb).mono ?_
      rintro e w3 ⟨r, os, rfl, hA, hb1⟩
      have E : Hid (Tells (shlBad za kk) (shlErr za kk) (Nm.val za * 2 ^ kk.toNat) w2 (.returned (.tuple #[.slice r (List.length os) (List.length os), .int .i64 0])) w3) := Tells.good NB.out (by rw [HKN.out]; exact hA) hb1
      clear hA hb1
      go_wp2
      go_ret2
      exact E.out
end Go.Proofs.YtmglogncpfoldaaDoor

namespace Go.Proofs.YtmglogncpfoldaaDoor
open Go.RowKit Go.Deep

namespace Nm
theorem v32_drop_at : ∀ (zs : List Int) (k : Nat), k < zs.length → v32 (zs.drop k) = zs.getD k 0 + 4294967296 * v32 (zs.drop (k + 1))
  | [], _, h => by simp at h
  | z :: zs, 0, _ => by simp [v32]
  | z :: zs, k + 1, h => by
    have := v32_drop_at zs k (by simpa using h)
    simpa using this

theorem v32_div (zs : List Int) (h : Halves zs) (k : Nat) (hk : k ≤ zs.length) : v32 zs / p32 k = v32 (zs.drop k) := by
  have h1 := v32_split zs k
  have h2 := v32_lt _ (h.take k)
  rw [List.length_take, Nat.min_eq_left hk] at h2
  have h3 := v32_nonneg _ (h.take k)
  have hp := p32_pos k
  rw [h1, Int.add_mul_ediv_left _ _ (by omega), Int.ediv_eq_zero_of_lt h3 h2, Int.zero_add]

theorem drop_div {D F x q r : Int} (hF : 0 < F) (hq : q = (D % F * 4294967296 + x) / F) (hr : r = (D % F * 4294967296 + x) % F) : q + 4294967296 * (D / F) = (x + 4294967296 * D) / F ∧ r = (x + 4294967296 * D) % F := by
  have e : x + 4294967296 * D = (D % F * 4294967296 + x) + F * (4294967296 * (D / F)) := by
    have h := Int.emod_add_mul_ediv D F
    have h2 : 4294967296 * D = 4294967296 * (D % F) + 4294967296 * (F * (D / F)) := by rw [← Int.mul_add, h]
    rw [h2, Int.mul_left_comm F]
    omega
  rw [e, Int.add_mul_ediv_left _ _ (by omega), Int.add_mul_emod_self_left, hq, hr]
  exact ⟨rfl, rfl⟩
end Nm

/-- Behind the digits from j on. -/
def DropInv (g M : Nat) (w : World) (ys : List Int) (F : Int) (j : Nat) (rest : Int) (ss : List Int) (wr : World) : Prop :=
  Own wr g ss ∧ ss.length = M ∧ Nm.Halves ss ∧ Nm.v32 (ss.drop j) = Nm.v32 (ys.drop j) / F ∧ rest = Nm.v32 (ys.drop j) % F ∧ Below g w wr

theorem DropInv.step {g M : Nat} {w : World} {ys : List Int} {F : Int} {u : Nat} {rest : Int} {ss : List Int} {wr : World} (h : DropInv g M w ys F (u + 1) rest ss wr) (hy : ys.length = M) (hu : u < M) (hF : 0 < F) {x q r : Int} (hx : x = ys.getD u 0)
    (hq : q = (rest * 4294967296 + x) / F) (hr : r = (rest * 4294967296 + x) % F) (hq0 : 0 ≤ q) (hq1 : q < 4294967296) :
    DropInv g M w ys F u r (ss.set u q) (wr.setCell ⟨g, u, none⟩ (.int .u64 q)) := by
  obtain ⟨h1, h2, h3, h4, h5, h6⟩ := h
  have d := Nm.drop_div (D := Nm.v32 (ys.drop (u + 1))) (x := x) (q := q) (r := r) hF (by rw [← h5]; exact hq) (by rw [← h5]; exact hr)
  have e := Nm.v32_drop_at ys u (by omega)
  rw [← hx] at e
  refine ⟨h1.set _ _, by rw [List.length_set]; exact h2, h3.set _ hq0 hq1, ?_, ?_, h6.setCell (Nat.le_refl _) _⟩
  · rw [Nm.v32_drop_at (ss.set u q) u (by rw [List.length_set]; omega), Nm.getD_set ss u u q (by omega), if_pos rfl, List.drop_set_of_lt (by omega), h4, e]
    exact d.1
  · rw [e]
    exact d.2

set_option maxRecDepth 20000 in
set_option maxHeartbeats 4000000 in
theorem drop_any (p : Option Addr) (n cap : Nat) (za : List Int) (kk : Int) (k : Nat) (w : World) (ha : Arg w p n cap za) (hn : Nm.tsize za ≤ 1099511627776) (hkk : kk = (k : Int)) (hk : k ≤ 262144) :
    Calls Tryd.prog 56 #[.slice p n cap, .int .i64 kk] w fun e w' => ∃ r os, e = .returned (.slice r (List.length os) (List.length os)) ∧ Ans w.heap.size w' r os (Nm.val za / 2 ^ k) ∧ Below w.heap.size w w' := by
  have HA := hid ha
  have hk0 : 0 ≤ kk := by omega
  have hk1 : kk ≤ 262144 := by omega
  obtain ⟨z, HZ⟩ : ∃ z : Nat, Hid (kk / 32 = (z : Int) ∧ z = k / 32) := ⟨k / 32, by show _ ∧ _; omega⟩
  obtain ⟨r, HR⟩ : ∃ r : Nat, Hid (kk % 32 = (r : Int) ∧ r = k % 32) := ⟨k % 32, by show _ ∧ _; omega⟩
  have KZ : Hid (k = 32 * z + r) := by have := HZ.out; have := HR.out; show _ = _; omega
  have hz8 : z ≤ 8192 := by have := HZ.out; omega
  have hr31 : r ≤ 31 := by have := HR.out; omega
  clear ha hkk hk
  go_enter Tryd.func56, Tryd.ntmps56
  go_wp2_with fail
  refine (halves_any p n cap za _ HA.out (by have := HA.out.2.1; have := HA.out.2.2.1; omega)).mono ?_
  rintro e w1 ⟨xs, rfl, lx, hx, vx, kx, bx⟩
  have D1 := hid bx
  obtain ⟨l1, LX⟩ : ∃ l1, Hid (xs.length = l1) := ⟨_, rfl⟩
  have HX := hid hx
  have VX := hid vx
  have kx1 : l1 ≤ 2 * Nm.tsize za := by have := LX.out; omega
  obtain ⟨g1, G1⟩ : ∃ g1, w.heap.size = g1 := ⟨_, rfl⟩
  have lx2 := lx
  rw [G1] at lx2
  have CX : Hid (∀ i, i < l1 → w1.cell? ⟨g1, i, none⟩ = some (.int .u64 (xs.getD i 0))) := fun i hi => by have := lx2.cells i (by have := LX.out; omega); rwa [Nat.zero_add] at this
  obtain ⟨g, Gg⟩ : ∃ g, Hid (w1.heap.size = g) := ⟨_, rfl⟩
  have BX : Hid (∀ {j : Nat}, j < l1 → g1 < g) := fun {j} hj => by rw [← Gg.out]; exact cell_lt (CX.out j hj)
  rw [LX.out, G1]
  clear lx lx2 hx vx kx bx
  have DV : Hid (Nm.val za / 2 ^ k = Nm.val za / Nm.p32 z / 2 ^ r) := by
    rw [Hid, KZ.out, Nm.two_add, ← Nm.p32_pow, Int.ediv_ediv_of_nonneg (by have := Nm.p32_pos z; omega)]
  by_cases hz : l1 ≤ z
  · have hz' : (l1 : Int) ≤ kk / 32 := by have := HZ.out; omega
    have V0 : Hid (Nm.val za / 2 ^ k = 0) := by
      have h1 := Nm.v32_lt _ HX.out
      have h2 := Nm.v32_nonneg _ HX.out
      have h3 := Nm.p32_mono hz
      rw [LX.out, VX.out] at h1
      rw [VX.out] at h2
      rw [Hid, DV.out, Int.ediv_eq_zero_of_lt h2 (by omega), Int.zero_ediv]
    have D3 := hid (chain D1.out ((Below.refl w1.heap.size w1).alloc (Nat.le_refl _) (.cells #[] 28)) (Nat.le_refl _))
    have GS : Hid (w.heap.size ≤ g) := by rw [← Gg.out]; exact D1.out.size
    have FIN : Hid (∀ x : World, Below w.heap.size w x → ∃ r os, Ending.returned (.slice (some ⟨g, 0, none⟩) 0 0) = .returned (.slice r (List.length os) (List.length os)) ∧ Ans w.heap.size x r os (Nm.val za / 2 ^ k) ∧ Below w.heap.size w x) := fun x hx => ⟨some ⟨g, 0, none⟩, [], rfl, ⟨Lies.nil _ _, Nm.Limbs.nil, rfl, V0.out.symm, fun a h => by cases h; exact ⟨GS.out, fun h0 => absurd h0 (by simp)⟩⟩, hx⟩
    go_wp2
    go_ret
    rw [Gg.out]
    exact FIN.out _ D3.out
  · have hz' : ¬ (l1 : Int) ≤ kk / 32 := by have := HZ.out; omega
    go_wp2
    go_loop [7, 8] (fun f i => ∃ (t : Nat) (F : Int), t ≤ r ∧ i = .int .i64 t ∧ f = .int .u64 F ∧ 1 ≤ F ∧ F ≤ 2147483648 ∧ Hid (F = 2 ^ t)) (fun _ i => r - (intOf i).toNat)
    case atStart => exact ⟨0, 1, Nat.zero_le _, rfl, rfl, by omega, by omega, rfl⟩
    case round =>
      obtain ⟨t, F, ht, rfl, rfl, hF0, hF1, HF⟩ := hrel
      by_cases htl : t < r
      · have htl' : (t : Int) < kk % 32 := by have := HR.out; omega
        obtain ⟨F2, hF2, FF⟩ : ∃ F2, IntKind.u64.wrap (F * 2) = F2 ∧ Hid (F2 = F * 2) := ⟨_, by rw [IntKind.wrap_u64, Int.emod_eq_of_lt (by omega) (by omega)], rfl⟩
        have E2 : Hid (F2 = 2 ^ (t + 1)) := by rw [Hid, FF.out, HF.out, Nm.two_succ, Int.mul_comm]
        have hF20 : 1 ≤ F2 := by have := FF.out; omega
        have hF21 : F2 ≤ 2147483648 := by
          rw [E2.out]
          have := Nm.two_mono (show t + 1 ≤ 31 by omega)
          have e : (2 : Int) ^ 31 = 2147483648 := by decide
          omega
        go_wp2
        go_round
        case rel => exact ⟨t + 1, F2, by omega, by go_num, by first | rfl | rw [hF2], hF20, hF21, E2.out⟩
        case measure => simp [intOf]; omega
      · have htl' : ¬ (t : Int) < kk % 32 := by have := HR.out; omega
        obtain rfl : t = r := by omega
        obtain ⟨M, HM⟩ : ∃ M, Hid (l1 - z = M) := ⟨_, rfl⟩
        have hmk := make64 M (by have := HM.out; omega) w1
        rw [show ((M : Nat) : Int) = (l1 : Int) - kk / 32 by have := HZ.out; have := HM.out; omega, Gg.out] at hmk
        have bm := hid ((Below.refl w1.heap.size w1).alloc (Nat.le_refl _) (.cells (madeCells #[.int .u64 0] M) 28))
        have gm : Own (w1.alloc (.cells (madeCells #[.int .u64 0] M) 28)) w1.heap.size (List.replicate M 0) := by rw [made_zero]; exact Own.alloc w1 _
        rw [Gg.out] at bm gm
        generalize w1.alloc (.cells (madeCells #[.int .u64 0] M) 28) = wm at hmk bm gm
        have LD : Hid ((xs.drop z).length = M) := by rw [Hid, List.length_drop, LX.out]; exact HM.out
        have I0 : Hid (DropInv g M w1 (xs.drop z) F M 0 (List.replicate M 0) wm) := by
          refine ⟨gm, by simp, Nm.Halves.zeros _, ?_, ?_, bm.out⟩
          · rw [List.drop_eq_nil_of_le (by simp), List.drop_eq_nil_of_le (by have := LD.out; omega)]; simp [Nm.v32]
          · rw [List.drop_eq_nil_of_le (by have := LD.out; omega)]; simp [Nm.v32]
        clear gm bm
        go_wp2
        clear hmk
        have FP : Hid (Nm.v32 (xs.drop z) / F = Nm.val za / 2 ^ k) := by
          rw [Hid, DV.out, ← VX.out, Nm.v32_div xs HX.out z (by have := LX.out; omega), HF.out]
        have hFz : ¬ F = 0 := by omega
        have hFz' : (F == 0) = false := by rw [beq_eq_false_iff_ne]; exact hFz
        go_loopw [10, 11] (fun a i wr => ∃ (I j : Nat) (rest : Int) (ss : List Int), Hid (I = z + j) ∧ I ≤ l1 ∧ i = .int .i64 ((I : Int) - 1) ∧ a = .int .u64 rest ∧ 0 ≤ rest ∧ rest < F ∧ Hid (DropInv g M w1 (xs.drop z) F j rest ss wr)) (fun _ i _ => (intOf i + 1).toNat)
        case atStart => exact ⟨l1, M, 0, _, by have := HM.out; show _ = _; omega, Nat.le_refl _, rfl, rfl, by omega, by omega, I0.out⟩
        case round =>
          obtain ⟨I, j, rest, ss, HI, hI, rfl, rfl, hr0, hr1, DI⟩ := hrel
          by_cases hj : j = 0
          · have hge : ¬ kk / 32 ≤ (I : Int) - 1 := by have := HZ.out; have := HI.out; omega
            subst hj
            obtain ⟨o1, o2, o3, o4, o5, o6⟩ := DI.out
            simp only [List.drop_zero] at o4
            rw [FP.out] at o4
            have D3 := hid (chain D1.out (by rw [Gg.out]; exact o6) (Nat.le_refl _))
            have AG : Hid (Arg wr (some ⟨g, 0, none⟩) M M ss) := ⟨o2, Nat.le_refl _, by have := HM.out; omega, o1.lies, o3.limbs⟩
            have hw3 : Hid (w.heap.size ≤ wr.heap.size) := D3.out.size
            have HV := hid o4
            have HS := hid o3
            clear o1 o2 o3 o4 o5 o6 DI
            go_wp2_with fail
            refine (limbs_any _ M M ss _ AG.out HS.out).mono ?_
            rintro e w4 ⟨r4, os, rfl, hA, hb⟩
            rw [HV.out] at hA
            have A4 := hid (hA.mono hw3.out)
            have D4 := hid (chain D3.out hb (Nat.le_refl _))
            clear hA hb
            go_wp2
            go_ret
            exact ⟨r4, os, rfl, A4.out, D4.out⟩
          · obtain ⟨u, rfl⟩ : ∃ u, j = u + 1 := ⟨j - 1, by omega⟩
            obtain ⟨T, rfl⟩ : ∃ T, I = T + 1 := ⟨I - 1, by have := HI.out; omega⟩
            have HT : Hid (T = z + u) := by have := HI.out; show _ = _; omega
            have hge : kk / 32 ≤ (T : Int) := by have := HZ.out; have := HT.out; omega
            have hTl : T < l1 := by omega
            have hTl' : (T : Int) < (l1 : Int) := by omega
            have huM : u < M := by have := HM.out; have := HT.out; omega
            have hidx : (T : Int) - kk / 32 = (u : Int) := by have := HZ.out; have := HT.out; omega
            obtain ⟨x, hx, X⟩ : ∃ x, wr.cell? ⟨g1, T, none⟩ = some (.int .u64 x) ∧ Hid (x = xs.getD T 0) := ⟨_, (DI.out.2.2.2.2.2.cell (p := ⟨g1, T, none⟩) (BX.out hTl)).trans (CX.out T hTl), rfl⟩
            have X2 : Hid (x = (xs.drop z).getD u 0) := by rw [Hid, X.out, HT.out]; simp [List.getD, List.getElem?_drop]
            have hx0 : 0 ≤ x := by have := HX.out.at T; have := X.out; omega
            have hx1 : x < 4294967296 := by have := HX.out.at T; have := X.out; omega
            obtain ⟨pv, hpv⟩ : ∃ pv, wr.cell? ⟨g, u, none⟩ = some (.int .u64 pv) := ⟨_, DI.out.1.cell u (by have := DI.out.2.1; omega)⟩
            have hfr := DI.out.1.free u
            obtain ⟨m0, hm0, M0⟩ : ∃ m0, IntKind.u64.wrap (rest * 4294967296) = m0 ∧ Hid (m0 = rest * 4294967296) := ⟨_, by rw [IntKind.wrap_u64, Int.emod_eq_of_lt (by omega) (by omega)], rfl⟩
            have hm00 : 0 ≤ m0 := by have := M0.out; omega
            have hm01 : m0 ≤ 9223372032559808512 := by have := M0.out; omega
            obtain ⟨tt, htt, TT⟩ : ∃ tt, IntKind.u64.wrap (m0 + x) = tt ∧ Hid (tt = m0 + x) := ⟨_, by rw [IntKind.wrap_u64, Int.emod_eq_of_lt (by omega) (by omega)], rfl⟩
            have htt0 : 0 ≤ tt := by have := TT.out; omega
            have htt1 : tt ≤ 9223372036854775807 := by have := TT.out; omega
            obtain ⟨q, hq, Q⟩ : ∃ q, tt / F = q ∧ Hid (q = tt / F) := ⟨_, rfl, rfl⟩
            obtain ⟨rr, hrr, RR⟩ : ∃ rr, tt % F = rr ∧ Hid (rr = tt % F) := ⟨_, rfl, rfl⟩
            have ET : Hid (tt = rest * 4294967296 + x) := by rw [Hid, TT.out, M0.out]
            have hq0 : 0 ≤ q := by rw [Q.out]; exact Int.ediv_nonneg htt0 (by omega)
            have hq1 : q < 4294967296 := by
              rw [Q.out, Int.ediv_lt_iff_lt_mul (by omega)]
              have := ET.out
              omega
            have hrr0 : 0 ≤ rr := by rw [RR.out]; exact Int.emod_nonneg _ hFz
            have hrr1 : rr < F := by rw [RR.out]; exact Int.emod_lt_of_pos _ (by omega)
            have NX := hid (DI.out.step (x := x) (q := q) (r := rr) LD.out huM (by omega) X2.out (by rw [← ET.out]; exact Q.out) (by rw [← ET.out]; exact RR.out) hq0 hq1)
            have huM' : (u : Int) < (M : Int) := by omega
            clear DI
            go_wp2
            go_roundw
            case rel => exact ⟨T, u, rr, _, HT.out, by omega, by go_num, by first | rfl | rw [hrr], hrr0, hrr1, NX.out⟩
            case measure => simp [intOf]
end Go.Proofs.YtmglogncpfoldaaDoor

namespace Go.Proofs.YtmglogncpfoldaaDoor
open Go.RowKit Go.Deep

theorem refFromUint_any (x : Int) (w : World) (h0 : 0 ≤ x) (h1 : x < 18446744073709551616) :
    Calls Tryd.prog 16 #[.int .u64 x] w fun e w' => ∃ r os, e = .returned (.slice r (List.length os) (List.length os)) ∧ Ans w.heap.size w' r os x ∧ Below w.heap.size w w' := by
  by_cases hx : x = 0
  · subst hx
    have D : Hid (Below w.heap.size w (w.alloc (.cells #[] 28))) := (Below.refl _ _).alloc (Nat.le_refl _) _
    go_enter Tryd.func16, Tryd.ntmps16
    go_wp2
    go_ret
    exact ⟨some ⟨w.heap.size, 0, none⟩, [], rfl, Ans.none _ _ _ (fun a h => by cases h; exact Nat.le_refl _), D.out⟩
  · have hx' : (x == 0) = false := by rw [beq_eq_false_iff_ne]; exact hx
    have D : Hid (Below w.heap.size w (w.alloc (.cells #[.int .u64 x] 28))) := (Below.refl _ _).alloc (Nat.le_refl _) _
    have A : Hid (Ans w.heap.size (w.alloc (.cells #[.int .u64 x] 28)) (some ⟨w.heap.size, 0, none⟩) [x] x) := ⟨(Own.alloc w [x]).lies, one_limb ⟨h0, h1⟩, by simp [Nm.tsize, hx], by simp [Nm.val], fun a h => by cases h; exact ⟨Nat.le_refl _, fun _ o => (Own.alloc w [x]).free o⟩⟩
    go_enter Tryd.func16, Tryd.ntmps16
    go_wp2
    go_ret
    exact ⟨some ⟨w.heap.size, 0, none⟩, [x], rfl, A.out, D.out⟩

theorem fromUint_any (x : Int) (w : World) (h0 : 0 ≤ x) (h1 : x < 18446744073709551616) :
    Calls Tryd.prog 32 #[.int .u64 x] w fun e w' => ∃ r os, e = .returned (.slice r (List.length os) (List.length os)) ∧ Ans w.heap.size w' r os x ∧ Below w.heap.size w w' := by
  by_cases hx : x = 0
  · subst hx
    go_enter Tryd.func32, Tryd.ntmps32
    go_wp2
    go_ret
    exact ⟨none, [], rfl, Ans.none _ _ _ (fun a h => by cases h), Below.refl _ _⟩
  · have hx' : (x == 0) = false := by rw [beq_eq_false_iff_ne]; exact hx
    have D : Hid (Below w.heap.size w (w.alloc (.cells #[.int .u64 x] 28))) := (Below.refl _ _).alloc (Nat.le_refl _) _
    have A : Hid (Ans w.heap.size (w.alloc (.cells #[.int .u64 x] 28)) (some ⟨w.heap.size, 0, none⟩) [x] x) := ⟨(Own.alloc w [x]).lies, one_limb ⟨h0, h1⟩, by simp [Nm.tsize, hx], by simp [Nm.val], fun a h => by cases h; exact ⟨Nat.le_refl _, fun _ o => (Own.alloc w [x]).free o⟩⟩
    go_enter Tryd.func32, Tryd.ntmps32
    go_wp2
    go_ret
    exact ⟨some ⟨w.heap.size, 0, none⟩, [x], rfl, A.out, D.out⟩

/-- What ToUint answers: the limb, and whether it is one. -/
def toU (zs : List Int) : Int := if Nm.tsize zs = 1 then zs.getD 0 0 else 0

theorem ret_to {a b : Int} {c d : Bool} (h : a = b) (k : c = d) : Ending.returned (.tuple #[.int .u64 a, .bool c]) = .returned (.tuple #[.int .u64 b, .bool d]) := by rw [h, k]

theorem refToUint_any (p : Option Addr) (n cap : Nat) (zs : List Int) (w : World) (ha : Arg w p n cap zs) :
    Calls Tryd.prog 17 #[.slice p n cap] w fun e w' => e = .returned (.tuple #[.int .u64 (toU zs), .bool (decide (Nm.tsize zs ≤ 1))]) ∧ w' = w := by
  obtain ⟨a1, a2, a3, a4, a5⟩ := ha
  have tl := Nm.tsize_le zs
  have S1 := refSize_any p n cap zs w a1 (by omega) a4
  rcases (show Nm.tsize zs = 0 ∨ Nm.tsize zs = 1 ∨ 1 < Nm.tsize zs by omega) with h | h | h
  · have E : Hid (0 = toU zs ∧ true = decide (Nm.tsize zs ≤ 1)) := by simp [Hid, toU, h]
    rw [h] at S1
    have HS := hid S1
    clear S1 h
    go_enter Tryd.func17, Tryd.ntmps17
    go_wp2_with fail
    refine HS.out.mono ?_
    rintro e w' ⟨rfl, rfl⟩
    go_wp2
    go_ret2
    exact ⟨ret_to E.out.1 E.out.2, rfl⟩
  · have E : Hid (zs.getD 0 0 = toU zs ∧ true = decide (Nm.tsize zs ≤ 1)) := by simp [Hid, toU, h]
    obtain ⟨b, off, rfl, hbw, HC⟩ := a4.at (by omega)
    have hc := HC.out 0 (by omega)
    rw [Nat.add_zero] at hc
    have hn : (0 : Int) < (n : Int) := by omega
    rw [h] at S1
    have HS := hid S1
    clear S1 h
    go_enter Tryd.func17, Tryd.ntmps17
    go_wp2_with fail
    refine HS.out.mono ?_
    rintro e w' ⟨rfl, rfl⟩
    go_wp2
    go_ret2
    exact ⟨ret_to E.out.1 E.out.2, rfl⟩
  · have E : Hid (0 = toU zs ∧ false = decide (Nm.tsize zs ≤ 1)) := by
      refine ⟨?_, ?_⟩
      · rw [toU, if_neg (by omega)]
      · simp; omega
    have h1 : ((Nm.tsize zs : Int) == 0) = false := by rw [beq_eq_false_iff_ne]; omega
    have h2 : (1 : Int) < (Nm.tsize zs : Int) := by omega
    have HS := hid S1
    clear S1 h
    go_enter Tryd.func17, Tryd.ntmps17
    go_wp2_with fail
    refine HS.out.mono ?_
    rintro e w' ⟨rfl, rfl⟩
    go_wp2
    go_ret2
    exact ⟨ret_to E.out.1 E.out.2, rfl⟩
end Go.Proofs.YtmglogncpfoldaaDoor

namespace Go.Proofs.YtmglogncpfoldaaDoor
open Go.RowKit Go.Deep

theorem toUint_any (p : Option Addr) (n cap : Nat) (zs : List Int) (w : World) (ha : Arg w p n cap zs) :
    Calls Tryd.prog 33 #[.slice p n cap] w fun e w' => e = .returned (.tuple #[.int .u64 (toU zs), .bool (decide (Nm.tsize zs ≤ 1))]) ∧ w' = w := by
  obtain ⟨a1, a2, a3, a4, a5⟩ := ha
  have tl := Nm.tsize_le zs
  have S1 := trimmed_any p n cap zs w a1 a2 (by omega) a4
  rcases (show Nm.tsize zs = 0 ∨ Nm.tsize zs = 1 ∨ 1 < Nm.tsize zs by omega) with h | h | h
  · have E : Hid (0 = toU zs ∧ true = decide (Nm.tsize zs ≤ 1)) := by simp [Hid, toU, h]
    rw [h] at S1
    have HS := hid S1
    clear S1 h
    go_enter Tryd.func33, Tryd.ntmps33
    go_wp2_with fail
    refine HS.out.mono ?_
    rintro e w' ⟨rfl, rfl⟩
    go_wp2
    go_ret2
    exact ⟨ret_to E.out.1 E.out.2, rfl⟩
  · have E : Hid (zs.getD 0 0 = toU zs ∧ true = decide (Nm.tsize zs ≤ 1)) := by simp [Hid, toU, h]
    obtain ⟨b, off, rfl, hbw, HC⟩ := a4.at (by omega)
    have hc := HC.out 0 (by omega)
    rw [Nat.add_zero] at hc
    rw [h] at S1
    have HS := hid S1
    clear S1 h
    go_enter Tryd.func33, Tryd.ntmps33
    go_wp2_with fail
    refine HS.out.mono ?_
    rintro e w' ⟨rfl, rfl⟩
    go_wp2
    go_ret2
    exact ⟨ret_to E.out.1 E.out.2, rfl⟩
  · have E : Hid (0 = toU zs ∧ false = decide (Nm.tsize zs ≤ 1)) := by
      refine ⟨?_, ?_⟩
      · rw [toU, if_neg (by omega)]
      · simp; omega
    have h1 : ((Nm.tsize zs : Int) == 0) = false := by rw [beq_eq_false_iff_ne]; omega
    have h2 : ((Nm.tsize zs : Int) == 1) = false := by rw [beq_eq_false_iff_ne]; omega
    have HS := hid S1
    clear S1 h
    go_enter Tryd.func33, Tryd.ntmps33
    go_wp2_with fail
    refine HS.out.mono ?_
    rintro e w' ⟨rfl, rfl⟩
    go_wp2
    go_ret2
    exact ⟨ret_to E.out.1 E.out.2, rfl⟩

theorem refBit_neg (p : Option Addr) (n cap : Nat) (i : Int) (w : World) (hi : i < 0) :
    Calls Tryd.prog 19 #[.slice p n cap, .int .i64 i] w fun e w' => e = .returned (.int .i64 0) ∧ w' = w := by
  go_enter Tryd.func19, Tryd.ntmps19
  go_wp2
  go_ret
  exact ⟨rfl, rfl⟩

set_option maxRecDepth 20000 in
set_option maxHeartbeats 2000000 in
theorem refBit_any (p : Option Addr) (n cap : Nat) (zs : List Int) (i : Nat) (ii : Int) (w : World) (ha : Arg w p n cap zs) (hi : ii ≤ 9223372036854775807) (hii : ii = (i : Int)) :
    Calls Tryd.prog 19 #[.slice p n cap, .int .i64 ii] w fun e w' => e = .returned (.int .i64 (Nm.val zs / 2 ^ i % 2)) ∧ w' = w := by
  obtain ⟨a1, a2, a3, a4, a5⟩ := ha
  have hi0 : 0 ≤ ii := by omega
  have hi0' : ¬ ii < 0 := by omega
  obtain ⟨k, HK⟩ : ∃ k : Nat, Hid (ii / 64 = (k : Int) ∧ k = i / 64) := ⟨i / 64, by show _ ∧ _; omega⟩
  obtain ⟨r, HR⟩ : ∃ r : Nat, Hid (ii % 64 = (r : Int) ∧ r = i % 64) := ⟨i % 64, by show _ ∧ _; omega⟩
  have hr : r ≤ 63 := by have := HR.out; omega
  by_cases hk : n ≤ k
  · have hk' : (n : Int) ≤ ii / 64 := by have := HK.out; omega
    have E : Hid (0 = Nm.val zs / 2 ^ i % 2) := by
      have h1 := Nm.val_bd zs a5
      rw [a1, Nm.pw_two] at h1
      have h2 := Nm.two_mono (show 64 * n ≤ i by have := HK.out; omega)
      rw [Hid, Int.ediv_eq_zero_of_lt h1.1 (by omega)]
      rfl
    clear hii
    go_enter Tryd.func19, Tryd.ntmps19
    go_wp2
    go_ret
    exact ⟨ret_i64 E.out, rfl⟩
  · have hk' : ¬ (n : Int) ≤ ii / 64 := by have := HK.out; omega
    obtain ⟨b, off, rfl, hbw, HC⟩ := a4.at (by omega)
    obtain ⟨x0, hx, X⟩ : ∃ x0, w.cell? ⟨b, off + k, none⟩ = some (.int .u64 x0) ∧ Hid (x0 = zs.getD k 0) := ⟨_, HC.out k (by omega), rfl⟩
    have hx0 : 0 ≤ x0 := by have := a5.at k; have := X.out; omega
    have hx1 : x0 < 18446744073709551616 := by have := a5.at k; have := X.out; omega
    have E : Hid (x0 / 2 ^ r % 2 = Nm.val zs / 2 ^ i % 2) := by
      rw [Hid, X.out]
      exact (Nm.bit_at zs i k r (by have := HK.out; have := HR.out; omega) (by omega) a5 (by omega)).symm
    have hq : ii / 64 = (k : Int) := HK.out.1
    have hkn : (k : Int) < (n : Int) := by omega
    have hkn' : ¬ (n : Int) ≤ (k : Int) := by omega
    clear hii a4
    go_enter Tryd.func19, Tryd.ntmps19
    go_wp2
    clear hq
    go_loop [5, 6] (fun y t => ∃ (c : Nat) (x : Int), c ≤ r ∧ t = .int .i64 c ∧ y = .int .u64 x ∧ 0 ≤ x ∧ x ≤ x0 ∧ Hid (x = x0 / 2 ^ c)) (fun _ t => r - (intOf t).toNat)
    case atStart => exact ⟨0, x0, Nat.zero_le _, rfl, rfl, hx0, by omega, by simp [Hid]⟩
    case round =>
      obtain ⟨c, x, hc, rfl, rfl, h1, h2, HX⟩ := hrel
      by_cases hlt : c < r
      · have hlt' : (c : Int) < ii % 64 := by have := HR.out; omega
        obtain ⟨y, hy, Y⟩ : ∃ y, x / 2 = y ∧ Hid (y = x / 2) := ⟨_, rfl, rfl⟩
        have hy0 : 0 ≤ y := by omega
        have hyx : y ≤ x0 := by omega
        have YX : Hid (y = x0 / 2 ^ (c + 1)) := by rw [Hid, Y.out, HX.out, half_more]
        go_wp2
        go_round
        case rel => exact ⟨c + 1, y, by omega, by go_num, by first | rfl | rw [hy], hy0, hyx, YX.out⟩
        case measure => simp [intOf]; omega
      · have hlt' : ¬ (c : Int) < ii % 64 := by have := HR.out; omega
        obtain rfl : c = r := by omega
        obtain ⟨y, hy, Y⟩ : ∃ y, x % 2 = y ∧ Hid (y = x % 2) := ⟨_, rfl, rfl⟩
        have hy0 : 0 ≤ y := by omega
        have hy1 : y ≤ 1 := by omega
        have E2 : Hid (y = Nm.val zs / 2 ^ i % 2) := by rw [Hid, Y.out, HX.out]; exact E.out
        go_wp2
        go_ret
        exact ⟨ret_i64 E2.out, rfl⟩
end Go.Proofs.YtmglogncpfoldaaDoor

namespace Go.Proofs.YtmglogncpfoldaaDoor
open Go.RowKit Go.Deep

set_option maxRecDepth 100000 in
set_option maxHeartbeats 1000000 in
theorem mul_over (p q : Option Addr) (n cap m cap' : Nat) (zs ys : List Int) (w : World) (ha : Arg w p n cap zs) (hb : Arg w q m cap' ys) (tz : Nm.tsize zs ≤ 4096) (ty : Nm.tsize ys ≤ 4096) (hs : Nm.pw 4096 ≤ Nm.val zs * Nm.val ys) :
    Calls Tryd.prog 14 #[.slice p n cap, .slice q m cap'] w fun e w' => e = .returned (.tuple #[.slice none 0 0, .int .i64 2]) ∧ Below w.heap.size w w' := by
  obtain ⟨a1, a2, a3, a4, a5⟩ := ha
  obtain ⟨b1, b2, b3, b4, b5⟩ := hb
  have HS := hid hs
  clear hs
  have hp := Nm.pw_pos 4096
  have h1 : Nm.tsize zs ≠ 0 := fun h => by
    have e := (Nm.tsize_zero_iff a5).1 h
    have := HS.out
    rw [e, Int.zero_mul] at this
    omega
  have h2 : Nm.tsize ys ≠ 0 := fun h => by
    have e := (Nm.tsize_zero_iff b5).1 h
    have := HS.out
    rw [e, Int.mul_zero] at this
    omega
  have h1' : ((Nm.tsize zs : Int) == 0) = false := by simp [h1]
  have h2' : ((Nm.tsize ys : Int) == 0) = false := by simp [h2]
  clear hp
  by_cases hearly : 4097 < Nm.tsize zs + Nm.tsize ys
  · have he : (4096 : Int) < (Nm.tsize zs : Int) + (Nm.tsize ys : Int) - 1 := by omega
    go_enter Tryd.func14, Tryd.ntmps14
    go_wp2_with fail
    refine (pair_ok p q n cap m cap' zs ys _ a1 a2 (by omega) a4 tz b1 b2 (by omega) b4 ty).mono ?_
    rintro e w' ⟨rfl, rfl⟩
    go_wp2_with fail
    go_ret2
    exact ⟨rfl, Below.refl _ _⟩
  have hsum' : (Nm.tsize zs : Int) + (Nm.tsize ys : Int) ≤ 4097 := by omega
  have hmk := make64 (Nm.tsize zs + Nm.tsize ys) (by omega) w
  have em : ((Nm.tsize zs + Nm.tsize ys : Nat) : Int) = (Nm.tsize zs : Int) + (Nm.tsize ys : Int) := by omega
  rw [em] at hmk
  clear em
  have ho : Own (w.alloc (.cells (madeCells #[.int .u64 0] (Nm.tsize zs + Nm.tsize ys)) 28)) w.heap.size (List.replicate (Nm.tsize zs + Nm.tsize ys) 0) := by
    rw [made_zero]; exact Own.alloc w _
  have hb0 : Below w.heap.size w (w.alloc (.cells (madeCells #[.int .u64 0] (Nm.tsize zs + Nm.tsize ys)) 28)) := (Below.refl _ _).alloc (Nat.le_refl _) _
  have I0 : ProdInv w.heap.size (Nm.tsize zs + Nm.tsize ys) w (Nm.trim zs) (Nm.trim ys) 0 (List.replicate (Nm.tsize zs + Nm.tsize ys) 0) (w.alloc (.cells (madeCells #[.int .u64 0] (Nm.tsize zs + Nm.tsize ys)) 28)) :=
    ⟨ho, by simp, Nm.Limbs.replicate _, by simp [Nm.val_replicate, Nm.val], hb0⟩
  clear ho hb0
  have hsum2 : decide (4096 < (Nm.tsize zs : Int) + (Nm.tsize ys : Int) - 1) = false := by simp; omega
  have A4 := hid a4.trim
  have B4 := hid b4.trim
  obtain ⟨b, off, rfl, hcell⟩ : ∃ b off, p = some ⟨b, off, none⟩ ∧ Hid (∀ i, i < Nm.tsize zs → w.cell? ⟨b, off + i, none⟩ = some (.int .u64 ((Nm.trim zs).getD i 0))) := by
    have hlen := Nm.trim_length zs
    rcases A4.out with h | ⟨b, off, hp, h⟩
    · exfalso
      rw [h] at hlen
      simp at hlen
      omega
    · exact ⟨b, off, hp, fun i hi => h i (by rw [hlen]; exact hi)⟩
  have hbg : b < w.heap.size := cell_lt (hcell.out 0 (by omega))
  have A5 := hid a5.trim
  have B5 := hid b5.trim
  go_enter Tryd.func14, Tryd.ntmps14
  go_wp2_with fail
  refine (pair_ok (some ⟨b, off, none⟩) q n cap m cap' zs ys _ a1 a2 (by omega) a4 tz b1 b2 (by omega) b4 ty).mono ?_
  rintro e w' ⟨rfl, rfl⟩
  clear a4 b4
  go_wp2_with fail
  go_loopw [43] (fun i wr => ∃ (j : Nat) (os : List Int), j ≤ Nm.tsize zs ∧ i = .int .i64 j ∧ ProdInv w'.heap.size (Nm.tsize zs + Nm.tsize ys) w' (Nm.trim zs) (Nm.trim ys) j os wr) (fun i _ => Nm.tsize zs - (intOf i).toNat)
  case atStart => exact ⟨0, _, Nat.zero_le _, rfl, I0⟩
  case round =>
    clear I0 hmk
    obtain ⟨j, os, hj, rfl, I⟩ := hrel
    by_cases hlt : j < Nm.tsize zs
    · obtain ⟨x, hx, X⟩ : ∃ x, wr.cell? ⟨b, off + j, none⟩ = some (.int .u64 x) ∧ Hid (x = (Nm.trim zs).getD j 0) := ⟨_, (I.2.2.2.2.cell (p := ⟨b, off + j, none⟩) hbg).trans (hcell.out j hlt), rfl⟩
      have hx0 := A5.out.at j
      rw [show (Nm.trim zs).getD j 0 = x from X.out.symm] at hx0
      obtain ⟨hx0, hx1⟩ := hx0
      go_wp2_with fail
      refine (addTimes_any w'.heap.size (Nm.tsize zs + Nm.tsize ys) j (Nm.tsize ys) _ os q _ (Nm.trim ys) x _ I.2.1 (by omega) I.1 I.2.2.1 (Nm.trim_length ys) (by omega) (B4.out.below I.2.2.2.2 (Nat.le_refl _)) B5.out (fun h0 => B4.out.lt h0) hx0 hx1).mono ?_
      rintro e w2 ⟨c, us, rfl, M⟩
      have I2 := I.step (Nm.trim_length ys) A5.out B5.out (by rw [Nm.trim_length]; exact hlt) (by omega) X.out M
      obtain ⟨y, hy⟩ : ∃ y, w2.cell? ⟨w'.heap.size, j + Nm.tsize ys, none⟩ = some (.int .u64 y) := ⟨_, M.1.1.cell _ (by have := M.1.2.1; omega)⟩
      have hfr := M.1.1.free (j + Nm.tsize ys)
      clear M
      go_wp2
      go_roundw
      case rel => exact ⟨j + 1, _, by omega, by go_num, I2⟩
      case measure => simp [intOf]; omega
    · have hjn : j = Nm.tsize zs := by omega
      subst hjn
      have E := I.2.2.2.1
      rw [List.take_of_length_le (by rw [Nm.trim_length]; omega), Nm.val_trim, Nm.val_trim] at E
      have EE := hid E
      clear E
      go_wp2_with fail
      refine (limited_own_big w'.heap.size (Nm.tsize zs + Nm.tsize ys) os _ I.2.1 (by omega) I.1 I.2.2.1 (by rw [EE.out]; exact HS.out)).mono ?_
      rintro e w3 ⟨rfl, rfl⟩
      have HB := hid I.2.2.2.2
      clear I
      go_wp2_with fail
      go_ret2
      exact ⟨rfl, HB.out⟩
end Go.Proofs.YtmglogncpfoldaaDoor

namespace Go.Proofs.YtmglogncpfoldaaDoor
open Go.RowKit Go.Deep

set_option maxHeartbeats 1000000 in
theorem add_over (p q : Option Addr) (n cap m cap' : Nat) (zs ys : List Int) (w : World) (ha : Arg w p n cap zs) (hb : Arg w q m cap' ys) (tz : Nm.tsize zs ≤ 4096) (ty : Nm.tsize ys ≤ 4096) (hs : Nm.pw 4096 ≤ Nm.val zs + Nm.val ys) :
    Calls Tryd.prog 13 #[.slice p n cap, .slice q m cap'] w fun e w' => e = .returned (.tuple #[.slice none 0 0, .int .i64 2]) ∧ Below w.heap.size w w' := by
  obtain ⟨a1, a2, a3, a4, a5⟩ := ha
  obtain ⟨b1, b2, b3, b4, b5⟩ := hb
  have HS := hid hs
  clear hs
  by_cases hlt : Nm.tsize zs < Nm.tsize ys
  · have hlt' : (Nm.tsize zs : Int) < (Nm.tsize ys : Int) := by omega
    have R := hid (sum_room b5 a5 (by omega))
    go_enter Tryd.func13, Tryd.ntmps13
    go_wp2_with fail
    refine (pair_ok p q n cap m cap' zs ys _ a1 a2 (by omega) a4 tz b1 b2 (by omega) b4 ty).mono ?_
    rintro e w' ⟨rfl, rfl⟩
    go_wp2_with fail
    refine (widened_any q (Nm.tsize ys) (Nm.tsize ys) 1 1 (Nm.trim ys) _ rfl (Nm.trim_length ys) (by omega) (b4.take _)).mono ?_
    rintro e w1 ⟨rfl, ho, hb1, hz1⟩
    have HO := hid ho
    have HB := hid hb1
    have HZ := hid hz1
    clear ho hb1 hz1
    go_wp2_with fail
    refine (addTo_any w'.heap.size (Nm.tsize ys + 1) (Nm.trim ys ++ List.replicate 1 0) p (Nm.tsize zs) (Nm.tsize zs) (Nm.trim zs) _ (by simp [Nm.trim_length]) (by omega) HO.out ((b5.take _).append (Nm.Limbs.replicate _)) (Nm.trim_length zs) (by omega) ((a4.take _).below HB.out (Nat.le_refl _)) (a5.take _) (fun h0 => (a4.take _).lt h0) R.out.1).mono ?_
    rintro e w2 ⟨rfl, hw⟩
    obtain ⟨os, o1, o2, o3, o4, o5, o6⟩ := hw
    have HO := hid o1
    have O4 := hid o4
    have HB2 := hid o5
    clear o1 o4 o5 o6
    go_wp2_with fail
    refine (limited_own_big w'.heap.size (Nm.tsize ys + 1) os _ o2 (by omega) HO.out o3 (by rw [O4.out, R.out.2, Int.add_comm]; exact HS.out)).mono ?_
    rintro e w3 ⟨rfl, rfl⟩
    go_wp2_with fail
    go_ret2
    exact ⟨rfl, HB.out.trans HB2.out⟩
  · have hlt' : (Nm.tsize ys : Int) ≤ (Nm.tsize zs : Int) := by omega
    have R := hid (sum_room a5 b5 (by omega))
    go_enter Tryd.func13, Tryd.ntmps13
    go_wp2_with fail
    refine (pair_ok p q n cap m cap' zs ys _ a1 a2 (by omega) a4 tz b1 b2 (by omega) b4 ty).mono ?_
    rintro e w' ⟨rfl, rfl⟩
    go_wp2_with fail
    refine (widened_any p (Nm.tsize zs) (Nm.tsize zs) 1 1 (Nm.trim zs) _ rfl (Nm.trim_length zs) (by omega) (a4.take _)).mono ?_
    rintro e w1 ⟨rfl, ho, hb1, hz1⟩
    have HO := hid ho
    have HB := hid hb1
    have HZ := hid hz1
    clear ho hb1 hz1
    go_wp2_with fail
    refine (addTo_any w'.heap.size (Nm.tsize zs + 1) (Nm.trim zs ++ List.replicate 1 0) q (Nm.tsize ys) (Nm.tsize ys) (Nm.trim ys) _ (by simp [Nm.trim_length]) (by omega) HO.out ((a5.take _).append (Nm.Limbs.replicate _)) (Nm.trim_length ys) (by omega) ((b4.take _).below HB.out (Nat.le_refl _)) (b5.take _) (fun h0 => (b4.take _).lt h0) R.out.1).mono ?_
    rintro e w2 ⟨rfl, hw⟩
    obtain ⟨os, o1, o2, o3, o4, o5, o6⟩ := hw
    have HO := hid o1
    have O4 := hid o4
    have HB2 := hid o5
    clear o1 o4 o5 o6
    go_wp2_with fail
    refine (limited_own_big w'.heap.size (Nm.tsize zs + 1) os _ o2 (by omega) HO.out o3 (by rw [O4.out, R.out.2]; exact HS.out)).mono ?_
    rintro e w3 ⟨rfl, rfl⟩
    go_wp2_with fail
    go_ret2
    exact ⟨rfl, HB.out.trans HB2.out⟩
end Go.Proofs.YtmglogncpfoldaaDoor

namespace Go.Proofs.YtmglogncpfoldaaDoor
open Go.RowKit Go.Deep

/-- Sub64: the limb of a difference, and the borrow, under names. -/
theorem sub64' (x y b s b' : Int) (hx : 0 ≤ x) (hx1 : x < 18446744073709551616) (hy : 0 ≤ y) (hy1 : y < 18446744073709551616) (hb0 : 0 ≤ b) (hb : b ≤ 1) (hs : 0 ≤ s ∧ s < 18446744073709551616) (hb' : 0 ≤ b' ∧ b' ≤ 1) (he : s + 18446744073709551616 * (-b') = x + (-y) + (-b)) (w : World) :
    (callFunc 68 #[.int .u64 x, .int .u64 y, .int .u64 b]).run Tryd.prog w = .ok (.value (.tuple #[.int .u64 s, .int .u64 b'])) w := by
  obtain ⟨x, rfl⟩ := Int.eq_ofNat_of_zero_le hx
  obtain ⟨y, rfl⟩ := Int.eq_ofNat_of_zero_le hy
  obtain ⟨b, rfl⟩ := Int.eq_ofNat_of_zero_le hb0
  rw [run_callFunc_extern Tryd.func68 (by kernel_rfl) (by kernel_rfl) (by kernel_rfl) (e := sub64Entry) (by kernel_rfl), run_sub64 x y b (by omega)]
  have e1 : (((x + 18446744073709551616 - y - b) % 18446744073709551616 : Nat) : Int) = s := by omega
  have e2 : ((if x < y + b then 1 else 0 : Nat) : Int) = b' := by split <;> omega
  rw [e1, e2]
  rfl

theorem sub_names (x y b : Int) (hx : 0 ≤ x) (hx1 : x < 18446744073709551616) (hy : 0 ≤ y) (hy1 : y < 18446744073709551616) (hb0 : 0 ≤ b) (hb : b ≤ 1) : ∃ s b' : Int, (0 ≤ s ∧ s < 18446744073709551616) ∧ (0 ≤ b' ∧ b' ≤ 1) ∧ Hid (s + 18446744073709551616 * (-b') = x + (-y) + (-b)) :=
  ⟨(x - y - b) % 18446744073709551616, -((x - y - b) / 18446744073709551616), by omega, by omega, show _ = _ by omega⟩

theorem AddInv.down {g k : Nat} {w : World} {T : Int} {j : Nat} {c : Int} {os : List Int} {wr : World} (h : AddInv g k w T j c os wr) (hj : j < k) {x s c' : Int} (hs0 : 0 ≤ s ∧ s < 18446744073709551616) (hs : s + 18446744073709551616 * c' = os.getD j 0 + x + c) :
    AddInv g k w (T + Nm.pw j * x) (j + 1) c' (os.set j s) (wr.setCell ⟨g, j, none⟩ (.int .u64 s)) := by
  obtain ⟨h1, h2, h3, h4, h5, h6⟩ := h
  exact ⟨h1.set j s, by simpa using h2, h3.set j hs0.1 hs0.2, Nm.add_step (by omega) hs h4, h5.setCell (Nat.le_refl _) _, by simpa [World.setCell] using h6⟩

theorem AddInv.stop {g k : Nat} {w : World} {T : Int} {j : Nat} {b : Int} {os : List Int} {wr : World} (h : AddInv g k w T j (-b) os wr) (hT : 0 ≤ T) (hb : 1 ≤ b) : j < k := by
  obtain ⟨h1, h2, h3, h4, h5, h6⟩ := h
  rcases Nat.lt_or_ge j k with hj | hj
  · exact hj
  · have e1 := Nm.pw_mono hj
    have e2 := (Nm.val_bd os h3).2
    rw [h2] at e2
    have e3 := Nm.pw_pos j
    have e4 : Nm.pw j * 1 ≤ Nm.pw j * b := Int.mul_le_mul_of_nonneg_left hb (by omega)
    rw [Int.mul_neg] at h4
    omega
end Go.Proofs.YtmglogncpfoldaaDoor

namespace Go.Proofs.YtmglogncpfoldaaDoor
open Go.RowKit Go.Deep

set_option maxHeartbeats 1000000 in
theorem subFrom_any (g k : Nat) (zs : List Int) (q : Option Addr) (m cap : Nat) (ys : List Int) (w : World) (hk : zs.length = k) (hkm : k ≤ 35184372088832) (ho : Own w g zs) (hl : Nm.Limbs zs)
    (hm : ys.length = m) (hmk : m ≤ k) (hy : Lies w q ys) (hly : Nm.Limbs ys) (hq : 0 < ys.length → ∀ a, q = some a → a.block < g) (hT : 0 ≤ Nm.val zs - Nm.val ys) :
    Calls Tryd.prog 61 #[.slice (some ⟨g, 0, none⟩) k k, .slice q m cap] w fun e w' => e = .returned (.tuple #[]) ∧ Wrote g k (Nm.val zs - Nm.val ys) w w' := by
  rcases hy with rfl | ⟨b, off, rfl, hcell⟩
  · have hm0 : m = 0 := by simpa using hm.symm
    subst hm0
    have E : Wrote g k (Nm.val zs - Nm.val []) w w := ⟨zs, ho, hk, hl, by simp [Nm.val], Below.refl _ _, rfl⟩
    clear ho hl hT hq hm hk
    go_enter Tryd.func61, Tryd.ntmps61
    go_wp2
    refine wp_loop_rounds 1 ?_
    rw [rounds_succ]
    go_wp2
    refine wp_loop_rounds 1 ?_
    rw [rounds_succ]
    go_wp2
    go_end0
    exact ⟨rfl, E⟩
  · have hbg : 0 < ys.length → b < g := fun h => hq h _ rfl
    have I0 : AddInv g k w (Nm.val zs - Nm.val (ys.take 0)) 0 (-0) zs w := ⟨ho, hk, hl, by simp [Nm.val], Below.refl _ _, rfl⟩
    have HC : Hid (∀ i, i < ys.length → w.cell? ⟨b, off + i, none⟩ = some (.int .u64 (ys.getD i 0))) := hcell
    have HM : Hid (ys.length = m) := hm
    have HT : Hid (0 ≤ Nm.val zs - Nm.val ys) := hT
    have HY : Hid (Nm.Limbs ys) := hly
    clear hcell hm hT hly hq ho hk hl
    go_enter Tryd.func61, Tryd.ntmps61
    go_wp2
    go_loopw [4, 10] (fun c i wr => ∃ (j : Nat) (cc : Int) (os : List Int), j ≤ m ∧ i = .int .i64 j ∧ c = .int .u64 cc ∧ 0 ≤ cc ∧ cc ≤ 1 ∧ AddInv g k w (Nm.val zs - Nm.val (ys.take j)) j (-cc) os wr) (fun _ i _ => m - (intOf i).toNat)
    case atStart => exact ⟨0, 0, zs, Nat.zero_le _, rfl, rfl, by omega, by omega, I0⟩
    case round =>
      clear I0
      obtain ⟨j, cc, os, hj, rfl, rfl, hc0, hc1, I⟩ := hrel
      by_cases hlt : j < m
      · obtain ⟨x, hx, X⟩ : ∃ x, wr.cell? ⟨b, off + j, none⟩ = some (.int .u64 x) ∧ Hid (x = ys.getD j 0) :=
          ⟨_, (I.2.2.2.2.1.cell (p := ⟨b, off + j, none⟩) (hbg (by have := HM.out; omega))).trans (HC.out j (by have := HM.out; omega)), rfl⟩
        obtain ⟨y, hyc, Y⟩ : ∃ y, wr.cell? ⟨g, j, none⟩ = some (.int .u64 y) ∧ Hid (y = os.getD j 0) := ⟨_, I.1.cell j (by have := I.2.1; omega), rfl⟩
        have hfr := I.1.free j
        have hx0 := HY.out.at j
        rw [← X.out] at hx0
        obtain ⟨hx0, hx1⟩ := hx0
        have hy0 := I.2.2.1.at j
        rw [← Y.out] at hy0
        obtain ⟨hy0, hy1⟩ := hy0
        obtain ⟨s, c', hs, hc', E⟩ := sub_names y x cc hy0 hy1 hx0 hx1 hc0 hc1
        have hjk : (j : Int) < (k : Int) := by omega
        go_wp2_with (simp only [sub64' y x cc s c' hy0 hy1 hx0 hx1 hc0 hc1 hs hc' E.out])
        go_roundw
        case rel =>
          have hst := I.down (by omega) (x := -x) (s := s) (c' := -c') hs (by rw [← Y.out]; exact E.out)
          refine ⟨j + 1, c', os.set j s, by omega, by go_num, rfl, hc'.1, hc'.2, ?_⟩
          have e : Nm.val zs - Nm.val (ys.take (j + 1)) = Nm.val zs - Nm.val (ys.take j) + Nm.pw j * (-x) := by
            rw [Nm.val_take_succ ys j (by have := HM.out; omega), ← X.out, Int.mul_neg]
            omega
          rw [e]
          exact hst
        case measure => simp [intOf]; omega
      · have hjm : j = m := by omega
        subst hjm
        rw [List.take_of_length_le (by have := HM.out; omega)] at I
        go_wp2
        go_loopw [4, 7] (fun c i wr => ∃ (t : Nat) (cc : Int) (os : List Int), t ≤ k ∧ i = .int .i64 t ∧ c = .int .u64 cc ∧ 0 ≤ cc ∧ cc ≤ 1 ∧ AddInv g k w (Nm.val zs - Nm.val ys) t (-cc) os wr) (fun _ i _ => k - (intOf i).toNat)
        case atStart => exact ⟨j, cc, os, hmk, rfl, rfl, hc0, hc1, I⟩
        case round =>
          clear I hc0 hc1
          obtain ⟨t, cc, os, ht, rfl, rfl, hc0, hc1, I⟩ := hrel
          by_cases hz : cc = 0
          · subst hz
            have E : Wrote g k (Nm.val zs - Nm.val ys) w wr := ⟨os, I.1, I.2.1, I.2.2.1, by have := I.2.2.2.1; simp at this; omega, I.2.2.2.2.1, I.2.2.2.2.2⟩
            clear I
            go_wp2
            go_end0
            exact ⟨rfl, E⟩
          · have htk := I.stop HT.out (by omega)
            have htk' : (t : Int) < (k : Int) := by omega
            obtain ⟨y, hyc, Y⟩ : ∃ y, wr.cell? ⟨g, t, none⟩ = some (.int .u64 y) ∧ Hid (y = os.getD t 0) := ⟨_, I.1.cell t (by have := I.2.1; omega), rfl⟩
            have hfr := I.1.free t
            have hy0 := I.2.2.1.at t
            rw [← Y.out] at hy0
            obtain ⟨hy0, hy1⟩ := hy0
            obtain ⟨s, c', hs, hc', E⟩ := sub_names y 0 cc hy0 hy1 (by omega) (by omega) hc0 hc1
            go_wp2_with (simp only [sub64' y 0 cc s c' hy0 hy1 (Int.le_refl 0) (by decide) hc0 hc1 hs hc' E.out])
            go_roundw
            case rel =>
              have hst := I.down (by omega) (x := -0) (s := s) (c' := -c') hs (by rw [← Y.out]; exact E.out)
              rw [Int.neg_zero, Int.mul_zero, Int.add_zero] at hst
              exact ⟨t + 1, c', os.set t s, by omega, by go_num, rfl, hc'.1, hc'.2, hst⟩
            case measure => simp [intOf]; omega

theorem Arg.trim {w : World} {p : Option Addr} {n cap : Nat} {zs : List Int} (h : Arg w p n cap zs) : Arg w p (Nm.tsize zs) (Nm.tsize zs) (Nm.trim zs) :=
  ⟨Nm.trim_length zs, Nat.le_refl _, by have := h.tl; have := h.2.1; have := h.2.2.1; omega, h.2.2.2.1.trim, h.2.2.2.2.trim⟩

set_option maxHeartbeats 1000000 in
theorem sub_ok (p q : Option Addr) (n cap m cap' : Nat) (zs ys : List Int) (w : World) (ha : Arg w p n cap zs) (hb : Arg w q m cap' ys) (tz : Nm.tsize zs ≤ 4096) (hle : Nm.val ys ≤ Nm.val zs) :
    Calls Tryd.prog 38 #[.slice p n cap, .slice q m cap'] w fun e w' => ∃ r os, e = .returned (.tuple #[.slice r (List.length os) (List.length os), .int .i64 0]) ∧ Ans w.heap.size w' r os (Nm.val zs - Nm.val ys) ∧ Below w.heap.size w w' := by
  have hs : Nm.val zs < Nm.pw 4096 := (Nm.tsize_le_iff ha.2.2.2.2 4096).1 tz
  have y0 := (Nm.val_bd ys hb.2.2.2.2).1
  have ty : Nm.tsize ys ≤ 4096 := (Nm.tsize_le_iff hb.2.2.2.2 4096).2 (by omega)
  have tyz : Nm.tsize ys ≤ Nm.tsize zs := by
    have h1 := Nm.val_lt_tsize ha.2.2.2.2
    exact (Nm.tsize_le_iff hb.2.2.2.2 _).2 (by omega)
  have AT := hid ha.trim
  have BT := hid hb.trim
  obtain ⟨a1, a2, a3, a4, a5⟩ := ha
  obtain ⟨b1, b2, b3, b4, b5⟩ := hb
  obtain ⟨c, C⟩ : ∃ c, Hid (cmpI (Nm.val (Nm.trim zs)) (Nm.val (Nm.trim ys)) = c) := ⟨_, rfl⟩
  have hc : ¬ c < 0 := by
    rw [← C.out, Nm.val_trim, Nm.val_trim]
    unfold cmpI
    rw [if_neg (by omega)]
    split <;> omega
  have V : Hid (Nm.val (Nm.trim zs) - Nm.val (Nm.trim ys) = Nm.val zs - Nm.val ys) := by rw [Hid, Nm.val_trim, Nm.val_trim]
  have HS : Hid (0 ≤ Nm.val (Nm.trim zs) - Nm.val (Nm.trim ys) ∧ Nm.val (Nm.trim zs) - Nm.val (Nm.trim ys) < Nm.pw 4096) := by rw [Hid, Nm.val_trim, Nm.val_trim]; omega
  clear hs y0 hle
  go_enter Tryd.func38, Tryd.ntmps38
  go_wp2_with fail
  refine (pair_ok p q n cap m cap' zs ys _ a1 a2 (by omega) a4 tz b1 b2 (by omega) b4 ty).mono ?_
  rintro e w' ⟨rfl, rfl⟩
  go_wp2_with fail
  refine (cmp_is c p q _ _ _ _ (Nm.trim zs) (Nm.trim ys) _ AT.out BT.out C.out).mono ?_
  rintro e w1 ⟨rfl, hb1⟩
  have D1 := hid hb1
  clear hb1
  go_wp2_with fail
  refine (widened_any p (Nm.tsize zs) (Nm.tsize zs) 0 0 (Nm.trim zs) _ rfl (Nm.trim_length zs) (by omega) (AT.out.below D1.out (Nat.le_refl _)).2.2.2.1).mono ?_
  rintro e w2 ⟨rfl, ho, hb1, hz1⟩
  rw [List.replicate_zero, List.append_nil] at ho
  have HO := hid ho
  have D2 := hid hb1
  have S1 := hid D1.out.size
  clear ho hb1 hz1
  go_wp2_with fail
  refine (subFrom_any w1.heap.size (Nm.tsize zs) (Nm.trim zs) q (Nm.tsize ys) (Nm.tsize ys) (Nm.trim ys) _ (Nm.trim_length zs) (by omega) HO.out a5.trim (Nm.trim_length ys) tyz ((BT.out.below D1.out (Nat.le_refl _)).2.2.2.1.below D2.out (Nat.le_refl _)) b5.trim (fun h0 => (BT.out.below D1.out (Nat.le_refl _)).2.2.2.1.lt h0) HS.out.1).mono ?_
  rintro e w3 ⟨rfl, hw⟩
  obtain ⟨os, o1, o2, o3, o4, o5, o6⟩ := hw
  have HO3 := hid o1
  have O4 := hid o4
  have HB2 := hid o5
  clear o1 o4 o5 o6
  go_wp2_with fail
  refine (limited_own w1.heap.size (Nm.tsize zs) os _ o2 (by omega) HO3.out o3 w'.heap.size S1.out (by rw [O4.out]; exact HS.out.2)).mono ?_
  rintro e w4 ⟨r, xs, rfl, hans, rfl⟩
  rw [O4.out, V.out] at hans
  have HA := hid hans
  clear hans
  go_wp2_with fail
  go_ret2
  exact ⟨r, xs, rfl, HA.out, D1.out.trans ((D2.out.trans HB2.out).mono S1.out)⟩

set_option maxHeartbeats 1000000 in
theorem sub_below (p q : Option Addr) (n cap m cap' : Nat) (zs ys : List Int) (w : World) (ha : Arg w p n cap zs) (hb : Arg w q m cap' ys) (tz : Nm.tsize zs ≤ 4096) (ty : Nm.tsize ys ≤ 4096) (hlt : Nm.val zs < Nm.val ys) :
    Calls Tryd.prog 38 #[.slice p n cap, .slice q m cap'] w fun e w' => e = .returned (.tuple #[.slice none 0 0, .int .i64 10]) ∧ Below w.heap.size w w' := by
  have AT := hid ha.trim
  have BT := hid hb.trim
  obtain ⟨a1, a2, a3, a4, a5⟩ := ha
  obtain ⟨b1, b2, b3, b4, b5⟩ := hb
  have C := hid (cmpI_lt hlt)
  rw [← Nm.val_trim zs, ← Nm.val_trim ys] at C
  clear hlt
  go_enter Tryd.func38, Tryd.ntmps38
  go_wp2_with fail
  refine (pair_ok p q n cap m cap' zs ys _ a1 a2 (by omega) a4 tz b1 b2 (by omega) b4 ty).mono ?_
  rintro e w' ⟨rfl, rfl⟩
  go_wp2_with fail
  refine (cmp_is _ p q _ _ _ _ (Nm.trim zs) (Nm.trim ys) _ AT.out BT.out C.out).mono ?_
  rintro e w1 ⟨rfl, hb1⟩
  have D1 := hid hb1
  clear hb1
  go_wp2_with fail
  go_ret2
  exact ⟨rfl, D1.out⟩
end Go.Proofs.YtmglogncpfoldaaDoor
