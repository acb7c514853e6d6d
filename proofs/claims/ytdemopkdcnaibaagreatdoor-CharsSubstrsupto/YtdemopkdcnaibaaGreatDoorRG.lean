/-
  Texts put together: ZRef15, ZRef16, ZWhole, ZInt, ZRatioA, YRef1, ZPlus, ZLess, YRef2, XZero, Walk4, XTimes.
-/
import Derived.Test.YtdemopkdcnaibaaGreatDoorRE
import Derived.Test.YtdemopkdcnaibaaGreatDoorRA
import Derived.Test.YtdemopkdcnaibaaGreatDoorRF
import Derived.Test.YtdemopkdcnaibaaGreatDoorRD
import Derived.Test.YtdemopkdcnaibaaGreatDoorRC
import Derived.Test.YtdemopkdcnaibaaGreatDoorZRef3
import Derived.Deep.Cut
import Derived.Test.YtdemopkdcnaibaaGreatDoorWalk2a
import Derived.Test.YtdemopkdcnaibaaGreatDoorRB
import Derived.Test.YtdemopkdcnaibaaGreatDoorSmall
namespace Go.Proofs.YtdemopkdcnaibaaGreatDoor
open Go.RowKit Go.Deep

namespace Nm
theorem zv32_lt : ∀ zs : List Int, Halves zs → v32 zs < p32 zs.length
  | [], _ => by simp [v32, p32]
  | z :: zs, h => by
    have h1 := zv32_lt zs (fun x hx => h x (List.mem_cons_of_mem _ hx))
    have h2 := h z List.mem_cons_self
    simp only [v32, List.length_cons, p32]
    omega

theorem zv32_split : ∀ (zs : List Int) (k : Nat), v32 zs = v32 (zs.take k) + p32 k * v32 (zs.drop k)
  | zs, 0 => by simp [v32, p32]
  | [], k + 1 => by simp [v32]
  | z :: zs, k + 1 => by
    have := zv32_split zs k
    simp only [List.take_succ_cons, List.drop_succ_cons, v32, p32]
    rw [Int.mul_assoc]
    omega
end Nm

namespace Nm
theorem v32_drop_at : ∀ (zs : List Int) (k : Nat), k < zs.length → v32 (zs.drop k) = zs.getD k 0 + 4294967296 * v32 (zs.drop (k + 1))
  | [], _, h => by simp at h
  | z :: zs, 0, _ => by simp [v32]
  | z :: zs, k + 1, h => by
    have := v32_drop_at zs k (by simpa using h)
    simpa using this

theorem v32_div (zs : List Int) (h : Halves zs) (k : Nat) (hk : k ≤ zs.length) : v32 zs / p32 k = v32 (zs.drop k) := by
  have h1 := zv32_split zs k
  have h2 := zv32_lt _ (h.take k)
  rw [List.length_take, Nat.min_eq_left hk] at h2
  have h3 := v32_nonneg _ (h.take k)
  have hp := p32_pos k
  rw [h1, Int.add_mul_ediv_left _ _ (by omega), Int.ediv_eq_zero_of_lt h3 h2, Int.zero_add]

theorem drop_div {D F x q r : Int} (hF : 0 < F) (hq : q = (D % F * 4294967296 + x) / F) (hr : r = (D % F * 4294967296 + x) % F) : q + 4294967296 * (D / F) = (x + 4294967296 * D) / F ∧ r = (x + 4294967296 * D) % F := by
  have e : x + 4294967296 * D = (D % F * 4294967296 + x) + F * (4294967296 * (D / F)) := by
    have h := Int.emod_add_mul_ediv D F
    have h2 : 4294967296 * D = 4294967296 * (D % F) + 4294967296 * (F * (D / F)) := by rw [← Int.mul_add, h]
    rw [h2, Int.mul_left_comm F]
    omega
  rw [e, Int.add_mul_ediv_left _ _ (by omega), Int.add_mul_emod_self_left, hq, hr]
  exact ⟨rfl, rfl⟩
end Nm

/-- Behind the digits from j on. -/
def DropInv (g M : Nat) (w : World) (ys : List Int) (F : Int) (j : Nat) (rest : Int) (ss : List Int) (wr : World) : Prop :=
  Own wr g ss ∧ ss.length = M ∧ Nm.Halves ss ∧ Nm.v32 (ss.drop j) = Nm.v32 (ys.drop j) / F ∧ rest = Nm.v32 (ys.drop j) % F ∧ Below g w wr

theorem DropInv.step {g M : Nat} {w : World} {ys : List Int} {F : Int} {u : Nat} {rest : Int} {ss : List Int} {wr : World} (h : DropInv g M w ys F (u + 1) rest ss wr) (hy : ys.length = M) (hu : u < M) (hF : 0 < F) {x q r : Int} (hx : x = ys.getD u 0)
    (hq : q = (rest * 4294967296 + x) / F) (hr : r = (rest * 4294967296 + x) % F) (hq0 : 0 ≤ q) (hq1 : q < 4294967296) :
    DropInv g M w ys F u r (ss.set u q) (wr.setCell ⟨g, u, none⟩ (.int .u64 q)) := by
  obtain ⟨h1, h2, h3, h4, h5, h6⟩ := h
  have d := Nm.drop_div (D := Nm.v32 (ys.drop (u + 1))) (x := x) (q := q) (r := r) hF (by rw [← h5]; exact hq) (by rw [← h5]; exact hr)
  have e := Nm.v32_drop_at ys u (by omega)
  rw [← hx] at e
  refine ⟨h1.set _ _, by rw [List.length_set]; exact h2, h3.set _ hq0 hq1, ?_, ?_, h6.setCell (Nat.le_refl _) _⟩
  · rw [Nm.v32_drop_at (ss.set u q) u (by rw [List.length_set]; omega), Nm.getD_set ss u u q (by omega), if_pos rfl, List.drop_set_of_lt (by omega), h4, e]
    exact d.1
  · rw [e]
    exact d.2

set_option maxRecDepth 20000 in
set_option maxRecDepth 100000 in
set_option maxHeartbeats 4000000 in
theorem drop_any (p : Option Addr) (n cap : Nat) (za : List Int) (kk : Int) (k : Nat) (w : World) (ha : Arg w p n cap za) (hn : Nm.tsize za ≤ 1099511627776) (hkk : kk = (k : Int)) (hk : k ≤ 262144) :
    Calls Tryz.prog 100 #[.slice p n cap, .int .i64 kk] w fun e w' => ∃ r os, e = .returned (.slice r (List.length os) (List.length os)) ∧ Ans w.heap.size w' r os (Nm.val za / 2 ^ k) ∧ Below w.heap.size w w' := by
  have HA := hid ha
  have hk0 : 0 ≤ kk := by omega
  have hk1 : kk ≤ 262144 := by omega
  obtain ⟨z, HZ⟩ : ∃ z : Nat, Hid (kk / 32 = (z : Int) ∧ z = k / 32) := ⟨k / 32, by show _ ∧ _; omega⟩
  obtain ⟨r, HR⟩ : ∃ r : Nat, Hid (kk % 32 = (r : Int) ∧ r = k % 32) := ⟨k % 32, by show _ ∧ _; omega⟩
  have KZ : Hid (k = 32 * z + r) := by have := HZ.out; have := HR.out; show _ = _; omega
  have hz8 : z ≤ 8192 := by have := HZ.out; omega
  have hr31 : r ≤ 31 := by have := HR.out; omega
  clear ha hkk hk
  go_enter Tryz.func100, Tryz.ntmps100
  go_wp2_with fail
  refine (halves_any p n cap za _ HA.out (by have := HA.out.2.1; have := HA.out.2.2.1; omega)).mono ?_
  rintro e w1 ⟨xs, rfl, lx, hx, vx, kx, bx⟩
  have D1 := hid bx
  obtain ⟨l1, LX⟩ : ∃ l1, Hid (xs.length = l1) := ⟨_, rfl⟩
  have HX := hid hx
  have VX := hid vx
  have kx1 : l1 ≤ 2 * Nm.tsize za := by have := LX.out; omega
  obtain ⟨g1, G1⟩ : ∃ g1, w.heap.size = g1 := ⟨_, rfl⟩
  have lx2 := lx
  rw [G1] at lx2
  have CX : Hid (∀ i, i < l1 → w1.cell? ⟨g1, i, none⟩ = some (.int .u64 (xs.getD i 0))) := fun i hi => by have := lx2.cells i (by have := LX.out; omega); rwa [Nat.zero_add] at this
  obtain ⟨g, Gg⟩ : ∃ g, Hid (w1.heap.size = g) := ⟨_, rfl⟩
  have BX : Hid (∀ {j : Nat}, j < l1 → g1 < g) := fun {j} hj => by rw [← Gg.out]; exact cell_lt (CX.out j hj)
  rw [LX.out, G1]
  clear lx lx2 hx vx kx bx
  have DV : Hid (Nm.val za / 2 ^ k = Nm.val za / Nm.p32 z / 2 ^ r) := by
    rw [Hid, KZ.out, Nm.two_add, ← Nm.p32_pow, Int.ediv_ediv_of_nonneg (by have := Nm.p32_pos z; omega)]
  by_cases hz : l1 ≤ z
  · have hz' : (l1 : Int) ≤ kk / 32 := by have := HZ.out; omega
    have V0 : Hid (Nm.val za / 2 ^ k = 0) := by
      have h1 := Nm.zv32_lt _ HX.out
      have h2 := Nm.v32_nonneg _ HX.out
      have h3 := Nm.p32_mono hz
      rw [LX.out, VX.out] at h1
      rw [VX.out] at h2
      rw [Hid, DV.out, Int.ediv_eq_zero_of_lt h2 (by omega), Int.zero_ediv]
    have D3 := hid (chain D1.out ((Below.refl w1.heap.size w1).alloc (Nat.le_refl _) (.cells #[] 24)) (Nat.le_refl _))
    have GS : Hid (w.heap.size ≤ g) := by rw [← Gg.out]; exact D1.out.size
    have FIN : Hid (∀ x : World, Below w.heap.size w x → ∃ r os, Ending.returned (.slice (some ⟨g, 0, none⟩) 0 0) = .returned (.slice r (List.length os) (List.length os)) ∧ Ans w.heap.size x r os (Nm.val za / 2 ^ k) ∧ Below w.heap.size w x) := fun x hx => ⟨some ⟨g, 0, none⟩, [], rfl, ⟨Lies.nil _ _, Nm.Limbs.nil, rfl, V0.out.symm, fun a h => by cases h; exact GS.out⟩, hx⟩
    go_wp2
    go_ret
    rw [Gg.out]
    exact FIN.out _ D3.out
  · have hz' : ¬ (l1 : Int) ≤ kk / 32 := by have := HZ.out; omega
    go_wp2
    go_loop [7, 8] (fun f i => ∃ (t : Nat) (F : Int), t ≤ r ∧ i = .int .i64 t ∧ f = .int .u64 F ∧ 1 ≤ F ∧ F ≤ 2147483648 ∧ Hid (F = 2 ^ t)) (fun _ i => r - (intOf i).toNat)
    case atStart => exact ⟨0, 1, Nat.zero_le _, rfl, rfl, by omega, by omega, rfl⟩
    case round =>
      obtain ⟨t, F, ht, rfl, rfl, hF0, hF1, HF⟩ := hrel
      by_cases htl : t < r
      · have htl' : (t : Int) < kk % 32 := by have := HR.out; omega
        obtain ⟨F2, hF2, FF⟩ : ∃ F2, IntKind.u64.wrap (F * 2) = F2 ∧ Hid (F2 = F * 2) := ⟨_, by rw [IntKind.wrap_u64, Int.emod_eq_of_lt (by omega) (by omega)], rfl⟩
        have E2 : Hid (F2 = 2 ^ (t + 1)) := by rw [Hid, FF.out, HF.out, Nm.two_succ, Int.mul_comm]
        have hF20 : 1 ≤ F2 := by have := FF.out; omega
        have hF21 : F2 ≤ 2147483648 := by
          rw [E2.out]
          have := Nm.two_mono (show t + 1 ≤ 31 by omega)
          have e : (2 : Int) ^ 31 = 2147483648 := by decide
          omega
        go_wp2
        go_round
        case rel => exact ⟨t + 1, F2, by omega, by go_num, by first | rfl | rw [hF2], hF20, hF21, E2.out⟩
        case measure => simp [intOf]; omega
      · have htl' : ¬ (t : Int) < kk % 32 := by have := HR.out; omega
        obtain rfl : t = r := by omega
        obtain ⟨M, HM⟩ : ∃ M, Hid (l1 - z = M) := ⟨_, rfl⟩
        have hmk := make64 M (by have := HM.out; omega) w1
        rw [show ((M : Nat) : Int) = (l1 : Int) - kk / 32 by have := HZ.out; have := HM.out; omega, Gg.out] at hmk
        have bm := hid ((Below.refl w1.heap.size w1).alloc (Nat.le_refl _) (.cells (madeCells #[.int .u64 0] M) 24))
        have gm : Own (w1.alloc (.cells (madeCells #[.int .u64 0] M) 24)) w1.heap.size (List.replicate M 0) := by rw [made_zero]; exact Own.alloc w1 _
        rw [Gg.out] at bm gm
        generalize w1.alloc (.cells (madeCells #[.int .u64 0] M) 24) = wm at hmk bm gm
        have LD : Hid ((xs.drop z).length = M) := by rw [Hid, List.length_drop, LX.out]; exact HM.out
        have I0 : Hid (DropInv g M w1 (xs.drop z) F M 0 (List.replicate M 0) wm) := by
          refine ⟨gm, by simp, Nm.Halves.zeros _, ?_, ?_, bm.out⟩
          · rw [List.drop_eq_nil_of_le (by simp), List.drop_eq_nil_of_le (by have := LD.out; omega)]; simp [Nm.v32]
          · rw [List.drop_eq_nil_of_le (by have := LD.out; omega)]; simp [Nm.v32]
        clear gm bm
        go_wp2
        clear hmk
        have FP : Hid (Nm.v32 (xs.drop z) / F = Nm.val za / 2 ^ k) := by
          rw [Hid, DV.out, ← VX.out, Nm.v32_div xs HX.out z (by have := LX.out; omega), HF.out]
        have hFz : ¬ F = 0 := by omega
        have hFz' : (F == 0) = false := by rw [beq_eq_false_iff_ne]; exact hFz
        go_loopw [10, 11] (fun a i wr => ∃ (I j : Nat) (rest : Int) (ss : List Int), Hid (I = z + j) ∧ I ≤ l1 ∧ i = .int .i64 ((I : Int) - 1) ∧ a = .int .u64 rest ∧ 0 ≤ rest ∧ rest < F ∧ Hid (DropInv g M w1 (xs.drop z) F j rest ss wr)) (fun _ i _ => (intOf i + 1).toNat)
        case atStart => exact ⟨l1, M, 0, _, by have := HM.out; show _ = _; omega, Nat.le_refl _, rfl, rfl, by omega, by omega, I0.out⟩
        case round =>
          obtain ⟨I, j, rest, ss, HI, hI, rfl, rfl, hr0, hr1, DI⟩ := hrel
          by_cases hj : j = 0
          · have hge : ¬ kk / 32 ≤ (I : Int) - 1 := by have := HZ.out; have := HI.out; omega
            subst hj
            obtain ⟨o1, o2, o3, o4, o5, o6⟩ := DI.out
            simp only [List.drop_zero] at o4
            rw [FP.out] at o4
            have D3 := hid (chain D1.out (by rw [Gg.out]; exact o6) (Nat.le_refl _))
            have AG : Hid (Arg wr (some ⟨g, 0, none⟩) M M ss) := ⟨o2, Nat.le_refl _, by have := HM.out; omega, o1.lies, o3.limbs⟩
            have hw3 : Hid (w.heap.size ≤ wr.heap.size) := D3.out.size
            have HV := hid o4
            have HS := hid o3
            clear o1 o2 o3 o4 o5 o6 DI
            go_wp2_with fail
            refine (rlimbs_any _ M M ss _ AG.out HS.out).mono ?_
            rintro e w4 ⟨r4, os, rfl, hA, hb⟩
            rw [HV.out] at hA
            have A4 := hid (hA.mono hw3.out)
            have D4 := hid (chain D3.out hb (Nat.le_refl _))
            clear hA hb
            go_wp2
            go_ret
            exact ⟨r4, os, rfl, A4.out, D4.out⟩
          · obtain ⟨u, rfl⟩ : ∃ u, j = u + 1 := ⟨j - 1, by omega⟩
            obtain ⟨T, rfl⟩ : ∃ T, I = T + 1 := ⟨I - 1, by have := HI.out; omega⟩
            have HT : Hid (T = z + u) := by have := HI.out; show _ = _; omega
            have hge : kk / 32 ≤ (T : Int) := by have := HZ.out; have := HT.out; omega
            have hTl : T < l1 := by omega
            have hTl' : (T : Int) < (l1 : Int) := by omega
            have huM : u < M := by have := HM.out; have := HT.out; omega
            have hidx : (T : Int) - kk / 32 = (u : Int) := by have := HZ.out; have := HT.out; omega
            obtain ⟨x, hx, X⟩ : ∃ x, wr.cell? ⟨g1, T, none⟩ = some (.int .u64 x) ∧ Hid (x = xs.getD T 0) := ⟨_, (DI.out.2.2.2.2.2.cell (p := ⟨g1, T, none⟩) (BX.out hTl)).trans (CX.out T hTl), rfl⟩
            have X2 : Hid (x = (xs.drop z).getD u 0) := by rw [Hid, X.out, HT.out]; simp [List.getD, List.getElem?_drop]
            have hx0 : 0 ≤ x := by have := HX.out.at T; have := X.out; omega
            have hx1 : x < 4294967296 := by have := HX.out.at T; have := X.out; omega
            obtain ⟨pv, hpv⟩ : ∃ pv, wr.cell? ⟨g, u, none⟩ = some (.int .u64 pv) := ⟨_, DI.out.1.cell u (by have := DI.out.2.1; omega)⟩
            have hfr := DI.out.1.free u
            obtain ⟨m0, hm0, M0⟩ : ∃ m0, IntKind.u64.wrap (rest * 4294967296) = m0 ∧ Hid (m0 = rest * 4294967296) := ⟨_, by rw [IntKind.wrap_u64, Int.emod_eq_of_lt (by omega) (by omega)], rfl⟩
            have hm00 : 0 ≤ m0 := by have := M0.out; omega
            have hm01 : m0 ≤ 9223372032559808512 := by have := M0.out; omega
            obtain ⟨tt, htt, TT⟩ : ∃ tt, IntKind.u64.wrap (m0 + x) = tt ∧ Hid (tt = m0 + x) := ⟨_, by rw [IntKind.wrap_u64, Int.emod_eq_of_lt (by omega) (by omega)], rfl⟩
            have htt0 : 0 ≤ tt := by have := TT.out; omega
            have htt1 : tt ≤ 9223372036854775807 := by have := TT.out; omega
            obtain ⟨q, hq, Q⟩ : ∃ q, tt / F = q ∧ Hid (q = tt / F) := ⟨_, rfl, rfl⟩
            obtain ⟨rr, hrr, RR⟩ : ∃ rr, tt % F = rr ∧ Hid (rr = tt % F) := ⟨_, rfl, rfl⟩
            have ET : Hid (tt = rest * 4294967296 + x) := by rw [Hid, TT.out, M0.out]
            have hq0 : 0 ≤ q := by rw [Q.out]; exact Int.ediv_nonneg htt0 (by omega)
            have hq1 : q < 4294967296 := by
              rw [Q.out, Int.ediv_lt_iff_lt_mul (by omega)]
              have := ET.out
              omega
            have hrr0 : 0 ≤ rr := by rw [RR.out]; exact Int.emod_nonneg _ hFz
            have hrr1 : rr < F := by rw [RR.out]; exact Int.emod_lt_of_pos _ (by omega)
            have NX := hid (DI.out.step (x := x) (q := q) (r := rr) LD.out huM (by omega) X2.out (by rw [← ET.out]; exact Q.out) (by rw [← ET.out]; exact RR.out) hq0 hq1)
            have huM' : (u : Int) < (M : Int) := by omega
            clear DI
            go_wp2
            go_roundw
            case rel => exact ⟨T, u, rr, _, HT.out, by omega, by go_num, by first | rfl | rw [hrr], hrr0, hrr1, NX.out⟩
            case measure => simp [intOf]
end Go.Proofs.YtdemopkdcnaibaaGreatDoor

namespace Go.Proofs.YtdemopkdcnaibaaGreatDoor
open Go.RowKit Go.Deep

theorem refToUint_any (p : Option Addr) (n cap : Nat) (zs : List Int) (w : World) (ha : Arg w p n cap zs) :
    Calls Tryz.prog 99 #[.slice p n cap] w fun e w' => e = .returned (.tuple #[.int .u64 (toU zs), .bool (decide (Nm.tsize zs ≤ 1))]) ∧ w' = w := by
  obtain ⟨a1, a2, a3, a4, a5⟩ := ha
  have tl := Nm.tsize_le zs
  have S1 := refSize_any p n cap zs w a1 (by omega) a4
  rcases (show Nm.tsize zs = 0 ∨ Nm.tsize zs = 1 ∨ 1 < Nm.tsize zs by omega) with h | h | h
  · have E : Hid (0 = toU zs ∧ true = decide (Nm.tsize zs ≤ 1)) := by simp [Hid, toU, h]
    rw [h] at S1
    have HS := hid S1
    clear S1 h
    go_enter Tryz.func99, Tryz.ntmps99
    go_wp2_with fail
    refine HS.out.mono ?_
    rintro e w' ⟨rfl, rfl⟩
    go_wp2
    go_ret2
    exact ⟨ret_to E.out.1 E.out.2, rfl⟩
  · have E : Hid (zs.getD 0 0 = toU zs ∧ true = decide (Nm.tsize zs ≤ 1)) := by simp [Hid, toU, h]
    obtain ⟨b, off, rfl, hbw, HC⟩ := a4.at (by omega)
    have hc := HC.out 0 (by omega)
    rw [Nat.add_zero] at hc
    have hn : (0 : Int) < (n : Int) := by omega
    rw [h] at S1
    have HS := hid S1
    clear S1 h
    go_enter Tryz.func99, Tryz.ntmps99
    go_wp2_with fail
    refine HS.out.mono ?_
    rintro e w' ⟨rfl, rfl⟩
    go_wp2
    go_ret2
    exact ⟨ret_to E.out.1 E.out.2, rfl⟩
  · have E : Hid (0 = toU zs ∧ false = decide (Nm.tsize zs ≤ 1)) := by
      refine ⟨?_, ?_⟩
      · rw [toU, if_neg (by omega)]
      · simp; omega
    have h1 : ((Nm.tsize zs : Int) == 0) = false := by rw [beq_eq_false_iff_ne]; omega
    have h2 : (1 : Int) < (Nm.tsize zs : Int) := by omega
    have HS := hid S1
    clear S1 h
    go_enter Tryz.func99, Tryz.ntmps99
    go_wp2_with fail
    refine HS.out.mono ?_
    rintro e w' ⟨rfl, rfl⟩
    go_wp2
    go_ret2
    exact ⟨ret_to E.out.1 E.out.2, rfl⟩
end Go.Proofs.YtdemopkdcnaibaaGreatDoor

/-
  The document's FromUint, FromInt, Whole, ToInt (made by mkzwhole.py).
-/
namespace Go.Proofs.YtdemopkdcnaibaaGreatDoor
open Go Go.RowKit Go.Deep

set_option maxRecDepth 100000 in
set_option maxHeartbeats 2000000 in
theorem zfromI_nn (i : Int) (w : World) (h0 : 0 ≤ i) (h1 : i ≤ 9223372036854775807) :
    Calls Tryz.prog 38 #[.int .i64 i] w fun e w' => ∃ x, e = .returned (.int .u64 x) ∧ Ie.Rnd i 1 0 false x ∧ Below w.heap.size w w' := by
  have F := hid (zfromU_any i w h0 (by omega))
  go_enter Tryz.func38, Tryz.ntmps38
  go_wp2_with fail
  refine F.out.mono ?_
  rintro e w1 ⟨x, rfl, R, hB⟩
  have K := hid (And.intro R hB)
  clear R hB
  go_wp2_with fail
  go_ret
  exact ⟨x, rfl, K.out⟩

set_option maxRecDepth 100000 in
set_option maxHeartbeats 2000000 in
theorem zfromI_ng (i : Int) (w : World) (h0 : i < 0) (h1 : -9223372036854775808 ≤ i) :
    Calls Tryz.prog 38 #[.int .i64 i] w fun e w' => ∃ x, e = .returned (.int .u64 (x + 9223372036854775808)) ∧ Ie.Rnd (-i) 1 0 false x ∧ Below w.heap.size w w' := by
  have F : Hid (∀ u : Int, u = -i → Calls Tryz.prog 39 #[.int .u64 u] w fun e w' => ∃ x, e = .returned (.int .u64 x) ∧ Ie.Rnd (-i) 1 0 false x ∧ Below w.heap.size w w') := by
    intro u hu
    have := zfromU_any u w (by omega) (by omega)
    rw [hu] at this
    rw [hu]
    exact this
  have g0 : ¬ 0 ≤ i := by omega
  go_enter Tryz.func38, Tryz.ntmps38
  go_wp2_with fail
  refine (F.out _ (by omega)).mono ?_
  rintro e w1 ⟨x, rfl, R, hB⟩
  have b := R.bd
  have N : Hid (Calls Tryz.prog 29 #[.int .u64 x] w1 fun e w' => e = .returned (.int .u64 (x + 9223372036854775808)) ∧ w' = w1) := by
    have := zneg_any x w1 b.1 (by omega)
    rw [Ie.ng, if_pos (by omega)] at this
    exact this
  have K := hid (And.intro R hB)
  clear R hB b F
  go_wp2_with fail
  refine N.out.mono ?_
  rintro e w2 ⟨rfl, rfl⟩
  go_wp2_with fail
  go_ret
  exact ⟨x, rfl, K.out⟩

set_option maxRecDepth 100000 in
theorem zwhole_inf (d : Int) (w : World) (h0 : 0 ≤ d) (h1 : d < 18446744073709551616) (hr : 9218868437227405312 ≤ d % 9223372036854775808) :
    Calls Tryz.prog 41 #[.int .u64 d] w fun e w' => e = .returned (.tuple #[.bool false, .slice none 0 0, .int .i64 5]) ∧ w' = w := by
  have F := zfinite_any d w h0 h1
  rw [decide_eq_false (by omega)] at F
  have F := hid F
  clear hr
  go_enter Tryz.func41, Tryz.ntmps41
  go_wp2_with fail
  refine F.out.mono ?_
  rintro e w' ⟨rfl, rfl⟩
  go_wp2_with fail
  go_ret3
  exact ⟨rfl, rfl⟩

set_option maxRecDepth 100000 in
set_option maxHeartbeats 4000000 in
theorem zwhole_low (d : Int) (w : World) (h0 : 0 ≤ d) (h1 : d < 18446744073709551616) (r m : Int) (c : Int) (k : Nat) (hr : d % 9223372036854775808 = r) (hf : r < 9218868437227405312) (hc : Ie.cls d = c) (hm : Ie.dm d = m) (he : Ie.de d = (-(k : Int))) (hk : 0 < k) (hk2 : k ≤ 1074) (mb : 0 ≤ m ∧ m < 9007199254740992) (hw : Ie.whp r = m / 2 ^ k) :
    Calls Tryz.prog 41 #[.int .u64 d] w fun e w' => WholeTold d w e w' := by
  have F := zfinite_any d w h0 h1
  rw [decide_eq_true (by omega)] at F
  have F := hid F
  have D := hid (zdecode_any d w h0 h1)
  rw [hc, hm, he] at D
  simp only [partsOf] at D
  obtain ⟨neg, hneg⟩ : ∃ neg, decide (9223372036854775808 ≤ d) = neg := ⟨_, rfl⟩
  rw [hneg] at D
  have FU : Hid (∀ (wx : World) (b : Nat) (u : Int), u = (k : Int) → Arg wx (some ⟨b, 0, none⟩) 1 1 [m] → Calls Tryz.prog 100 #[.slice (some ⟨b, 0, none⟩) 1 1, .int .i64 u] wx fun e w' => ∃ r os, e = .returned (.slice r (List.length os) (List.length os)) ∧ Ans wx.heap.size w' r os (m / 2 ^ k) ∧ Below wx.heap.size wx w') := by
    intro wx b u hu A
    have := drop_any (some ⟨b, 0, none⟩) 1 1 [m] u k wx A (by have := Nm.tsize_le [m]; simp at this; omega) hu (by omega)
    rw [show Nm.val [m] = m by simp [Nm.val]] at this
    exact this
  have WT : Hid (∀ (w2 : World) (p : Option Addr) (os : List Int) (B : Nat), w.heap.size ≤ B → Ans B w2 p os (m / 2 ^ k) → Below w.heap.size w w2 → WholeTold d w (.returned (.tuple #[.bool neg, .slice p (List.length os) (List.length os), .int .i64 0])) w2) := by
    intro w2 p os B hB A hb
    refine ⟨p, os, by rw [hneg], ?_, hb⟩
    rw [hr, hw]
    exact ⟨A.1, A.2.1, A.2.2.1, A.2.2.2.1, fun a h => by have := A.2.2.2.2 a h; omega⟩
  have WK : IntKind.i64.wrap (k : Int) = (k : Int) := by rw [IntKind.wrap_i64]; omega
  have k1 : ¬ 0 ≤ -(k : Int) := by omega
  have k2 : (k : Int) ≤ 1074 := by omega
  have MB := hid mb
  clear hneg hr hf hc hm he hw mb
  go_enter Tryz.func41, Tryz.ntmps41
  go_wp2_with fail
  refine F.out.mono ?_
  rintro e w ⟨rfl, rfl⟩
  go_wp2_with fail
  refine D.out.mono ?_
  rintro e w1 ⟨rfl, hB⟩
  have HB := hid hB
  clear hB F D
  go_wp2_with fail
  have hb1 := Below.alloc HB.out HB.out.size (.cells #[.bool neg, .int .i64 c, .int .u64 m, .int .i64 (-(k : Int))] 26)
  have HB1 := hid (Below.alloc hb1 hb1.size (.cells #[.int .u64 m] 24))
  have hs1 : (w1.alloc (.cells #[.bool neg, .int .i64 c, .int .u64 m, .int .i64 (-(k : Int))] 26)).heap.size = w1.heap.size + 1 := by simp
  have hg2 := heap_alloc2_old w1 (.cells #[.bool neg, .int .i64 c, .int .u64 m, .int .i64 (-(k : Int))] 26) (.cells #[.int .u64 m] 24)
  have hg3 := heap_alloc2_new w1 (.cells #[.bool neg, .int .i64 c, .int .u64 m, .int .i64 (-(k : Int))] 26) (.cells #[.int .u64 m] 24)
  have p0 : ((w1.alloc (.cells #[.bool neg, .int .i64 c, .int .u64 m, .int .i64 (-(k : Int))] 26)).alloc (.cells #[.int .u64 m] 24)).cell? ⟨w1.heap.size, 0, none⟩ = some (.bool neg) := by simp only [World.cell?, hg2]; rfl
  have p3 : ((w1.alloc (.cells #[.bool neg, .int .i64 c, .int .u64 m, .int .i64 (-(k : Int))] 26)).alloc (.cells #[.int .u64 m] 24)).cell? ⟨w1.heap.size, 3, none⟩ = some (.int .i64 (-(k : Int))) := by simp only [World.cell?, hg2]; rfl
  have AR := hid (arg_lit hg3 MB.out.1 (by have := MB.out; omega))
  clear hg2 hg3 hb1 hs1
  generalize (w1.alloc (.cells #[.bool neg, .int .i64 c, .int .u64 m, .int .i64 (-(k : Int))] 26)).alloc (.cells #[.int .u64 m] 24) = wA at *
  have CA : Hid (∀ wx w2 : World, wx.heap = wA.heap → Below w.heap.size w wx → Below wx.heap.size wx w2 → Below w.heap.size w w2 ∧ w2.cell? ⟨w1.heap.size, 0, none⟩ = some (.bool neg)) := by
    intro wx w2 hh hw hB2
    have lt : w1.heap.size < wx.heap.size := by rw [hh]; exact cell_lt p0
    have eq : wx.cell? ⟨w1.heap.size, 0, none⟩ = wA.cell? ⟨w1.heap.size, 0, none⟩ := World.cell?_of_block (by rw [hh])
    exact ⟨hw.trans (hB2.mono hw.size), by rw [hB2.cell (p := ⟨w1.heap.size, 0, none⟩) lt, eq]; exact p0⟩
  have HS := hid (show w.heap.size ≤ wA.heap.size from HB1.out.size)
  have FU2 := hid (fun (u : Int) (hu : u = (k : Int)) => FU.out wA.drew (w1.heap.size + 1) u hu (AR.out.below (below_drew1 (Below.refl _ _)) (Nat.le_refl _)))
  clear FU AR MB
  go_region_with (go_at_call 100; refine (FU2.out _ ?_).mono ?_; (first | rfl | omega); rintro e w2 ⟨p, os, rfl, A, hB2⟩; obtain ⟨hB3, k0⟩ := CA.out wA.drew w2 rfl (below_drew1 HB1.out) hB2; have KK := hid (WT.out w2 p os _ HS.out A hB3); clear A hB2 hB3)
  all_goals (go_wp2_with fail; go_ret3; exact KK.out)

set_option maxRecDepth 100000 in
set_option maxHeartbeats 4000000 in
theorem zwhole_high (d : Int) (w : World) (h0 : 0 ≤ d) (h1 : d < 18446744073709551616) (r m : Int) (c : Int) (k : Nat) (hr : d % 9223372036854775808 = r) (hf : r < 9218868437227405312) (hc : Ie.cls d = c) (hm : Ie.dm d = m) (he : Ie.de d = (k : Int))  (hk2 : k ≤ 1074) (mb : 0 ≤ m ∧ m < 9007199254740992) (hw : Ie.whp r = m * 2 ^ k) :
    Calls Tryz.prog 41 #[.int .u64 d] w fun e w' => WholeTold d w e w' := by
  have F := zfinite_any d w h0 h1
  rw [decide_eq_true (by omega)] at F
  have F := hid F
  have D := hid (zdecode_any d w h0 h1)
  rw [hc, hm, he] at D
  simp only [partsOf] at D
  obtain ⟨neg, hneg⟩ : ∃ neg, decide (9223372036854775808 ≤ d) = neg := ⟨_, rfl⟩
  rw [hneg] at D
  have FU : Hid (∀ (wx : World) (b : Nat) (u : Int), u = (k : Int) → Arg wx (some ⟨b, 0, none⟩) 1 1 [m] → Calls Tryz.prog 75 #[.slice (some ⟨b, 0, none⟩) 1 1, .int .i64 u] wx fun e w' => ∃ r os, e = .returned (.slice r (List.length os) (List.length os)) ∧ Ans wx.heap.size w' r os (m * 2 ^ k) ∧ Below wx.heap.size wx w') := by
    intro wx b u hu A
    have := lift_any (some ⟨b, 0, none⟩) 1 1 [m] u k wx A (by have := Nm.tsize_le [m]; simp at this; omega) hu (by omega)
    rw [show Nm.val [m] = m by simp [Nm.val]] at this
    exact this
  have WT : Hid (∀ (w2 : World) (p : Option Addr) (os : List Int) (B : Nat), w.heap.size ≤ B → Ans B w2 p os (m * 2 ^ k) → Below w.heap.size w w2 → WholeTold d w (.returned (.tuple #[.bool neg, .slice p (List.length os) (List.length os), .int .i64 0])) w2) := by
    intro w2 p os B hB A hb
    refine ⟨p, os, by rw [hneg], ?_, hb⟩
    rw [hr, hw]
    exact ⟨A.1, A.2.1, A.2.2.1, A.2.2.2.1, fun a h => by have := A.2.2.2.2 a h; omega⟩
  have WK : IntKind.i64.wrap (k : Int) = (k : Int) := by rw [IntKind.wrap_i64]; omega
  have k1 : 0 ≤ (k : Int) := by omega
  have k2 : (k : Int) ≤ 1074 := by omega
  have MB := hid mb
  clear hneg hr hf hc hm he hw mb
  go_enter Tryz.func41, Tryz.ntmps41
  go_wp2_with fail
  refine F.out.mono ?_
  rintro e w ⟨rfl, rfl⟩
  go_wp2_with fail
  refine D.out.mono ?_
  rintro e w1 ⟨rfl, hB⟩
  have HB := hid hB
  clear hB F D
  go_wp2_with fail
  have hb1 := Below.alloc HB.out HB.out.size (.cells #[.bool neg, .int .i64 c, .int .u64 m, .int .i64 (k : Int)] 26)
  have HB1 := hid (Below.alloc hb1 hb1.size (.cells #[.int .u64 m] 24))
  have hs1 : (w1.alloc (.cells #[.bool neg, .int .i64 c, .int .u64 m, .int .i64 (k : Int)] 26)).heap.size = w1.heap.size + 1 := by simp
  have hg2 := heap_alloc2_old w1 (.cells #[.bool neg, .int .i64 c, .int .u64 m, .int .i64 (k : Int)] 26) (.cells #[.int .u64 m] 24)
  have hg3 := heap_alloc2_new w1 (.cells #[.bool neg, .int .i64 c, .int .u64 m, .int .i64 (k : Int)] 26) (.cells #[.int .u64 m] 24)
  have p0 : ((w1.alloc (.cells #[.bool neg, .int .i64 c, .int .u64 m, .int .i64 (k : Int)] 26)).alloc (.cells #[.int .u64 m] 24)).cell? ⟨w1.heap.size, 0, none⟩ = some (.bool neg) := by simp only [World.cell?, hg2]; rfl
  have p3 : ((w1.alloc (.cells #[.bool neg, .int .i64 c, .int .u64 m, .int .i64 (k : Int)] 26)).alloc (.cells #[.int .u64 m] 24)).cell? ⟨w1.heap.size, 3, none⟩ = some (.int .i64 (k : Int)) := by simp only [World.cell?, hg2]; rfl
  have AR := hid (arg_lit hg3 MB.out.1 (by have := MB.out; omega))
  clear hg2 hg3 hb1 hs1
  generalize (w1.alloc (.cells #[.bool neg, .int .i64 c, .int .u64 m, .int .i64 (k : Int)] 26)).alloc (.cells #[.int .u64 m] 24) = wA at *
  have CA : Hid (∀ wx w2 : World, wx.heap = wA.heap → Below w.heap.size w wx → Below wx.heap.size wx w2 → Below w.heap.size w w2 ∧ w2.cell? ⟨w1.heap.size, 0, none⟩ = some (.bool neg)) := by
    intro wx w2 hh hw hB2
    have lt : w1.heap.size < wx.heap.size := by rw [hh]; exact cell_lt p0
    have eq : wx.cell? ⟨w1.heap.size, 0, none⟩ = wA.cell? ⟨w1.heap.size, 0, none⟩ := World.cell?_of_block (by rw [hh])
    exact ⟨hw.trans (hB2.mono hw.size), by rw [hB2.cell (p := ⟨w1.heap.size, 0, none⟩) lt, eq]; exact p0⟩
  have HS := hid (show w.heap.size ≤ wA.heap.size from HB1.out.size)
  have FU2 := hid (fun (u : Int) (hu : u = (k : Int)) => FU.out wA.drew (w1.heap.size + 1) u hu (AR.out.below (below_drew1 (Below.refl _ _)) (Nat.le_refl _)))
  clear FU AR MB
  go_region_with (go_at_call 75; refine (FU2.out _ ?_).mono ?_; (first | rfl | omega); rintro e w2 ⟨p, os, rfl, A, hB2⟩; obtain ⟨hB3, k0⟩ := CA.out wA.drew w2 rfl (below_drew1 HB1.out) hB2; have KK := hid (WT.out w2 p os _ HS.out A hB3); clear A hB2 hB3)
  all_goals (go_wp2_with fail; go_ret3; exact KK.out)

theorem zwhole_fin (d : Int) (w : World) (h0 : 0 ≤ d) (h1 : d < 18446744073709551616) (hf : d % 9223372036854775808 < 9218868437227405312) :
    Calls Tryz.prog 41 #[.int .u64 d] w fun e w' => WholeTold d w e w' := by
  rcases Ie.dec_kinds d _ rfl with ⟨c, m, x, k1⟩ | ⟨c, m, x, k1, k2⟩ | ⟨c, m, x, k1, k2⟩ | ⟨c, m, x, k1⟩ | ⟨c, m, x, k1, k2⟩
  · exact zwhole_high d w h0 h1 _ 0 _ 0 rfl hf c m x (by omega) (by omega) (by rw [k1, Ie.whp_zero]; rfl)
  · have e0 : Ie.ex (d % 9223372036854775808) = 0 := by rw [Ie.ex]; omega
    have m0 : Ie.man (d % 9223372036854775808) = d % 9223372036854775808 := by rw [Ie.man, if_pos k2]
    exact zwhole_low d w h0 h1 _ _ _ 1074 rfl hf c m x (by omega) (by omega) (by omega) (by rw [Ie.whp_low _ 1074 (by omega), m0])
  · have mb := Ie.man_nn (d % 9223372036854775808) (by omega)
    have eb : (Ie.ex (d % 9223372036854775808) : Int) ≤ 2045 := by simp only [Ie.ex]; omega
    rcases (show (Ie.ex (d % 9223372036854775808) : Int) < 1074 ∨ 1074 ≤ (Ie.ex (d % 9223372036854775808) : Int) by omega) with h | h
    · obtain ⟨k, hk⟩ : ∃ k : Nat, (Ie.ex (d % 9223372036854775808) : Int) + k = 1074 := ⟨(1074 - (Ie.ex (d % 9223372036854775808) : Int)).toNat, by omega⟩
      exact zwhole_low d w h0 h1 _ _ _ k rfl hf c m (by rw [x]; omega) (by omega) (by omega) mb (Ie.whp_low _ k hk)
    · obtain ⟨k, hk⟩ : ∃ k : Nat, (Ie.ex (d % 9223372036854775808) : Int) = 1074 + k := ⟨((Ie.ex (d % 9223372036854775808) : Int) - 1074).toNat, by omega⟩
      exact zwhole_high d w h0 h1 _ _ _ k rfl hf c m (by rw [x]; omega) (by omega) mb (Ie.whp_high _ k hk).1
  · omega
  · omega
end Go.Proofs.YtdemopkdcnaibaaGreatDoor

/-
  The document's ToInt, Integral (made by mkzint.py).
-/
namespace Go.Proofs.YtdemopkdcnaibaaGreatDoor
open Go Go.RowKit Go.Deep

set_option maxRecDepth 100000 in
theorem ztoInt_inf (d : Int) (w : World) (h0 : 0 ≤ d) (h1 : d < 18446744073709551616) (hr : 9218868437227405312 ≤ d % 9223372036854775808) :
    Calls Tryz.prog 40 #[.int .u64 d] w fun e w' => e = .returned (.tuple #[.int .i64 0, .int .i64 5]) ∧ w' = w := by
  have F := hid (zwhole_inf d w h0 h1 hr)
  clear hr
  go_enter Tryz.func40, Tryz.ntmps40
  go_wp2_with fail
  refine F.out.mono ?_
  rintro e w' ⟨rfl, rfl⟩
  go_wp2_with fail
  go_ret2
  exact ⟨rfl, rfl⟩

set_option maxRecDepth 100000 in
set_option maxHeartbeats 4000000 in
theorem ztoInt_fin (d : Int) (w : World) (h0 : 0 ≤ d) (h1 : d < 18446744073709551616) (hr : d % 9223372036854775808 < 9218868437227405312) (neg : Bool) (hneg : decide (9223372036854775808 ≤ d) = neg) (V : Int) (hV : Ie.whp (d % 9223372036854775808) = V) (V0 : 0 ≤ V) (Vb : V < Nm.pw 4096) :
    Calls Tryz.prog 40 #[.int .u64 d] w fun e w' => ∃ j f, e = .returned (.tuple #[.int .i64 j, .int .i64 f]) ∧ ToIntIs neg V j f ∧ Below w.heap.size w w' := by
  have F : Hid (Calls Tryz.prog 41 #[.int .u64 d] w fun e w' => ∃ r os, e = .returned (.tuple #[.bool neg, .slice r (List.length os) (List.length os), .int .i64 0]) ∧ Ans w.heap.size w' r os V ∧ Below w.heap.size w w') := by
    have := zwhole_fin d w h0 h1 hr
    simp only [WholeTold] at this
    rw [hneg, hV] at this
    exact this
  have VB := hid Vb
  clear hneg hV hr Vb
  rcases (show 18446744073709551616 ≤ V ∨ V < 18446744073709551616 by omega) with hb | hb
  · have TU : Hid (∀ (wx : World) (r : Option Addr) (os : List Int) (B : Nat), Ans B wx r os V → ∃ u, Calls Tryz.prog 99 #[.slice r os.length os.length] wx fun e w' => e = .returned (.tuple #[.int .u64 u, .bool false]) ∧ w' = wx) := by
      intro wx r os B A
      have l := ans_small A 4096 VB.out
      have := refToUint_any r _ _ os wx (A.arg (by omega))
      have h2 : decide (Nm.tsize os ≤ 1) = false := by
        rw [decide_eq_false_iff_not]
        intro hh
        have := (Nm.tsize_le_iff A.2.1 1).1 hh
        rw [A.2.2.2.1] at this
        have e : Nm.pw 1 = 18446744073709551616 := rfl
        omega
      rw [h2] at this
      exact ⟨_, this⟩
    cases neg
    · go_enter Tryz.func40, Tryz.ntmps40
      go_wp2_with fail
      refine F.out.mono ?_
      rintro e w1 ⟨r, os, rfl, A, hB⟩
      obtain ⟨u, hu⟩ := TU.out w1 r os _ A
      have HU := hid hu
      clear hu
      have HB := hid hB
      clear hB A F TU
      go_wp2_with fail
      refine HU.out.mono ?_
      rintro e w2 ⟨rfl, rfl⟩
      go_wp2_with fail
      go_ret2
      exact ⟨0, 41, rfl, .inr ⟨by simp; omega, rfl, rfl⟩, HB.out⟩
    · go_enter Tryz.func40, Tryz.ntmps40
      go_wp2_with fail
      refine F.out.mono ?_
      rintro e w1 ⟨r, os, rfl, A, hB⟩
      obtain ⟨u, hu⟩ := TU.out w1 r os _ A
      have HU := hid hu
      clear hu
      have HB := hid hB
      clear hB A F TU
      go_wp2_with fail
      refine HU.out.mono ?_
      rintro e w2 ⟨rfl, rfl⟩
      go_wp2_with fail
      go_ret2
      exact ⟨0, 41, rfl, .inr ⟨by simp; omega, rfl, rfl⟩, HB.out⟩
  · have TU : Hid (∀ (wx : World) (r : Option Addr) (os : List Int) (B : Nat), Ans B wx r os V → Calls Tryz.prog 99 #[.slice r os.length os.length] wx fun e w' => e = .returned (.tuple #[.int .u64 V, .bool true]) ∧ w' = wx) := by
      intro wx r os B A
      have l := ans_small A 4096 VB.out
      have h1 := refToUint_any r _ _ os wx (A.arg (by omega))
      rw [toU_val A.2.1 (by rw [A.2.2.2.1]; exact hb), A.2.2.2.1] at h1
      have h2 : Nm.tsize os ≤ 1 := (Nm.tsize_le_iff A.2.1 1).2 (by rw [A.2.2.2.1]; exact hb)
      simpa [h2] using h1
    rcases (show 9223372036854775808 < V ∨ V = 9223372036854775808 ∨ V < 9223372036854775808 by omega) with hm | hm | hm
    · cases neg
      · go_enter Tryz.func40, Tryz.ntmps40
        go_wp2_with fail
        refine F.out.mono ?_
        rintro e w1 ⟨r, os, rfl, A, hB⟩
        have HU := hid (TU.out w1 r os _ A)
        have HB := hid hB
        clear hB A F TU
        go_wp2_with fail
        refine HU.out.mono ?_
        rintro e w2 ⟨rfl, rfl⟩
        go_wp2_with fail
        go_ret2
        exact ⟨0, 41, rfl, .inr ⟨by simp; omega, rfl, rfl⟩, HB.out⟩
      · go_enter Tryz.func40, Tryz.ntmps40
        go_wp2_with fail
        refine F.out.mono ?_
        rintro e w1 ⟨r, os, rfl, A, hB⟩
        have HU := hid (TU.out w1 r os _ A)
        have HB := hid hB
        clear hB A F TU
        go_wp2_with fail
        refine HU.out.mono ?_
        rintro e w2 ⟨rfl, rfl⟩
        go_wp2_with fail
        go_ret2
        exact ⟨0, 41, rfl, .inr ⟨by simp; omega, rfl, rfl⟩, HB.out⟩
    · subst hm
      cases neg
      · go_enter Tryz.func40, Tryz.ntmps40
        go_wp2_with fail
        refine F.out.mono ?_
        rintro e w1 ⟨r, os, rfl, A, hB⟩
        have HU := hid (TU.out w1 r os _ A)
        have HB := hid hB
        clear hB A F TU
        go_wp2_with fail
        refine HU.out.mono ?_
        rintro e w2 ⟨rfl, rfl⟩
        go_wp2_with fail
        go_ret2
        exact ⟨0, 41, rfl, .inr ⟨by simp, rfl, rfl⟩, HB.out⟩
      · go_enter Tryz.func40, Tryz.ntmps40
        go_wp2_with fail
        refine F.out.mono ?_
        rintro e w1 ⟨r, os, rfl, A, hB⟩
        have HU := hid (TU.out w1 r os _ A)
        have HB := hid hB
        clear hB A F TU
        go_wp2_with fail
        refine HU.out.mono ?_
        rintro e w2 ⟨rfl, rfl⟩
        go_wp2_with fail
        go_ret2
        exact ⟨-9223372036854775808, 0, rfl, .inl ⟨by simp, rfl, rfl⟩, HB.out⟩
    · have ne : (V == 9223372036854775808) = false := by rw [beq_eq_false_iff_ne]; omega
      cases neg
      · go_enter Tryz.func40, Tryz.ntmps40
        go_wp2_with fail
        refine F.out.mono ?_
        rintro e w1 ⟨r, os, rfl, A, hB⟩
        have HU := hid (TU.out w1 r os _ A)
        have HB := hid hB
        clear hB A F TU
        go_wp2_with fail
        refine HU.out.mono ?_
        rintro e w2 ⟨rfl, rfl⟩
        go_wp2_with fail
        go_ret2
        exact ⟨V, 0, rfl, .inl ⟨by simp; omega, rfl, rfl⟩, HB.out⟩
      · go_enter Tryz.func40, Tryz.ntmps40
        go_wp2_with fail
        refine F.out.mono ?_
        rintro e w1 ⟨r, os, rfl, A, hB⟩
        have HU := hid (TU.out w1 r os _ A)
        have HB := hid hB
        clear hB A F TU
        go_wp2_with fail
        refine HU.out.mono ?_
        rintro e w2 ⟨rfl, rfl⟩
        go_wp2_with fail
        go_ret2
        exact ⟨-V, 0, rfl, .inl ⟨by simp; omega, rfl, rfl⟩, HB.out⟩

set_option maxRecDepth 100000 in
theorem zintegral_inf (d : Int) (w : World) (h0 : 0 ≤ d) (h1 : d < 18446744073709551616) (hr : 9218868437227405312 ≤ d % 9223372036854775808) :
    Calls Tryz.prog 37 #[.int .u64 d] w fun e w' => e = .returned (.bool false) ∧ w' = w := by
  have F := zfinite_any d w h0 h1
  rw [decide_eq_false (by omega)] at F
  have F := hid F
  clear hr
  go_enter Tryz.func37, Tryz.ntmps37
  go_wp2_with fail
  refine F.out.mono ?_
  rintro e w' ⟨rfl, rfl⟩
  go_wp2_with fail
  go_ret
  exact ⟨rfl, rfl⟩

set_option maxRecDepth 100000 in
set_option maxHeartbeats 4000000 in
theorem zintegral_yes (d : Int) (w : World) (h0 : 0 ≤ d) (h1 : d < 18446744073709551616) (hr : d % 9223372036854775808 < 9218868437227405312) (m x : Int) (hm : Ie.dm d = m) (hx : Ie.de d = x) (h : m = 0 ∨ 0 ≤ x) :
    Calls Tryz.prog 37 #[.int .u64 d] w fun e w' => e = .returned (.bool true) ∧ Below w.heap.size w w' := by
  have F := zfinite_any d w h0 h1
  rw [decide_eq_true hr] at F
  have F := hid F
  have D := hid (zdecode_any d w h0 h1)
  rw [hm, hx] at D
  generalize decide (9223372036854775808 ≤ d) = neg at D
  generalize Ie.cls d = c at D
  simp only [partsOf] at D
  clear hr hm hx
  by_cases mz : m = 0
  · subst mz
    clear h
    go_enter Tryz.func37, Tryz.ntmps37
    go_wp2_with fail
    refine F.out.mono ?_
    rintro e w ⟨rfl, rfl⟩
    go_wp2_with fail
    refine D.out.mono ?_
    rintro e w1 ⟨rfl, hB⟩
    have HB := hid hB
    clear hB F D
    go_wp2_with fail
    go_ret
    exact ⟨rfl, Below.alloc HB.out HB.out.size _⟩
  · have mz' : (m == 0) = false := by rw [beq_eq_false_iff_ne]; exact mz
    have xn : 0 ≤ x := by omega
    clear h mz
    go_enter Tryz.func37, Tryz.ntmps37
    go_wp2_with fail
    refine F.out.mono ?_
    rintro e w ⟨rfl, rfl⟩
    go_wp2_with fail
    refine D.out.mono ?_
    rintro e w1 ⟨rfl, hB⟩
    have HB := hid hB
    clear hB F D
    go_wp2_with fail
    go_ret
    exact ⟨by simp, Below.alloc HB.out HB.out.size _⟩

set_option maxRecDepth 100000 in
set_option maxHeartbeats 4000000 in
theorem zintegral_low (d : Int) (w : World) (h0 : 0 ≤ d) (h1 : d < 18446744073709551616) (hr : d % 9223372036854775808 < 9218868437227405312) (m x : Int) (hm : Ie.dm d = m) (hx : Ie.de d = x) (mp : 0 < m) (mb : m < 9007199254740992) (xn : x < 0) (xb : -1074 ≤ x) (T : Nat) (hT : Nm.Trl m T) (hTb : T ≤ 64) :
    Calls Tryz.prog 37 #[.int .u64 d] w fun e w' => e = .returned (.bool (decide (0 ≤ x + T))) ∧ Below w.heap.size w w' := by
  have F := zfinite_any d w h0 h1
  rw [decide_eq_true hr] at F
  have F := hid F
  have D := hid (zdecode_any d w h0 h1)
  rw [hm, hx] at D
  have ZT : Hid (∀ (wx : World) (b : Nat), Arg wx (some ⟨b, 0, none⟩) 1 1 [m] → Calls Tryz.prog 98 #[.slice (some ⟨b, 0, none⟩) 1 1] wx fun e w' => e = .returned (.int .i64 (T : Int)) ∧ w' = wx) := by
    intro wx b A
    refine (refTrail_any (some ⟨b, 0, none⟩) 1 1 [m] wx A).mono ?_
    rintro r w' ⟨⟨t, rfl, h⟩, rfl⟩
    rw [show Nm.val [m] = m by simp [Nm.val]] at h
    rw [Nm.Trl.unique h hT]
    exact ⟨rfl, rfl⟩
  generalize decide (9223372036854775808 ≤ d) = neg at D
  generalize Ie.cls d = c at D
  simp only [partsOf] at D
  have mz' : (m == 0) = false := by rw [beq_eq_false_iff_ne]; omega
  have xn' : ¬ 0 ≤ x := by omega
  have t1 : (T : Int) ≤ 64 := by omega
  have WX : IntKind.i64.wrap (-x) = -x := by rw [IntKind.wrap_i64]; omega
  have MB := hid (show 0 ≤ m ∧ m < 18446744073709551616 by omega)
  clear hr hm hx hT hTb mp mb
  go_enter Tryz.func37, Tryz.ntmps37
  go_wp2_with fail
  refine F.out.mono ?_
  rintro e w ⟨rfl, rfl⟩
  go_wp2_with fail
  refine D.out.mono ?_
  rintro e w1 ⟨rfl, hB⟩
  have HB := hid hB
  clear hB F D
  go_wp2_with fail
  have HB1 := hid (Below.alloc HB.out HB.out.size (.cells #[.bool neg, .int .i64 c, .int .u64 m, .int .i64 x] 26))
  have hg := heap_alloc_new w1 (.cells #[.bool neg, .int .i64 c, .int .u64 m, .int .i64 x] 26)
  have p2 : (w1.alloc (.cells #[.bool neg, .int .i64 c, .int .u64 m, .int .i64 x] 26)).cell? ⟨w1.heap.size, 2, none⟩ = some (.int .u64 m) := by simp only [World.cell?, hg]; rfl
  have p3 : (w1.alloc (.cells #[.bool neg, .int .i64 c, .int .u64 m, .int .i64 x] 26)).cell? ⟨w1.heap.size, 3, none⟩ = some (.int .i64 x) := by simp only [World.cell?, hg]; rfl
  clear hg
  generalize w1.alloc (.cells #[.bool neg, .int .i64 c, .int .u64 m, .int .i64 x] 26) = wA at *
  have hb2 : Below w.heap.size w (wA.drew.alloc (.cells #[.int .u64 m] 24)) := Below.alloc (below_drew1 HB1.out) (below_drew1 HB1.out).size _
  have p3a : (wA.drew.alloc (.cells #[.int .u64 m] 24)).cell? ⟨w1.heap.size, 3, none⟩ = some (.int .i64 x) := by
    rw [(alloc_below wA.drew _).cell (p := ⟨w1.heap.size, 3, none⟩) (cell_lt p3)]; exact p3
  have Z2 : Hid (∀ g : Obj, g = .cells #[.int .u64 m] 24 → Calls Tryz.prog 98 #[.slice (some ⟨wA.heap.size, 0, none⟩) 1 1] (wA.drew.alloc g) fun e w' => e = .returned (.int .i64 (T : Int)) ∧ w'.cell? ⟨w1.heap.size, 3, none⟩ = some (.int .i64 x) ∧ Below w.heap.size w w') := by
    intro g hg
    subst hg
    refine (ZT.out (wA.drew.alloc (.cells #[.int .u64 m] 24)) wA.heap.size (arg_lit (heap_alloc_new wA.drew _) MB.out.1 MB.out.2)).mono ?_
    rintro e w2 ⟨rfl, rfl⟩
    exact ⟨rfl, p3a, hb2⟩
  clear hb2 ZT MB
  have hlt : w1.heap.size < wA.heap.size := cell_lt p3
  have hne : ¬ w1.heap.size = wA.heap.size := by omega
  have hne2 : ¬ wA.heap.size = w1.heap.size := by omega
  go_region_with (go_at_call 98; refine (Z2.out _ rfl).mono ?_; rintro e w2 ⟨rfl, k3, hB3⟩; have HB3 := hid hB3; clear hB3)
  all_goals (go_wp2_with fail; go_ret; exact ⟨ret_bool (by first | (rw [WX, decide_eq_decide]; omega) | (rw [decide_eq_decide]; omega)), HB3.out⟩)
end Go.Proofs.YtdemopkdcnaibaaGreatDoor

/-
  The document's RoundRatio at any exponent.
-/
namespace Go.Proofs.YtdemopkdcnaibaaGreatDoor
open Go Go.RowKit Go.Deep

set_option maxRecDepth 100000 in
set_option maxHeartbeats 4000000 in
/-- The document's RoundRatio, at any exponent. -/
theorem zratio_all (neg : Bool) (p q : Option Addr) (n cap n' cap' : Nat) (zs ys : List Int) (w : World) (ha : Arg w p n cap zs) (hb : Arg w q n' cap' ys) (tz : Nm.tsize zs ≤ 4096) (ty : Nm.tsize ys ≤ 4096) (V D e : Int) (hV : Nm.val zs = V) (hD : Nm.val ys = D) (hd : 0 < D) :
    Calls Tryz.prog 43 #[.bool neg, .slice p n cap, .slice q n' cap', .int .i64 e] w fun r w' => ∃ x, r = .returned (.tuple #[.int .u64 (Ie.sg neg x), .int .i64 0]) ∧ Ie.Rnd V D e false x ∧ Below w.heap.size w w' := by
  have v0 : 0 ≤ V := by rw [← hV]; exact (Nm.val_bd zs ha.2.2.2.2).1
  by_cases hin : 0 < V ∧ -1048576 ≤ e ∧ e ≤ 1048576
  · exact zratio_any neg p q n cap n' cap' zs ys w ha hb tz ty V D e hV hD hd hin.1 hin.2.1 hin.2.2
  · obtain ⟨L, hL, BL, hl, _⟩ := blen_is zs ha.2.2.2.2
    obtain ⟨M, hM, BM, hm, _⟩ := blen_is ys hb.2.2.2.2
    rw [hV] at BL
    rw [hD] at BM
    have B1 := hid (refBig_is false p n cap zs w ha (by simp; omega))
    have B2 := hid (refBig_is false q n' cap' ys w hb (by simp; omega))
    obtain ⟨S1, hS1⟩ : ∃ S, Nm.tsize zs = S := ⟨_, rfl⟩
    obtain ⟨S2, hS2⟩ : ∃ S, Nm.tsize ys = S := ⟨_, rfl⟩
    have tq : 0 < Nm.tsize ys := by
      rcases Nat.eq_zero_or_pos (Nm.tsize ys) with h | h
      · have := (Nm.tsize_zero_iff hb.2.2.2.2).1 h; omega
      · exact h
    have Z1 := refSize_any p n cap zs w ha.1 (by have := ha.2.1; have := ha.2.2.1; omega) ha.2.2.2.1
    have Z2 := refSize_any q n' cap' ys w hb.1 (by have := hb.2.1; have := hb.2.2.1; omega) hb.2.2.2.1
    have tz0 := Nm.tsize_zero_iff ha.2.2.2.2
    rw [hS1, hV] at tz0
    rw [hS1] at Z1
    rw [hS2] at Z2 tq
    have Z1 := hid Z1
    have Z2 := hid Z2
    have s2 : ((S2 : Int) == 0) = false := by rw [beq_eq_false_iff_ne]; omega
    have PZ := hid (zput_any neg 0 0 w (by omega) (by omega) (by omega) (by omega) (by omega))
    have PI := hid (zput_any neg 2047 0 w (by omega) (by omega) (by omega) (by omega) (by omega))
    have R0 : V = 0 ∨ e < -1048576 → Ie.Rnd V D e false 0 := by
      rintro (h | h)
      · rw [h]; exact Ie.rnd_zero D e false hd
      · exact Ie.rnd_small V D e L 0 false BL.1 (by rw [Int.pow_zero]; omega) (by omega)
    have RI : 0 < V → 1048576 < e → Ie.Rnd V D e false 9218868437227405312 := fun h h' => Ie.rnd_inf V D e 0 M false (by rw [Int.pow_zero]; omega) (by have := BM.1; omega) (by omega)
    by_cases c0 : V = 0
    · have hs0 : S1 = 0 := tz0.2 c0
      have R := hid (R0 (.inl c0))
      subst hs0
      clear ha hb tz ty hV hD hd v0 hin hL hM BL BM hl hm hS1 hS2 tq tz0 R0 RI PI
      go_enter Tryz.func43, Tryz.ntmps43
      go_wp2_with fail
      refine B1.out.mono ?_
      rintro e' w' ⟨rfl, rfl⟩
      go_wp2_with fail
      refine B2.out.mono ?_
      rintro e' w' ⟨rfl, rfl⟩
      go_wp2_with fail
      refine Z2.out.mono ?_
      rintro e' w' ⟨rfl, rfl⟩
      go_wp2_with fail
      refine Z1.out.mono ?_
      rintro e' w' ⟨rfl, rfl⟩
      go_wp2_with fail
      refine PZ.out.mono ?_
      rintro e' w' ⟨rfl, rfl⟩
      go_wp2_with fail
      go_ret2
      exact ⟨0, ret_sg (by simp), R.out, Below.refl _ _⟩
    · have s1 : ((S1 : Int) == 0) = false := by
        rw [beq_eq_false_iff_ne]
        intro hh
        exact c0 (tz0.1 (by omega))
      by_cases c1 : e < -1048576
      · have R := hid (R0 (.inr c1))
        clear ha hb tz ty hV hD hd v0 hin hL hM BL BM hl hm hS1 hS2 tq tz0 R0 RI PI c0
        go_enter Tryz.func43, Tryz.ntmps43
        go_wp2_with fail
        refine B1.out.mono ?_
        rintro e' w' ⟨rfl, rfl⟩
        go_wp2_with fail
        refine B2.out.mono ?_
        rintro e' w' ⟨rfl, rfl⟩
        go_wp2_with fail
        refine Z2.out.mono ?_
        rintro e' w' ⟨rfl, rfl⟩
        go_wp2_with fail
        refine Z1.out.mono ?_
        rintro e' w' ⟨rfl, rfl⟩
        go_wp2_with fail
        refine PZ.out.mono ?_
        rintro e' w' ⟨rfl, rfl⟩
        go_wp2_with fail
        go_ret2
        exact ⟨0, ret_sg (by simp), R.out, Below.refl _ _⟩
      · have c2 : 1048576 < e := by omega
        have R := hid (RI (by omega) c2)
        clear ha hb tz ty hV hD hd v0 hin hL hM BL BM hl hm hS1 hS2 tq tz0 R0 RI PZ c0
        go_enter Tryz.func43, Tryz.ntmps43
        go_wp2_with fail
        refine B1.out.mono ?_
        rintro e' w' ⟨rfl, rfl⟩
        go_wp2_with fail
        refine B2.out.mono ?_
        rintro e' w' ⟨rfl, rfl⟩
        go_wp2_with fail
        refine Z2.out.mono ?_
        rintro e' w' ⟨rfl, rfl⟩
        go_wp2_with fail
        refine Z1.out.mono ?_
        rintro e' w' ⟨rfl, rfl⟩
        go_wp2_with fail
        refine PI.out.mono ?_
        rintro e' w' ⟨rfl, rfl⟩
        go_wp2_with fail
        go_ret2
        exact ⟨_, ret_sg (by simp), R.out, Below.refl _ _⟩

end Go.Proofs.YtdemopkdcnaibaaGreatDoor

namespace Go.Proofs.YtdemopkdcnaibaaGreatDoor
open Go Go.RowKit Go.Deep

theorem yabs_any (d : Int) (w : World) (h0 : 0 ≤ d) (h1 : d < 18446744073709551616) :
    Calls Tryz.prog 30 #[.int .u64 d] w fun e w' => e = .returned (.int .u64 (Ie.ab d)) ∧ w' = w := by
  unfold Ie.ab
  go_enter Tryz.func30, Tryz.ntmps30
  go_wp2
  go_ret
  exact ⟨rfl, rfl⟩

theorem yneg_any (d : Int) (w : World) (h0 : 0 ≤ d) (h1 : d < 18446744073709551616) :
    Calls Tryz.prog 29 #[.int .u64 d] w fun e w' => e = .returned (.int .u64 (Ie.ng d)) ∧ w' = w := by
  by_cases h : 9223372036854775808 ≤ d
  · have E : Hid (Ie.ng d = d - 9223372036854775808) := by rw [Hid, Ie.ng, if_neg (by omega)]
    go_enter Tryz.func29, Tryz.ntmps29
    go_wp2
    go_ret
    exact ⟨i_retU E.out.symm, rfl⟩
  · have E : Hid (Ie.ng d = d + 9223372036854775808) := by rw [Hid, Ie.ng, if_pos (by omega)]
    go_enter Tryz.func29, Tryz.ntmps29
    go_wp2
    go_ret
    exact ⟨i_retU E.out.symm, rfl⟩

theorem ynan_any (d : Int) (w : World) (h0 : 0 ≤ d) (h1 : d < 18446744073709551616) :
    Calls Tryz.prog 63 #[.int .u64 d] w fun e w' => e = .returned (.bool (Ie.isn d)) ∧ w' = w := by
  have A := hid (yabs_any d w h0 h1)
  unfold Ie.isn
  go_enter Tryz.func63, Tryz.ntmps63
  go_wp2_with fail
  refine A.out.mono ?_
  rintro e w' ⟨rfl, rfl⟩
  go_wp2_with fail
  go_ret
  exact ⟨rfl, rfl⟩

theorem yret_b {a b : Bool} (h : a = b) : Ending.returned (.bool a) = .returned (.bool b) := by rw [h]

theorem yngd_any (d : Int) (w : World) :
    Calls Tryz.prog 66 #[.int .u64 d] w fun e w' => e = .returned (.bool (Ie.ngd d)) ∧ w' = w := by
  unfold Ie.ngd
  go_enter Tryz.func66, Tryz.ntmps66
  go_wp2
  go_ret
  exact ⟨rfl, rfl⟩

theorem yinf_any (d : Int) (w : World) (h0 : 0 ≤ d) (h1 : d < 18446744073709551616) :
    Calls Tryz.prog 64 #[.int .u64 d] w fun e w' => e = .returned (.bool (Ie.isi d)) ∧ w' = w := by
  have A := hid (yabs_any d w h0 h1)
  have E : Hid ((Ie.ab d == 9218868437227405312) = Ie.isi d) := by rw [Hid, Ie.isi, Bool.eq_iff_iff]; simp
  go_enter Tryz.func64, Tryz.ntmps64
  go_wp2_with fail
  refine A.out.mono ?_
  rintro e w' ⟨rfl, rfl⟩
  go_wp2_with fail
  go_ret
  exact ⟨yret_b E.out, rfl⟩

theorem yzero_any (d : Int) (w : World) (h0 : 0 ≤ d) (h1 : d < 18446744073709551616) :
    Calls Tryz.prog 73 #[.int .u64 d] w fun e w' => e = .returned (.bool (Ie.isz d)) ∧ w' = w := by
  have A := hid (yabs_any d w h0 h1)
  have E : Hid ((Ie.ab d == 0) = Ie.isz d) := by rw [Hid, Ie.isz, Bool.eq_iff_iff]; simp
  go_enter Tryz.func73, Tryz.ntmps73
  go_wp2_with fail
  refine A.out.mono ?_
  rintro e w' ⟨rfl, rfl⟩
  go_wp2_with fail
  go_ret
  exact ⟨yret_b E.out, rfl⟩

set_option maxRecDepth 100000 in
theorem yanynan_any (a b : Int) (w : World) (a0 : 0 ≤ a) (a1 : a < 18446744073709551616) (b0 : 0 ≤ b) (b1 : b < 18446744073709551616) :
    Calls Tryz.prog 62 #[.int .u64 a, .int .u64 b] w fun e w' => e = .returned (.bool (Ie.isn a || Ie.isn b)) ∧ w' = w := by
  have A := hid (ynan_any a w a0 a1)
  have B := hid (ynan_any b w b0 b1)
  cases ha : Ie.isn a
  · rw [ha] at A
    go_enter Tryz.func62, Tryz.ntmps62
    go_wp2_with fail
    refine A.out.mono ?_
    rintro e w' ⟨rfl, rfl⟩
    go_wp2_with fail
    refine B.out.mono ?_
    rintro e w' ⟨rfl, rfl⟩
    go_wp2_with fail
    go_ret
    exact ⟨yret_b (by simp), rfl⟩
  · rw [ha] at A
    go_enter Tryz.func62, Tryz.ntmps62
    go_wp2_with fail
    refine A.out.mono ?_
    rintro e w' ⟨rfl, rfl⟩
    go_wp2_with fail
    go_ret
    exact ⟨yret_b (by simp), rfl⟩

theorem ysigned_any (neg : Bool) (d : Int) (w : World) (h0 : 0 ≤ d) (h1 : d < 18446744073709551616) :
    Calls Tryz.prog 65 #[.bool neg, .int .u64 d] w fun e w' => e = .returned (.int .u64 (Ie.sb neg (Ie.ab d))) ∧ w' = w := by
  have A := hid (yabs_any d w h0 h1)
  have b : 0 ≤ Ie.ab d ∧ Ie.ab d < 9223372036854775808 := by unfold Ie.ab; omega
  obtain ⟨b0, b1⟩ := b
  generalize Ie.ab d = x at *
  cases neg
  · unfold Ie.sb
    go_enter Tryz.func65, Tryz.ntmps65
    go_wp2_with fail
    refine A.out.mono ?_
    rintro e w' ⟨rfl, rfl⟩
    go_wp2_with fail
    go_ret
    exact ⟨rfl, rfl⟩
  · unfold Ie.sb
    go_enter Tryz.func65, Tryz.ntmps65
    go_wp2_with fail
    refine A.out.mono ?_
    rintro e w' ⟨rfl, rfl⟩
    go_wp2_with fail
    go_ret
    exact ⟨rfl, rfl⟩

/-- A value is the number V / D * 2^e with that sign; its lists lie from block B on. -/
def RN (B : Nat) (w : World) (v : Value) (neg : Bool) (V D e : Int) : Prop :=
  ∃ p n c q m d zs ys, v = .agg #[.bool neg, .slice p n c, .slice q m d, .int .i64 e] ∧ Arg w p n c zs ∧ Nm.val zs = V ∧ Nm.tsize zs ≤ 4096 ∧ Arg w q m d ys ∧ Nm.val ys = D ∧ Nm.tsize ys ≤ 4096 ∧ (∀ x, p = some x → B ≤ x.block) ∧ (∀ x, q = some x → B ≤ x.block)
theorem RN.on {w w' : World} {v : Value} {neg : Bool} {V D e : Int} {B : Nat} (h : RN B w v neg V D e) (b : Below w.heap.size w w') : RN B w' v neg V D e := by
  obtain ⟨p, n, c, q, m, d, zs, ys, h1, h2, h3, h4, h5, h6, h7, h8⟩ := h
  exact ⟨p, n, c, q, m, d, zs, ys, h1, h2.below b (Nat.le_refl _), h3, h4, h5.below b (Nat.le_refl _), h6, h7, h8⟩

set_option maxRecDepth 100000 in
set_option maxHeartbeats 1000000 in
theorem ynone_any {w : World} {v : Value} {neg : Bool} {V D e : Int} {B : Nat} (h : RN B w v neg V D e) :
    Calls Tryz.prog 124 #[v] w fun r w' => r = .returned (.bool (decide (V = 0))) ∧ Below w.heap.size w w' := by
  obtain ⟨p, n, c, q, m, d, zs, ys, rfl, h2, h3, h4, h5, h6, h7, _⟩ := h
  have SZ := hid (fun wx (b : Below w.heap.size w wx) => refSize_any p n c zs wx h2.1 (by have := h2.2.1; have := h2.2.2.1; omega) (h2.below b (Nat.le_refl _)).2.2.2.1)
  have BA := hid (alloc_b w (.cells #[.bool neg, .slice p n c, .slice q m d, .int .i64 e] 83))
  have E : Hid (((Nm.tsize zs : Int) == 0) = decide (V = 0)) := by
    rw [Hid, Bool.eq_iff_iff]
    have := Nm.tsize_zero_iff h2.2.2.2.2
    simp
    rw [← h3]
    omega
  clear h2 h3 h4 h5 h6 h7
  go_enter Tryz.func124, Tryz.ntmps124
  go_wp2_with fail
  refine (SZ.out _ BA.out).mono ?_
  rintro r w' ⟨rfl, rfl⟩
  generalize Nm.tsize zs = t at *
  go_wp2_with fail
  go_ret
  exact ⟨yret_b E.out, BA.out⟩

set_option maxRecDepth 100000 in
set_option maxHeartbeats 1000000 in
theorem yrounded_any {w : World} {v : Value} {neg : Bool} {V D e : Int} {B : Nat} (h : RN B w v neg V D e) (hD : 0 < D) :
    Calls Tryz.prog 69 #[v] w fun r w' => ∃ x, r = .returned (.int .u64 (Ie.sg neg x)) ∧ Ie.Rnd V D e false x ∧ Below w.heap.size w w' := by
  obtain ⟨p, n, c, q, m, d, zs, ys, rfl, h2, h3, h4, h5, h6, h7, _⟩ := h
  have BA := hid (alloc_b w (.cells #[.bool neg, .slice p n c, .slice q m d, .int .i64 e] 83))
  have RR := hid (zratio_all neg p q n c m d zs ys (w.alloc (.cells #[.bool neg, .slice p n c, .slice q m d, .int .i64 e] 83)) (h2.below BA.out (Nat.le_refl _)) (h5.below BA.out (Nat.le_refl _)) h4 h7 V D e h3 h6 hD)
  clear h2 h3 h4 h5 h6 h7 hD
  go_enter Tryz.func69, Tryz.ntmps69
  go_wp2_with fail
  refine RR.out.mono ?_
  rintro r w' ⟨x, rfl, R, hB⟩
  have F := hid (And.intro R (BA.out.trans (hB.mono BA.out.size)))
  clear R hB RR
  go_wp2_with fail
  go_ret
  exact ⟨x, rfl, F.out⟩

/-- A new number is answered. -/
def NumTold5 (neg : Bool) (V D e : Int) (w : World) (r : Ending) (w' : World) : Prop := ∃ v, r = .returned v ∧ RN w.heap.size w' v neg V D e ∧ Below w.heap.size w w'
end Go.Proofs.YtdemopkdcnaibaaGreatDoor

namespace Go.Proofs.YtdemopkdcnaibaaGreatDoor
open Go.RowKit Go.Deep

set_option maxRecDepth 20000 in
set_option maxHeartbeats 4000000 in
theorem plus_any (p q : Option Addr) (n cap m cap' : Nat) (za zb : List Int) (w : World) (ha : Arg w p n cap za) (hb : Arg w q m cap' zb) (hn : Nm.tsize za ≤ 1099511627776) (hm : Nm.tsize zb ≤ 1099511627776) :
    Calls Tryz.prog 126 #[.slice p n cap, .slice q m cap'] w fun e w' => ∃ r os, e = .returned (.slice r (List.length os) (List.length os)) ∧ Ans w.heap.size w' r os (Nm.val za + Nm.val zb) ∧ Below w.heap.size w w' := by
  have HA := hid ha
  have HB0 := hid hb
  clear ha hb
  go_enter Tryz.func126, Tryz.ntmps126
  go_wp2_with fail
  refine (halves_any p n cap za _ HA.out (by have := HA.out.2.1; have := HA.out.2.2.1; omega)).mono ?_
  rintro e w1 ⟨xs, rfl, lx, hx, vx, kx, bx⟩
  have HB1 := hid (HB0.out.below bx (Nat.le_refl _))
  have D1 := hid bx
  obtain ⟨l1, LX⟩ : ∃ l1, Hid (xs.length = l1) := ⟨_, rfl⟩
  have LX0 := hid lx
  have HX := hid hx
  have VX := hid vx
  have kx1 : l1 ≤ 2 * Nm.tsize za := by have := LX.out; omega
  rw [LX.out]
  clear lx hx vx kx bx HB0
  go_wp2_with fail
  refine (halves_any q m cap' zb _ HB1.out (by have := HB1.out.2.1; have := HB1.out.2.2.1; omega)).mono ?_
  rintro e w2 ⟨ys, rfl, ly, hy, vy, ky, by_⟩
  have D2 := hid (chain D1.out by_ (Nat.le_refl _))
  obtain ⟨l2, LY⟩ : ∃ l2, Hid (ys.length = l2) := ⟨_, rfl⟩
  have HY := hid hy
  have VY := hid vy
  have ky1 : l2 ≤ 2 * Nm.tsize zb := by have := LY.out; omega
  obtain ⟨g1, G1⟩ : ∃ g1, w.heap.size = g1 := ⟨_, rfl⟩
  obtain ⟨g2, G2⟩ : ∃ g2, w1.heap.size = g2 := ⟨_, rfl⟩
  have LX2 := LX0.out.below by_ (Nat.le_refl _)
  rw [G1] at LX2
  have ly2 := ly
  rw [G2] at ly2
  have CX : Hid (∀ i, i < l1 → w2.cell? ⟨g1, i, none⟩ = some (.int .u64 (xs.getD i 0))) := fun i hi => by have := LX2.cells i (by have := LX.out; omega); rwa [Nat.zero_add] at this
  have CY : Hid (∀ i, i < l2 → w2.cell? ⟨g2, i, none⟩ = some (.int .u64 (ys.getD i 0))) := fun i hi => by have := ly2.cells i (by have := LY.out; omega); rwa [Nat.zero_add] at this
  obtain ⟨g, Gg⟩ : ∃ g, Hid (w2.heap.size = g) := ⟨_, rfl⟩
  have BX : Hid (∀ {j : Nat}, j < l1 → g1 < g) := fun {j} hj => by rw [← Gg.out]; exact cell_lt (CX.out j hj)
  have BY : Hid (∀ {j : Nat}, j < l2 → g2 < g) := fun {j} hj => by rw [← Gg.out]; exact cell_lt (CY.out j hj)
  rw [LY.out, G1, G2]
  clear ly hy vy ky by_ LX0 LX2 ly2 HB1 D1 G2
  obtain ⟨C, HC⟩ : ∃ C, Hid (l1 + l2 + 1 = C) := ⟨_, rfl⟩
  have hmk := make64_room (l1 + l2 + 1) (by omega) w2
  rw [show ((l1 + l2 + 1 : Nat) : Int) = (l1 : Int) + (l2 : Int) + 1 by omega, HC.out, Gg.out] at hmk
  have bm := hid ((Below.refl w2.heap.size w2).alloc (Nat.le_refl _) (.cells (madeCells #[.int .u64 0] C) 24))
  have gm := hid (Grown.made w2 C)
  rw [Gg.out] at bm gm
  generalize w2.alloc (.cells (madeCells #[.int .u64 0] C) 24) = wm at hmk bm gm
  have hCb : C ≤ 35184372088832 := by have := HC.out; omega
  go_wp2
  clear hmk
  go_loopw [7, 8, 9] (fun a c i wr => ∃ (j : Nat) (cc : Int) (ss : List Int), j ≤ l1 + l2 ∧ j + 1 ≤ C ∧ i = .int .i64 j ∧ a = .slice (some ⟨g, 0, none⟩) j C ∧ c = .int .u64 cc ∧ 0 ≤ cc ∧ cc ≤ 1 ∧ Hid (Grown wr g ss (C - j)) ∧ Hid (ss.length = j) ∧ Hid (Nm.Halves ss) ∧ Hid (Nm.v32 ss + Nm.p32 j * cc = Nm.v32 (xs.take j) + Nm.v32 (ys.take j)) ∧ Below g w2 wr) (fun _ _ i _ => l1 + l2 - (intOf i).toNat)
  case atStart => exact ⟨0, 0, [], Nat.zero_le _, by have := HC.out; omega, rfl, rfl, rfl, by omega, by omega, gm.out, rfl, Nm.Halves.nil, rfl, bm.out⟩
  case round =>
    obtain ⟨j, cc, ss, hj, hjC, rfl, rfl, rfl, hc0, hc1, G, L, HS, V, hB⟩ := hrel
    have G' := G.out
    rw [show C - j = (C - j - 1) + 1 by omega] at G'
    by_cases h1 : j < l1
    · have hj2 : j + 1 ≤ l1 + l2 := by omega
      have hj3 : j + 1 + 1 ≤ C := by have := HC.out; omega
      by_cases h2 : j < l2
      · skip
        obtain ⟨x, hx, X⟩ : ∃ x, wr.cell? ⟨g1, j, none⟩ = some (.int .u64 x) ∧ Hid (x = xs.getD j 0) := ⟨_, (hB.cell (p := ⟨g1, j, none⟩) (BX.out h1)).trans (CX.out j h1), rfl⟩
        have hx0 : 0 ≤ x := by have := HX.out.at j; have := X.out; omega
        have hx1 : x < 4294967296 := by have := HX.out.at j; have := X.out; omega
        have h1' : (j : Int) < (l1 : Int) := by omega
        obtain ⟨y, hy, Y⟩ : ∃ y, wr.cell? ⟨g2, j, none⟩ = some (.int .u64 y) ∧ Hid (y = ys.getD j 0) := ⟨_, (hB.cell (p := ⟨g2, j, none⟩) (BY.out h2)).trans (CY.out j h2), rfl⟩
        have hy0 : 0 ≤ y := by have := HY.out.at j; have := Y.out; omega
        have hy1 : y < 4294967296 := by have := HY.out.at j; have := Y.out; omega
        have h2' : (j : Int) < (l2 : Int) := by omega
        obtain ⟨c1, hc1, C1⟩ : ∃ c1, IntKind.u64.wrap (cc + x) = c1 ∧ Hid (c1 = cc + x) := ⟨_, by rw [IntKind.wrap_u64, Int.emod_eq_of_lt (by omega) (by omega)], rfl⟩
        have hc10 : 0 ≤ c1 := by have := C1.out; omega
        have hc11 : c1 ≤ 4294967296 := by have := C1.out; omega
        obtain ⟨c2, hc2, C2⟩ : ∃ c2, IntKind.u64.wrap (c1 + y) = c2 ∧ Hid (c2 = c1 + y) := ⟨_, by rw [IntKind.wrap_u64, Int.emod_eq_of_lt (by omega) (by omega)], rfl⟩
        have hc20 : 0 ≤ c2 := by have := C2.out; omega
        have hc21 : c2 ≤ 8589934592 := by have := C2.out; omega
        have TOT : Hid (c2 = cc + x + y) := by have := C1.out; have := C2.out; show _ = _; omega
        obtain ⟨lo, hlo, LO⟩ : ∃ lo, bits .and .u64 c2 4294967295 = lo ∧ Hid (lo = c2 % 4294967296) := ⟨_, r_mask32 c2 (by omega) (by omega), rfl⟩
        obtain ⟨hi, hhi, HI⟩ : ∃ hi, c2 / 4294967296 = hi ∧ Hid (hi = c2 / 4294967296) := ⟨_, rfl, rfl⟩
        have hi0 : 0 ≤ hi := by omega
        have hi1 : hi ≤ 1 := by have := TOT.out; have := HX.out.at j; have := HY.out.at j; have := X.out; have := Y.out; omega
        obtain ⟨w2, ap, gr, be, sz⟩ := push64 g j (C - j - 1) C ss lo wr L.out (by omega) G'
        have AP := hid ap
        have GR := hid gr
        have BE := hid (hB.trans be)
        have BLO : Hid (0 ≤ lo ∧ lo < 4294967296) := by have := LO.out; show _ ∧ _; omega
        clear ap gr be sz hB G G'
        go_wp2_with (at_builtin; refine wpList_append_row rfl _ _ rfl AP.out (by rfl) (by rfl) ?_; clear AP)
        go_roundw
        case rel =>
          refine ⟨j + 1, hi, ss ++ [lo], by omega, by omega, by go_num, rfl, rfl, hi0, hi1, GR.out, ?_, HS.out.snoc BLO.out.1 BLO.out.2, ?_, BE.out⟩
          · have := L.out; simp only [Hid, List.length_append, List.length_cons, List.length_nil]; omega
          · exact Nm.plus_step L.out V.out (by rw [← X.out, ← Y.out, ← TOT.out, LO.out, HI.out]; omega)
        case measure => simp [intOf]; omega
      · skip
        obtain ⟨x, hx, X⟩ : ∃ x, wr.cell? ⟨g1, j, none⟩ = some (.int .u64 x) ∧ Hid (x = xs.getD j 0) := ⟨_, (hB.cell (p := ⟨g1, j, none⟩) (BX.out h1)).trans (CX.out j h1), rfl⟩
        have hx0 : 0 ≤ x := by have := HX.out.at j; have := X.out; omega
        have hx1 : x < 4294967296 := by have := HX.out.at j; have := X.out; omega
        have h1' : (j : Int) < (l1 : Int) := by omega
        obtain ⟨y, hy0, Y⟩ : ∃ y : Int, y = 0 ∧ Hid (y = ys.getD j 0) := ⟨0, rfl, by simp [Hid, List.getD, List.getElem?_eq_none (show ys.length ≤ j by have := LY.out; omega)]⟩
        have h2' : ¬ (j : Int) < (l2 : Int) := by omega
        obtain ⟨c1, hc1, C1⟩ : ∃ c1, IntKind.u64.wrap (cc + x) = c1 ∧ Hid (c1 = cc + x) := ⟨_, by rw [IntKind.wrap_u64, Int.emod_eq_of_lt (by omega) (by omega)], rfl⟩
        have hc10 : 0 ≤ c1 := by have := C1.out; omega
        have hc11 : c1 ≤ 4294967296 := by have := C1.out; omega
        have TOT : Hid (c1 = cc + x + y) := by have := C1.out; show _ = _; omega
        obtain ⟨lo, hlo, LO⟩ : ∃ lo, bits .and .u64 c1 4294967295 = lo ∧ Hid (lo = c1 % 4294967296) := ⟨_, r_mask32 c1 (by omega) (by omega), rfl⟩
        obtain ⟨hi, hhi, HI⟩ : ∃ hi, c1 / 4294967296 = hi ∧ Hid (hi = c1 / 4294967296) := ⟨_, rfl, rfl⟩
        have hi0 : 0 ≤ hi := by omega
        have hi1 : hi ≤ 1 := by have := TOT.out; have := HX.out.at j; have := HY.out.at j; have := X.out; have := Y.out; omega
        obtain ⟨w2, ap, gr, be, sz⟩ := push64 g j (C - j - 1) C ss lo wr L.out (by omega) G'
        have AP := hid ap
        have GR := hid gr
        have BE := hid (hB.trans be)
        have BLO : Hid (0 ≤ lo ∧ lo < 4294967296) := by have := LO.out; show _ ∧ _; omega
        clear ap gr be sz hB G G'
        go_wp2_with (at_builtin; refine wpList_append_row rfl _ _ rfl AP.out (by rfl) (by rfl) ?_; clear AP)
        go_roundw
        case rel =>
          refine ⟨j + 1, hi, ss ++ [lo], by omega, by omega, by go_num, rfl, rfl, hi0, hi1, GR.out, ?_, HS.out.snoc BLO.out.1 BLO.out.2, ?_, BE.out⟩
          · have := L.out; simp only [Hid, List.length_append, List.length_cons, List.length_nil]; omega
          · exact Nm.plus_step L.out V.out (by rw [← X.out, ← Y.out, ← TOT.out, LO.out, HI.out]; omega)
        case measure => simp [intOf]; omega
    · by_cases h2 : j < l2
      · have hj2 : j + 1 ≤ l1 + l2 := by omega
        have hj3 : j + 1 + 1 ≤ C := by have := HC.out; omega
        obtain ⟨x, hx0, X⟩ : ∃ x : Int, x = 0 ∧ Hid (x = xs.getD j 0) := ⟨0, rfl, by simp [Hid, List.getD, List.getElem?_eq_none (show xs.length ≤ j by have := LX.out; omega)]⟩
        have h1' : ¬ (j : Int) < (l1 : Int) := by omega
        obtain ⟨y, hy, Y⟩ : ∃ y, wr.cell? ⟨g2, j, none⟩ = some (.int .u64 y) ∧ Hid (y = ys.getD j 0) := ⟨_, (hB.cell (p := ⟨g2, j, none⟩) (BY.out h2)).trans (CY.out j h2), rfl⟩
        have hy0 : 0 ≤ y := by have := HY.out.at j; have := Y.out; omega
        have hy1 : y < 4294967296 := by have := HY.out.at j; have := Y.out; omega
        have h2' : (j : Int) < (l2 : Int) := by omega
        obtain ⟨c2, hc2, C2⟩ : ∃ c2, IntKind.u64.wrap (cc + y) = c2 ∧ Hid (c2 = cc + y) := ⟨_, by rw [IntKind.wrap_u64, Int.emod_eq_of_lt (by omega) (by omega)], rfl⟩
        have hc20 : 0 ≤ c2 := by have := C2.out; omega
        have hc21 : c2 ≤ 8589934592 := by have := C2.out; omega
        have TOT : Hid (c2 = cc + x + y) := by have := C2.out; show _ = _; omega
        obtain ⟨lo, hlo, LO⟩ : ∃ lo, bits .and .u64 c2 4294967295 = lo ∧ Hid (lo = c2 % 4294967296) := ⟨_, r_mask32 c2 (by omega) (by omega), rfl⟩
        obtain ⟨hi, hhi, HI⟩ : ∃ hi, c2 / 4294967296 = hi ∧ Hid (hi = c2 / 4294967296) := ⟨_, rfl, rfl⟩
        have hi0 : 0 ≤ hi := by omega
        have hi1 : hi ≤ 1 := by have := TOT.out; have := HX.out.at j; have := HY.out.at j; have := X.out; have := Y.out; omega
        obtain ⟨w2, ap, gr, be, sz⟩ := push64 g j (C - j - 1) C ss lo wr L.out (by omega) G'
        have AP := hid ap
        have GR := hid gr
        have BE := hid (hB.trans be)
        have BLO : Hid (0 ≤ lo ∧ lo < 4294967296) := by have := LO.out; show _ ∧ _; omega
        clear ap gr be sz hB G G'
        go_wp2_with (at_builtin; refine wpList_append_row rfl _ _ rfl AP.out (by rfl) (by rfl) ?_; clear AP)
        go_roundw
        case rel =>
          refine ⟨j + 1, hi, ss ++ [lo], by omega, by omega, by go_num, rfl, rfl, hi0, hi1, GR.out, ?_, HS.out.snoc BLO.out.1 BLO.out.2, ?_, BE.out⟩
          · have := L.out; simp only [Hid, List.length_append, List.length_cons, List.length_nil]; omega
          · exact Nm.plus_step L.out V.out (by rw [← X.out, ← Y.out, ← TOT.out, LO.out, HI.out]; omega)
        case measure => simp [intOf]; omega
      · have h1' : ¬ (j : Int) < (l1 : Int) := by omega
        have h2' : ¬ (j : Int) < (l2 : Int) := by omega
        obtain ⟨w3, ap, gr, be, sz⟩ := push64 g j (C - j - 1) C ss cc wr L.out (by omega) G'
        have AP := hid ap
        have D3 := hid (chain D2.out (by rw [Gg.out]; exact hB.trans be) (Nat.le_refl _))
        have VV : Hid (Nm.v32 (ss ++ [cc]) = Nm.val za + Nm.val zb) := by
          have := V.out
          rw [List.take_of_length_le (by have := LX.out; omega), List.take_of_length_le (by have := LY.out; omega), VX.out, VY.out] at this
          rw [Hid, Nm.v32_snoc, L.out]
          exact this
        have HS2 := hid (HS.out.snoc hc0 (by omega : cc < 4294967296))
        have AG : Hid (Arg w3 (some ⟨g, 0, none⟩) (j + 1) C (ss ++ [cc])) := ⟨by simp [L.out], by omega, by have := HC.out; omega, gr.lies, HS2.out.limbs⟩
        have hw3 : Hid (w.heap.size ≤ w3.heap.size) := D3.out.size
        clear ap gr be sz hB G G'
        go_wp2_with (at_builtin; refine wpList_append_row rfl _ _ rfl AP.out (by rfl) (by rfl) ?_; clear AP)
        refine (rlimbs_any _ (j + 1) C (ss ++ [cc]) _ AG.out HS2.out).mono ?_
        rintro e w4 ⟨r, os, rfl, hA, hb⟩
        rw [VV.out] at hA
        have A4 := hid (hA.mono hw3.out)
        have D4 := hid (chain D3.out hb (Nat.le_refl _))
        clear hA hb
        go_wp2
        go_ret
        exact ⟨r, os, rfl, A4.out, D4.out⟩
end Go.Proofs.YtdemopkdcnaibaaGreatDoor

namespace Go.Proofs.YtdemopkdcnaibaaGreatDoor
open Go.RowKit Go.Deep

namespace Nm
theorem v32_lt : ∀ zs : List Int, Halves zs → v32 zs < p32 zs.length
  | [], _ => by simp [v32, p32]
  | z :: zs, h => by
    have h1 := v32_lt zs (fun x hx => h x (List.mem_cons_of_mem _ hx))
    have h2 := h z List.mem_cons_self
    simp only [v32, List.length_cons, p32]
    omega

theorem v32_split : ∀ (zs : List Int) (k : Nat), v32 zs = v32 (zs.take k) + p32 k * v32 (zs.drop k)
  | zs, 0 => by simp [v32, p32]
  | [], k + 1 => by simp [v32]
  | z :: zs, k + 1 => by
    have := v32_split zs k
    simp only [List.take_succ_cons, List.drop_succ_cons, v32, p32]
    rw [Int.mul_assoc]
    omega

theorem Halves.drop {zs : List Int} (h : Halves zs) (k : Nat) : Halves (zs.drop k) := fun z hz => h z (List.mem_of_mem_drop hz)

theorem less_step {ss xs ys : List Int} {j : Nat} {c c' lo : Int} (hl : ss.length = j) (h : v32 ss + p32 j * (-c) = v32 (xs.take j) - v32 (ys.take j)) (hs : lo + 4294967296 * (-c') = (-c) + xs.getD j 0 + (-ys.getD j 0)) :
    v32 (ss ++ [lo]) + p32 (j + 1) * (-c') = v32 (xs.take (j + 1)) - v32 (ys.take (j + 1)) := by
  rw [v32_snoc, v32_take_next, v32_take_next, hl]
  have e : p32 j * (lo + 4294967296 * (-c')) = p32 j * ((-c) + xs.getD j 0 + (-ys.getD j 0)) := by rw [hs]
  rw [Int.mul_add, Int.mul_add, Int.mul_add, Int.mul_neg (p32 j) (ys.getD j 0)] at e
  have e2 : p32 (j + 1) * (-c') = p32 j * (4294967296 * (-c')) := by simp only [p32]; rw [Int.mul_comm 4294967296 (p32 j), Int.mul_assoc]
  omega

theorem less_end {ss xs ys : List Int} {l : Nat} {c A B : Int} (hl : ss.length = l) (hx : xs.length = l) (hs : Halves ss) (hy : Halves ys) (vx : v32 xs = A) (vy : v32 ys = B) (hc : 0 ≤ c) (hle : B ≤ A) (h : v32 ss + p32 l * (-c) = v32 (xs.take l) - v32 (ys.take l)) : v32 ss = A - B := by
  rw [List.take_of_length_le (by omega), vx] at h
  have h1 := v32_split ys l
  have h2 := v32_lt ss hs
  have h3 := v32_nonneg _ (hy.drop l)
  have h4 := p32_pos l
  rw [hl] at h2
  rw [vy] at h1
  rw [Int.mul_neg] at h
  obtain ⟨r, hr⟩ : ∃ r, v32 (ys.drop l) = r := ⟨_, rfl⟩
  rw [hr] at h1 h3
  have e : p32 l * (c + r) = p32 l * c + p32 l * r := Int.mul_add _ _ _
  have h5 : c + r = 0 := by
    rcases (show c + r = 0 ∨ 1 ≤ c + r by omega) with h6 | h6
    · exact h6
    · have h7 : p32 l * 1 ≤ p32 l * (c + r) := Int.mul_le_mul_of_nonneg_left h6 (by omega)
      omega
  rw [h5, Int.mul_zero] at e
  omega
end Nm

set_option maxRecDepth 20000 in
set_option maxHeartbeats 4000000 in
theorem less_any (p q : Option Addr) (n cap m cap' : Nat) (za zb : List Int) (w : World) (ha : Arg w p n cap za) (hb : Arg w q m cap' zb) (hn : Nm.tsize za ≤ 1099511627776) (hle : Nm.val zb ≤ Nm.val za) :
    Calls Tryz.prog 127 #[.slice p n cap, .slice q m cap'] w fun e w' => ∃ r os, e = .returned (.slice r (List.length os) (List.length os)) ∧ Ans w.heap.size w' r os (Nm.val za - Nm.val zb) ∧ Below w.heap.size w w' := by
  have LE := hid hle
  clear hle
  have HA := hid ha
  have HB0 := hid hb
  clear ha hb
  go_enter Tryz.func127, Tryz.ntmps127
  go_wp2_with fail
  refine (halves_any p n cap za _ HA.out (by have := HA.out.2.1; have := HA.out.2.2.1; omega)).mono ?_
  rintro e w1 ⟨xs, rfl, lx, hx, vx, kx, bx⟩
  have HB1 := hid (HB0.out.below bx (Nat.le_refl _))
  have D1 := hid bx
  obtain ⟨l1, LX⟩ : ∃ l1, Hid (xs.length = l1) := ⟨_, rfl⟩
  have LX0 := hid lx
  have HX := hid hx
  have VX := hid vx
  have kx1 : l1 ≤ 2 * Nm.tsize za := by have := LX.out; omega
  rw [LX.out]
  clear lx hx vx kx bx HB0
  go_wp2_with fail
  refine (halves_any q m cap' zb _ HB1.out (by have := HB1.out.2.1; have := HB1.out.2.2.1; omega)).mono ?_
  rintro e w2 ⟨ys, rfl, ly, hy, vy, ky, by_⟩
  have D2 := hid (chain D1.out by_ (Nat.le_refl _))
  obtain ⟨l2, LY⟩ : ∃ l2, Hid (ys.length = l2) := ⟨_, rfl⟩
  have HY := hid hy
  have VY := hid vy
  have ky1 : l2 ≤ 2 * Nm.tsize zb := by have := LY.out; omega
  obtain ⟨g1, G1⟩ : ∃ g1, w.heap.size = g1 := ⟨_, rfl⟩
  obtain ⟨g2, G2⟩ : ∃ g2, w1.heap.size = g2 := ⟨_, rfl⟩
  have LX2 := LX0.out.below by_ (Nat.le_refl _)
  rw [G1] at LX2
  have ly2 := ly
  rw [G2] at ly2
  have CX : Hid (∀ i, i < l1 → w2.cell? ⟨g1, i, none⟩ = some (.int .u64 (xs.getD i 0))) := fun i hi => by have := LX2.cells i (by have := LX.out; omega); rwa [Nat.zero_add] at this
  have CY : Hid (∀ i, i < l2 → w2.cell? ⟨g2, i, none⟩ = some (.int .u64 (ys.getD i 0))) := fun i hi => by have := ly2.cells i (by have := LY.out; omega); rwa [Nat.zero_add] at this
  obtain ⟨g, Gg⟩ : ∃ g, Hid (w2.heap.size = g) := ⟨_, rfl⟩
  have BX : Hid (∀ {j : Nat}, j < l1 → g1 < g) := fun {j} hj => by rw [← Gg.out]; exact cell_lt (CX.out j hj)
  have BY : Hid (∀ {j : Nat}, j < l2 → g2 < g) := fun {j} hj => by rw [← Gg.out]; exact cell_lt (CY.out j hj)
  rw [LY.out, G1, G2]
  clear ly hy vy ky by_ LX0 LX2 ly2 HB1 D1 G2
  have hmk := make64_room l1 (by omega) w2
  rw [Gg.out] at hmk
  have bm := hid ((Below.refl w2.heap.size w2).alloc (Nat.le_refl _) (.cells (madeCells #[.int .u64 0] l1) 24))
  have gm := hid (Grown.made w2 l1)
  rw [Gg.out] at bm gm
  generalize w2.alloc (.cells (madeCells #[.int .u64 0] l1) 24) = wm at hmk bm gm
  go_wp2
  clear hmk
  go_loopw [7, 8, 9] (fun a c i wr => ∃ (j : Nat) (cc : Int) (ss : List Int), j ≤ l1 ∧ i = .int .i64 j ∧ a = .slice (some ⟨g, 0, none⟩) j l1 ∧ c = .int .u64 cc ∧ 0 ≤ cc ∧ cc ≤ 1 ∧ Hid (Grown wr g ss (l1 - j)) ∧ Hid (ss.length = j) ∧ Hid (Nm.Halves ss) ∧ Hid (Nm.v32 ss + Nm.p32 j * (-cc) = Nm.v32 (xs.take j) - Nm.v32 (ys.take j)) ∧ Below g w2 wr) (fun _ _ i _ => l1 - (intOf i).toNat)
  case atStart => exact ⟨0, 0, [], Nat.zero_le _, rfl, rfl, rfl, by omega, by omega, gm.out, rfl, Nm.Halves.nil, rfl, bm.out⟩
  case round =>
    obtain ⟨j, cc, ss, hj, rfl, rfl, rfl, hc0, hc1, G, L, HS, V, hB⟩ := hrel
    by_cases h1 : j < l1
    · obtain ⟨x, hx, X⟩ : ∃ x, wr.cell? ⟨g1, j, none⟩ = some (.int .u64 x) ∧ Hid (x = xs.getD j 0) := ⟨_, (hB.cell (p := ⟨g1, j, none⟩) (BX.out h1)).trans (CX.out j h1), rfl⟩
      have hx0 : 0 ≤ x := by have := HX.out.at j; have := X.out; omega
      have hx1 : x < 4294967296 := by have := HX.out.at j; have := X.out; omega
      have h1' : (j : Int) < (l1 : Int) := by omega
      have G' := G.out
      rw [show l1 - j = (l1 - j - 1) + 1 by omega] at G'
      by_cases h2 : j < l2
      · skip
        obtain ⟨y, hy, Y⟩ : ∃ y, wr.cell? ⟨g2, j, none⟩ = some (.int .u64 y) ∧ Hid (y = ys.getD j 0) := ⟨_, (hB.cell (p := ⟨g2, j, none⟩) (BY.out h2)).trans (CY.out j h2), rfl⟩
        have hy0 : 0 ≤ y := by have := HY.out.at j; have := Y.out; omega
        have hy1 : y < 4294967296 := by have := HY.out.at j; have := Y.out; omega
        have h2' : (j : Int) < (l2 : Int) := by omega
        obtain ⟨o, ho, O⟩ : ∃ o, IntKind.u64.wrap (cc + y) = o ∧ Hid (o = cc + y) := ⟨_, by rw [IntKind.wrap_u64, Int.emod_eq_of_lt (by omega) (by omega)], rfl⟩
        have ho0 : 0 ≤ o := by have := O.out; omega
        have ho1 : o ≤ 4294967296 := by have := O.out; omega
        by_cases hd : x < o
        · skip
          obtain ⟨d, hd1, DD⟩ : ∃ d, IntKind.u64.wrap (x + 4294967296) = d ∧ Hid (d = x + 4294967296) := ⟨_, by rw [IntKind.wrap_u64, Int.emod_eq_of_lt (by omega) (by omega)], rfl⟩
          have hd2 : 4294967296 ≤ d := by have := DD.out; omega
          have hd3 : d < 8589934592 := by have := DD.out; omega
          obtain ⟨z, hz, Z⟩ : ∃ z, IntKind.u64.wrap (d - o) = z ∧ Hid (z = d - o) := ⟨_, by rw [IntKind.wrap_u64, Int.emod_eq_of_lt (by omega) (by omega)], rfl⟩
          have BZ : Hid (0 ≤ z ∧ z < 4294967296) := by have := Z.out; have := DD.out; show _ ∧ _; omega
          have ST : Hid (z + 4294967296 * (-1) = (-cc) + x + (-y)) := by have := Z.out; have := DD.out; have := O.out; show _ = _; omega
          obtain ⟨w2, ap, gr, be, sz⟩ := push64 g j (l1 - j - 1) l1 ss z wr L.out (by omega) G'
          have AP := hid ap
          have GR := hid gr
          have BE := hid (hB.trans be)
          clear ap gr be sz hB G G'
          go_wp2_with (at_builtin; refine wpList_append_row rfl _ _ rfl AP.out (by rfl) (by rfl) ?_; clear AP)
          go_roundw
          case rel =>
            refine ⟨j + 1, 1, ss ++ [z], by omega, by go_num, rfl, rfl, by omega, by omega, GR.out, ?_, HS.out.snoc BZ.out.1 BZ.out.2, ?_, BE.out⟩
            · have := L.out; simp only [Hid, List.length_append, List.length_cons, List.length_nil]; omega
            · exact Nm.less_step L.out V.out (by rw [← X.out, ← Y.out]; exact ST.out)
          case measure => simp [intOf]; omega
        · skip
          obtain ⟨z, hz, Z⟩ : ∃ z, IntKind.u64.wrap (x - o) = z ∧ Hid (z = x - o) := ⟨_, by rw [IntKind.wrap_u64, Int.emod_eq_of_lt (by omega) (by omega)], rfl⟩
          have BZ : Hid (0 ≤ z ∧ z < 4294967296) := by have := Z.out; show _ ∧ _; omega
          have ST : Hid (z + 4294967296 * (-0) = (-cc) + x + (-y)) := by have := Z.out; have := O.out; show _ = _; omega
          obtain ⟨w2, ap, gr, be, sz⟩ := push64 g j (l1 - j - 1) l1 ss z wr L.out (by omega) G'
          have AP := hid ap
          have GR := hid gr
          have BE := hid (hB.trans be)
          clear ap gr be sz hB G G'
          go_wp2_with (at_builtin; refine wpList_append_row rfl _ _ rfl AP.out (by rfl) (by rfl) ?_; clear AP)
          go_roundw
          case rel =>
            refine ⟨j + 1, 0, ss ++ [z], by omega, by go_num, rfl, rfl, by omega, by omega, GR.out, ?_, HS.out.snoc BZ.out.1 BZ.out.2, ?_, BE.out⟩
            · have := L.out; simp only [Hid, List.length_append, List.length_cons, List.length_nil]; omega
            · exact Nm.less_step L.out V.out (by rw [← X.out, ← Y.out]; exact ST.out)
          case measure => simp [intOf]; omega
      · skip
        obtain ⟨y, hy0, Y⟩ : ∃ y : Int, y = 0 ∧ Hid (y = ys.getD j 0) := ⟨0, rfl, by simp [Hid, List.getD, List.getElem?_eq_none (show ys.length ≤ j by have := LY.out; omega)]⟩
        have h2' : ¬ (j : Int) < (l2 : Int) := by omega
        have O : Hid (cc = cc + y) := by show _ = _; omega
        by_cases hd : x < cc
        · skip
          obtain ⟨d, hd1, DD⟩ : ∃ d, IntKind.u64.wrap (x + 4294967296) = d ∧ Hid (d = x + 4294967296) := ⟨_, by rw [IntKind.wrap_u64, Int.emod_eq_of_lt (by omega) (by omega)], rfl⟩
          have hd2 : 4294967296 ≤ d := by have := DD.out; omega
          have hd3 : d < 8589934592 := by have := DD.out; omega
          obtain ⟨z, hz, Z⟩ : ∃ z, IntKind.u64.wrap (d - cc) = z ∧ Hid (z = d - cc) := ⟨_, by rw [IntKind.wrap_u64, Int.emod_eq_of_lt (by omega) (by omega)], rfl⟩
          have BZ : Hid (0 ≤ z ∧ z < 4294967296) := by have := Z.out; have := DD.out; show _ ∧ _; omega
          have ST : Hid (z + 4294967296 * (-1) = (-cc) + x + (-y)) := by have := Z.out; have := DD.out; have := O.out; show _ = _; omega
          obtain ⟨w2, ap, gr, be, sz⟩ := push64 g j (l1 - j - 1) l1 ss z wr L.out (by omega) G'
          have AP := hid ap
          have GR := hid gr
          have BE := hid (hB.trans be)
          clear ap gr be sz hB G G'
          go_wp2_with (at_builtin; refine wpList_append_row rfl _ _ rfl AP.out (by rfl) (by rfl) ?_; clear AP)
          go_roundw
          case rel =>
            refine ⟨j + 1, 1, ss ++ [z], by omega, by go_num, rfl, rfl, by omega, by omega, GR.out, ?_, HS.out.snoc BZ.out.1 BZ.out.2, ?_, BE.out⟩
            · have := L.out; simp only [Hid, List.length_append, List.length_cons, List.length_nil]; omega
            · exact Nm.less_step L.out V.out (by rw [← X.out, ← Y.out]; exact ST.out)
          case measure => simp [intOf]; omega
        · skip
          obtain ⟨z, hz, Z⟩ : ∃ z, IntKind.u64.wrap (x - cc) = z ∧ Hid (z = x - cc) := ⟨_, by rw [IntKind.wrap_u64, Int.emod_eq_of_lt (by omega) (by omega)], rfl⟩
          have BZ : Hid (0 ≤ z ∧ z < 4294967296) := by have := Z.out; show _ ∧ _; omega
          have ST : Hid (z + 4294967296 * (-0) = (-cc) + x + (-y)) := by have := Z.out; have := O.out; show _ = _; omega
          obtain ⟨w2, ap, gr, be, sz⟩ := push64 g j (l1 - j - 1) l1 ss z wr L.out (by omega) G'
          have AP := hid ap
          have GR := hid gr
          have BE := hid (hB.trans be)
          clear ap gr be sz hB G G'
          go_wp2_with (at_builtin; refine wpList_append_row rfl _ _ rfl AP.out (by rfl) (by rfl) ?_; clear AP)
          go_roundw
          case rel =>
            refine ⟨j + 1, 0, ss ++ [z], by omega, by go_num, rfl, rfl, by omega, by omega, GR.out, ?_, HS.out.snoc BZ.out.1 BZ.out.2, ?_, BE.out⟩
            · have := L.out; simp only [Hid, List.length_append, List.length_cons, List.length_nil]; omega
            · exact Nm.less_step L.out V.out (by rw [← X.out, ← Y.out]; exact ST.out)
          case measure => simp [intOf]; omega
    · have h1' : ¬ (j : Int) < (l1 : Int) := by omega
      obtain rfl : j = l1 := by omega
      have D3 := hid (chain D2.out (by rw [Gg.out]; exact hB) (Nat.le_refl _))
      have VV : Hid (Nm.v32 ss = Nm.val za - Nm.val zb) := Nm.less_end L.out LX.out HS.out HY.out VX.out VY.out hc0 LE.out V.out
      have AG : Hid (Arg wr (some ⟨g, 0, none⟩) j j ss) := ⟨L.out, Nat.le_refl _, by omega, G.out.lies, HS.out.limbs⟩
      have hw3 : Hid (w.heap.size ≤ wr.heap.size) := D3.out.size
      clear hB G
      go_wp2_with fail
      refine (rlimbs_any _ j j ss _ AG.out HS.out).mono ?_
      rintro e w4 ⟨r, os, rfl, hA, hb⟩
      rw [VV.out] at hA
      have A4 := hid (hA.mono hw3.out)
      have D4 := hid (chain D3.out hb (Nat.le_refl _))
      clear hA hb
      go_wp2
      go_ret
      exact ⟨r, os, rfl, A4.out, D4.out⟩
end Go.Proofs.YtdemopkdcnaibaaGreatDoor

namespace Go.Proofs.YtdemopkdcnaibaaGreatDoor
open Go Go.RowKit Go.Deep

theorem bel {a b c : World} (h : Below a.heap.size a b) (k : Below b.heap.size b c) : Below a.heap.size a c := h.trans (k.mono h.size)

/-- The room for an answer. -/
def RT (w wx : World) (v0 v1 v2 v3 : Value) : Prop := Below w.heap.size w wx ∧ Row4 wx w.heap.size 83 v0 v1 v2 v3
theorem RT.new (w : World) (v0 v1 v2 v3 : Value) : RT w (w.alloc (.cells #[v0, v1, v2, v3] 83)) v0 v1 v2 v3 := ⟨alloc_b _ _, Row4.new _ _ _ _ _ _⟩
theorem RT.on {w wx wy : World} {v0 v1 v2 v3 : Value} (h : RT w wx v0 v1 v2 v3) (k : Below wx.heap.size wx wy) : RT w wy v0 v1 v2 v3 := ⟨bel h.1 k, h.2.below k h.2.lt⟩
theorem RT.put {w wx : World} {v0 v1 v2 v3 : Value} (h : RT w wx v0 v1 v2 v3) (u0 u1 u2 u3 : Value) : RT w ((((wx.setCell ⟨w.heap.size, 0, none⟩ u0).setCell ⟨w.heap.size, 1, none⟩ u1).setCell ⟨w.heap.size, 2, none⟩ u2).setCell ⟨w.heap.size, 3, none⟩ u3) u0 u1 u2 u3 :=
  ⟨(((h.1.setCell (p := ⟨w.heap.size, 0, none⟩) (Nat.le_refl _) _).setCell (p := ⟨w.heap.size, 1, none⟩) (Nat.le_refl _) _).setCell (p := ⟨w.heap.size, 2, none⟩) (Nat.le_refl _) _).setCell (p := ⟨w.heap.size, 3, none⟩) (Nat.le_refl _) _, h.2.set⟩
theorem al1 (w : World) (A B C : Obj) : (((w.alloc A).alloc B).alloc C).heap[w.heap.size + 1]? = some B := by
  have h := heap_alloc2_old (w.alloc A) B C
  rwa [show (w.alloc A).heap.size = w.heap.size + 1 from Array.size_push _] at h
theorem al2 (w : World) (A B C : Obj) : (((w.alloc A).alloc B).alloc C).heap[w.heap.size + 1 + 1]? = some C := by
  have h := heap_alloc2_new (w.alloc A) B C
  rwa [show (w.alloc A).heap.size = w.heap.size + 1 from Array.size_push _] at h

theorem cell_far {w : World} {b b' o o' : Nat} {v : Value} (h : b' ≠ b) : (w.setCell ⟨b', o', none⟩ v).cell? ⟨b, o, none⟩ = w.cell? ⟨b, o, none⟩ := by
  simp only [World.cell?, World.setCell, Array.getElem?_modify]
  rw [if_neg h]

theorem put_arg {w wx : World} (u0 u1 u2 u3 : Value) {p : Option Addr} {n c : Nat} {zs : List Int} (a : Arg wx p n c zs) (hp : ∀ x, p = some x → x.block ≠ w.heap.size) :
    Arg ((((wx.setCell ⟨w.heap.size, 0, none⟩ u0).setCell ⟨w.heap.size, 1, none⟩ u1).setCell ⟨w.heap.size, 2, none⟩ u2).setCell ⟨w.heap.size, 3, none⟩ u3) p n c zs := by
  refine ⟨a.1, a.2.1, a.2.2.1, ?_, a.2.2.2.2⟩
  rcases a.2.2.2.1 with g | ⟨b, off, rfl, g⟩
  · exact .inl g
  · refine .inr ⟨b, off, rfl, fun i hi => ?_⟩
    have ne : b ≠ w.heap.size := hp _ rfl
    rw [cell_far (Ne.symm ne), cell_far (Ne.symm ne), cell_far (Ne.symm ne), cell_far (Ne.symm ne)]
    exact g i hi

set_option maxRecDepth 100000 in
set_option maxHeartbeats 1000000 in
theorem yof_any (d : Int) (w : World) (h0 : 0 ≤ d) (h1 : d < 18446744073709551616) (hm : 0 ≤ Ie.dm d ∧ Ie.dm d < 9007199254740992) :
    Calls Tryz.prog 72 #[.int .u64 d] w fun r w' => NumTold5 (Ie.ngd d) (Ie.dm d) 1 (Ie.de d) w r w' := by
  have Z := hid (RT.new w (.bool false) (.slice none 0 0) (.slice none 0 0) (.int .i64 0))
  have DC := hid (fun wx => zdecode_any d wx h0 h1)
  rw [show decide (9223372036854775808 ≤ d) = Ie.ngd d from rfl] at DC
  unfold partsOf at DC
  obtain ⟨m0, m1⟩ := hm
  obtain ⟨M, hM⟩ : ∃ M, Ie.dm d = M := ⟨_, rfl⟩
  obtain ⟨ee, hE⟩ : ∃ ee, Ie.de d = ee := ⟨_, rfl⟩
  obtain ⟨ng, hN⟩ : ∃ ng, Ie.ngd d = ng := ⟨_, rfl⟩
  obtain ⟨cc, hC⟩ : ∃ cc, Ie.cls d = cc := ⟨_, rfl⟩
  rw [hM, hE, hN, hC] at DC
  rw [hM] at m0 m1
  have HH := hid (And.intro hM (And.intro hE hN))
  clear hM hE hN hC
  go_enter Tryz.func72, Tryz.ntmps72
  go_wp2_with fail
  refine (DC.out _).mono ?_
  rintro r w1 ⟨rfl, hB⟩
  have Z1 := hid (Z.out.on hB)
  clear hB Z DC
  have Z3 := hid (Z1.out.on (bel (bel (alloc_b w1 (.cells #[.bool ng, .int .i64 cc, .int .u64 M, .int .i64 ee] 26)) (alloc_b _ (.cells #[.int .u64 M] 24))) (alloc_b _ (.cells #[.int .u64 1] 24))))
  obtain ⟨⟨p0, p1, p2, p3⟩, q0, q1, q2, q3⟩ := Z3.out.2.cells
  have lt := Z1.out.2.lt
  have A1 : Hid (Arg (((w1.alloc (.cells #[.bool ng, .int .i64 cc, .int .u64 M, .int .i64 ee] 26)).alloc (.cells #[.int .u64 M] 24)).alloc (.cells #[.int .u64 1] 24)) (some ⟨w1.heap.size + 1, 0, none⟩) 1 1 [M]) := arg_z (al1 _ _ _ _) m0 (by omega)
  have A2 : Hid (Arg (((w1.alloc (.cells #[.bool ng, .int .i64 cc, .int .u64 M, .int .i64 ee] 26)).alloc (.cells #[.int .u64 M] 24)).alloc (.cells #[.int .u64 1] 24)) (some ⟨w1.heap.size + 1 + 1, 0, none⟩) 1 1 [1]) := arg_z (al2 _ _ _ _) (by omega) (by omega)
  have ne1 : w1.heap.size + 1 ≠ w.heap.size := by omega
  have ne2 : w1.heap.size + 1 + 1 ≠ w.heap.size := by omega
  go_wp2_with fail
  (try simp only [Exit.inBlock, Exit.then])
  refine bodyPost_ret (results_cell_row rfl _ _ w.heap.size 83 _ (0, 0) _ rfl (Z3.out.put _ _ _ _).2 Tryz.underlying83 rfl (by kernel_rfl)) rfl ?_
  refine ⟨_, rfl, ?_, (Z3.out.put _ _ _ _).1⟩
  rw [HH.out.1, HH.out.2.1, HH.out.2.2]
  exact ⟨_, _, _, _, _, _, [M], [1], rfl, put_arg _ _ _ _ A1.out (fun x hx => by cases hx; exact ne1), by simp [Nm.val], Nat.le_trans (Nm.tsize_le _) (by simp), put_arg _ _ _ _ A2.out (fun x hx => by cases hx; exact ne2), by simp [Nm.val], Nat.le_trans (Nm.tsize_le _) (by simp), fun x hx => by cases hx; simp only; omega, fun x hx => by cases hx; simp only; omega⟩

theorem Arg.far {w : World} {p : Option Addr} {n c : Nat} {zs : List Int} (a : Arg w p n c zs) {wx : World} (b : Below w.heap.size w wx) (u0 u1 u2 u3 : Value) :
    Arg ((((wx.setCell ⟨w.heap.size, 0, none⟩ u0).setCell ⟨w.heap.size, 1, none⟩ u1).setCell ⟨w.heap.size, 2, none⟩ u2).setCell ⟨w.heap.size, 3, none⟩ u3) p n c zs := by
  have bb : Below w.heap.size w ((((wx.setCell ⟨w.heap.size, 0, none⟩ u0).setCell ⟨w.heap.size, 1, none⟩ u1).setCell ⟨w.heap.size, 2, none⟩ u2).setCell ⟨w.heap.size, 3, none⟩ u3) := (((b.setCell (p := ⟨w.heap.size, 0, none⟩) (Nat.le_refl _) _).setCell (p := ⟨w.heap.size, 1, none⟩) (Nat.le_refl _) _).setCell (p := ⟨w.heap.size, 2, none⟩) (Nat.le_refl _) _).setCell (p := ⟨w.heap.size, 3, none⟩) (Nat.le_refl _) _
  exact a.below bb (Nat.le_refl _)

theorem yof2 (d : Int) (ng : Bool) (M ee : Int) (w : World) (h0 : 0 ≤ d) (h1 : d < 18446744073709551616) (hN : Ie.ngd d = ng) (hM : Ie.dm d = M) (hE : Ie.de d = ee) (m0 : 0 ≤ M) (m1 : M < 9007199254740992) :
    Calls Tryz.prog 72 #[.int .u64 d] w fun r w' => NumTold5 ng M 1 ee w r w' := by
  subst hN hM hE
  exact yof_any d w h0 h1 ⟨m0, m1⟩

set_option maxRecDepth 100000 in
set_option maxHeartbeats 2000000 in
theorem yratio_any (a b : Int) (na nb : Bool) (Ma Mb ea eb : Int) (w : World)
    (OA : ∀ wx, Calls Tryz.prog 72 #[.int .u64 a] wx fun r w' => NumTold5 na Ma 1 ea wx r w') (OB : ∀ wx, Calls Tryz.prog 72 #[.int .u64 b] wx fun r w' => NumTold5 nb Mb 1 eb wx r w')
    (e0 : -2000 ≤ ea) (e1 : ea ≤ 2000) (f0 : -2000 ≤ eb) (f1 : eb ≤ 2000) :
    Calls Tryz.prog 223 #[.int .u64 a, .int .u64 b] w fun r w' => NumTold5 (na != nb) Ma Mb (ea - eb) w r w' := by
  have Z := hid (RT.new w (.bool false) (.slice none 0 0) (.slice none 0 0) (.int .i64 0))
  have HA := hid OA
  have HB := hid OB
  clear OA OB
  go_enter Tryz.func223, Tryz.ntmps223
  go_wp2_with fail
  refine (HA.out _).mono ?_
  rintro r w1 ⟨v, rfl, ⟨p, n, c, q, m, d, zs, ys, rfl, h2, h3, h4, h5, h6, h7, h8, h9⟩, hB⟩
  have Z1 := hid (Z.out.on hB)
  have Z2 := hid (Z1.out.on (alloc_b w1 (.cells #[.bool na, .slice p n c, .slice q m d, .int .i64 ea] 83)))
  have R2 := hid (Row4.new w1 83 (.bool na) (.slice p n c) (.slice q m d) (.int .i64 ea))
  have l1 := Z1.out.2.lt
  have AA := hid (And.intro (h2.below (alloc_b w1 (.cells #[.bool na, .slice p n c, .slice q m d, .int .i64 ea] 83)) (Nat.le_refl _)) (And.intro h3 h4))
  have PB : Hid (∀ x, p = some x → w.heap.size < x.block) := fun x hx => by
    have h := h8 x hx
    have k := Z.out.2.lt
    omega
  have BB := hid Z.out.2.lt
  clear hB h2 h3 h4 h5 h6 h7 h8 h9 Z Z1 HA
  go_upto_region 2 with fail
  generalize (w1.alloc (.cells #[.bool na, .slice p n c, .slice q m d, .int .i64 ea] 83)) = w2 at *
  generalize w1.heap.size = g1 at *
  go_wp2_with fail
  refine (HB.out _).mono ?_
  rintro r w3 ⟨v, rfl, ⟨p', n', c', q', m', d', zs', ys', rfl, h2, h3, h4, h5, h6, h7, h8, h9⟩, hB⟩
  have l2 := R2.out.lt
  have Z3 := hid ((Z2.out.on hB).on (alloc_b w3 (.cells #[.bool nb, .slice p' n' c', .slice q' m' d', .int .i64 eb] 83)))
  have R3 := hid ((R2.out.below hB l2).below (alloc_b w3 (.cells #[.bool nb, .slice p' n' c', .slice q' m' d', .int .i64 eb] 83)) (Nat.lt_of_lt_of_le l2 hB.size))
  have A3 := hid (And.intro ((AA.out.1.below hB (Nat.le_refl _)).below (alloc_b w3 (.cells #[.bool nb, .slice p' n' c', .slice q' m' d', .int .i64 eb] 83)) (Nat.le_refl _)) AA.out.2)
  have A4 := hid (And.intro (h2.below (alloc_b w3 (.cells #[.bool nb, .slice p' n' c', .slice q' m' d', .int .i64 eb] 83)) (Nat.le_refl _)) (And.intro h3 h4))
  have PC : Hid (∀ x, p' = some x → w.heap.size < x.block) := fun x hx => by
    have h := h8 x hx
    have k := Z2.out.2.lt
    omega
  obtain ⟨⟨p0, p1, p2, p3⟩, q0, q1, q2, q3⟩ := Z3.out.2.cells
  obtain ⟨⟨s0, s1, s2, s3⟩, -⟩ := R3.out.cells
  clear h2 h3 h4 h5 h6 h7 h8 h9 AA Z2 R2 HB
  go_wp2_with fail
  (try simp only [Exit.inBlock, Exit.then])
  refine bodyPost_ret (results_cell_row rfl _ _ w.heap.size 83 _ (0, 0) _ rfl (Z3.out.put _ _ _ _).2 Tryz.underlying83 rfl (by kernel_rfl)) rfl ?_
  exact ⟨_, rfl, ⟨_, _, _, _, _, _, zs, zs', rfl, put_arg _ _ _ _ A3.out.1 (fun x hx => Nat.ne_of_gt (PB.out x hx)), A3.out.2.1, A3.out.2.2, put_arg _ _ _ _ A4.out.1 (fun x hx => Nat.ne_of_gt (PC.out x hx)), A4.out.2.1, A4.out.2.2, fun x hx => Nat.le_of_lt (PB.out x hx), fun x hx => Nat.le_of_lt (PC.out x hx)⟩, (Z3.out.put _ _ _ _).1⟩
end Go.Proofs.YtdemopkdcnaibaaGreatDoor

/-
  soft: zero.
-/
namespace Go.Proofs.YtdemopkdcnaibaaGreatDoor
open Go Go.RowKit Go.Deep

set_option maxRecDepth 100000 in
theorem zero_any (d : Int) (w : World) (h0 : 0 ≤ d) (h1 : d < 18446744073709551616) :
    Calls Tryz.prog 122 #[.int .u64 d] w fun e w' => e = .returned (.bool (Ie.isz d)) ∧ w' = w := by
  have CL := hid (class_any d w h0 h1)
  have E := hid (Ie.isz_cls d)
  generalize Ie.cls d = c at CL E
  go_enter Tryz.func122, Tryz.ntmps122
  go_wp2_with fail
  refine CL.out.mono ?_
  rintro e w' ⟨rfl, rfl⟩
  go_wp2_with fail
  go_ret
  exact ⟨by rw [E.out]; rfl, rfl⟩
end Go.Proofs.YtdemopkdcnaibaaGreatDoor

namespace Go.Proofs.YtdemopkdcnaibaaGreatDoor
open Go.RowKit Go.Deep

/-- Behind j limbs of a: the block holds the product of these and b. -/
def ProdInv (g k : Nat) (w : World) (ls bs : List Int) (j : Nat) (os : List Int) (wr : World) : Prop :=
  Own wr g os ∧ os.length = k ∧ Nm.Limbs os ∧ Nm.val os = Nm.val (ls.take j) * Nm.val bs ∧ Below g w wr

theorem ProdInv.step {g k : Nat} {w : World} {ls bs : List Int} {j : Nat} {os : List Int} {wr w' : World} {n : Nat} (hn : bs.length = n) (ha : Nm.Limbs ls) (hb : Nm.Limbs bs) (h : ProdInv g k w ls bs j os wr) (hj : j < ls.length) (hk : j + n < k) {c x : Int} {us : List Int}
    (hx : x = ls.getD j 0) (hm : MulInv g k (j + n) wr os (Nm.val os + Nm.pw j * (Nm.val bs * x)) (j + n) c us w') :
    ProdInv g k w ls bs (j + 1) (us.set (j + n) c) (w'.setCell ⟨g, j + n, none⟩ (.int .u64 c)) := by
  subst hn
  obtain ⟨h1, h2, h3, h4, h5⟩ := h
  obtain ⟨⟨m1, m2, m3, m4, m5, m6⟩, m7, m8⟩ := hm
  have hv : Nm.val os < Nm.pw (j + bs.length) := by
    rw [h4, Nm.pw_add]
    have e1 := Nm.val_bd _ (ha.take j)
    rw [List.length_take, Nat.min_eq_left (by omega)] at e1
    have e2 := Nm.val_bd _ hb
    have e3 : Nm.val (ls.take j) * Nm.val bs ≤ Nm.pw j * Nm.val bs := Int.mul_le_mul_of_nonneg_right (by omega) e2.1
    have e4 : Nm.pw j * (Nm.val bs + 1) ≤ Nm.pw j * Nm.pw bs.length := Int.mul_le_mul_of_nonneg_left (by omega) (by have := Nm.pw_pos j; omega)
    have e5 := Nm.pw_pos j
    rw [Int.mul_add, Int.mul_one] at e4
    omega
  have h0 : us.getD (j + bs.length) 0 = 0 := by rw [m8 _ (Nat.le_refl _)]; exact Nm.zero_of_lt h3 hv _ (Nat.le_refl _)
  refine ⟨m1.set _ _, by simpa using m2, m3.set _ m7.1 m7.2, ?_, h5.trans (m5.setCell (Nat.le_refl _) _)⟩
  rw [Nm.val_set _ _ _ (by omega), h0, Int.sub_zero, m4, h4, hx, Nm.val_take_succ ls j hj, Int.add_mul, Int.mul_assoc, Int.mul_comm (ls.getD j 0)]

theorem prod_bound {zs ys : List Int} (hz : Nm.Limbs zs) (hy : Nm.Limbs ys) (h : Nm.val zs * Nm.val ys < Nm.pw 4096) (h1 : 0 < Nm.tsize zs) (h2 : 0 < Nm.tsize ys) : Nm.tsize zs + Nm.tsize ys ≤ 4097 := by
  have e1 := Nm.val_ge_top hz h1
  have e2 := Nm.val_ge_top hy h2
  have e3 : Nm.pw (Nm.tsize zs - 1) * Nm.pw (Nm.tsize ys - 1) ≤ Nm.val zs * Nm.val ys := Int.mul_le_mul e1 e2 (Int.le_of_lt (Nm.pw_pos _)) (by have := (Nm.val_bd zs hz).1; omega)
  rw [← Nm.pw_add] at e3
  rcases Nat.lt_or_ge (Nm.tsize zs - 1 + (Nm.tsize ys - 1)) 4096 with e | e
  · omega
  · have := Nm.pw_mono e
    omega

set_option maxRecDepth 100000 in
set_option maxHeartbeats 1000000 in
theorem mul_ok (p q : Option Addr) (n cap m cap' : Nat) (zs ys : List Int) (w : World) (ha : Arg w p n cap zs) (hb : Arg w q m cap' ys) (tz : Nm.tsize zs ≤ 4096) (ty : Nm.tsize ys ≤ 4096) (hs : Nm.val zs * Nm.val ys < Nm.pw 4096) :
    Calls Tryz.prog 172 #[.slice p n cap, .slice q m cap'] w fun e w' => ∃ r os, e = .returned (.tuple #[.slice r (List.length os) (List.length os), .int .i64 0]) ∧ Ans w.heap.size w' r os (Nm.val zs * Nm.val ys) ∧ Below w.heap.size w w' := by
  obtain ⟨a1, a2, a3, a4, a5⟩ := ha
  obtain ⟨b1, b2, b3, b4, b5⟩ := hb
  have HS : Hid (Nm.val zs * Nm.val ys < Nm.pw 4096) := hs
  clear hs
  have nil : Nm.val zs * Nm.val ys = 0 → Ans w.heap.size w none [] (Nm.val zs * Nm.val ys) := fun h => ⟨Lies.nil _ _, Nm.Limbs.nil, rfl, by simp [Nm.val, h], fun a h => by cases h⟩
  by_cases h1 : Nm.tsize zs = 0
  · have h1' : ((Nm.tsize zs : Int) == 0) = true := by simp [h1]
    have NIL := hid (nil (by rw [(Nm.tsize_zero_iff a5).1 h1, Int.zero_mul]))
    clear nil h1
    go_enter Tryz.func172, Tryz.ntmps172
    go_wp2_with fail
    refine (pair_ok p q n cap m cap' zs ys _ a1 a2 (by omega) a4 tz b1 b2 (by omega) b4 ty).mono ?_
    rintro e w' ⟨rfl, rfl⟩
    go_wp2_with fail
    go_ret2
    exact ⟨none, [], rfl, NIL.out, Below.refl _ _⟩
  have h1' : ((Nm.tsize zs : Int) == 0) = false := by simp [h1]
  by_cases h2 : Nm.tsize ys = 0
  · have h2' : ((Nm.tsize ys : Int) == 0) = true := by simp [h2]
    have NIL := hid (nil (by rw [(Nm.tsize_zero_iff b5).1 h2, Int.mul_zero]))
    clear nil h1 h2
    go_enter Tryz.func172, Tryz.ntmps172
    go_wp2_with fail
    refine (pair_ok p q n cap m cap' zs ys _ a1 a2 (by omega) a4 tz b1 b2 (by omega) b4 ty).mono ?_
    rintro e w' ⟨rfl, rfl⟩
    go_wp2_with fail
    go_ret2
    exact ⟨none, [], rfl, NIL.out, Below.refl _ _⟩
  have h2' : ((Nm.tsize ys : Int) == 0) = false := by simp [h2]
  clear nil
  have hsum := prod_bound a5 b5 HS.out (by omega) (by omega)
  have hsum' : (Nm.tsize zs : Int) + (Nm.tsize ys : Int) ≤ 4097 := by omega
  have hmk := make64 (Nm.tsize zs + Nm.tsize ys) (by omega) w
  have em : ((Nm.tsize zs + Nm.tsize ys : Nat) : Int) = (Nm.tsize zs : Int) + (Nm.tsize ys : Int) := by omega
  rw [em] at hmk
  clear em
  have ho : Own (w.alloc (.cells (madeCells #[.int .u64 0] (Nm.tsize zs + Nm.tsize ys)) 24)) w.heap.size (List.replicate (Nm.tsize zs + Nm.tsize ys) 0) := by
    rw [made_zero]; exact Own.alloc w _
  have hb0 : Below w.heap.size w (w.alloc (.cells (madeCells #[.int .u64 0] (Nm.tsize zs + Nm.tsize ys)) 24)) := (Below.refl _ _).alloc (Nat.le_refl _) _
  have I0 : ProdInv w.heap.size (Nm.tsize zs + Nm.tsize ys) w (Nm.trim zs) (Nm.trim ys) 0 (List.replicate (Nm.tsize zs + Nm.tsize ys) 0) (w.alloc (.cells (madeCells #[.int .u64 0] (Nm.tsize zs + Nm.tsize ys)) 24)) :=
    ⟨ho, by simp, Nm.Limbs.replicate _, by simp [Nm.val_replicate, Nm.val], hb0⟩
  clear ho hb0
  have hsum2 : decide (4096 < (Nm.tsize zs : Int) + (Nm.tsize ys : Int) - 1) = false := by simp; omega
  have A4 := hid a4.trim
  have B4 := hid b4.trim
  obtain ⟨b, off, rfl, hcell⟩ : ∃ b off, p = some ⟨b, off, none⟩ ∧ Hid (∀ i, i < Nm.tsize zs → w.cell? ⟨b, off + i, none⟩ = some (.int .u64 ((Nm.trim zs).getD i 0))) := by
    have hlen := Nm.trim_length zs
    rcases A4.out with h | ⟨b, off, hp, h⟩
    · exfalso
      rw [h] at hlen
      simp at hlen
      omega
    · exact ⟨b, off, hp, fun i hi => h i (by rw [hlen]; exact hi)⟩
  have hbg : b < w.heap.size := cell_lt (hcell.out 0 (by omega))
  have A5 := hid a5.trim
  have B5 := hid b5.trim
  go_enter Tryz.func172, Tryz.ntmps172
  go_wp2_with fail
  refine (pair_ok (some ⟨b, off, none⟩) q n cap m cap' zs ys _ a1 a2 (by omega) a4 tz b1 b2 (by omega) b4 ty).mono ?_
  rintro e w' ⟨rfl, rfl⟩
  clear a4 b4
  go_wp2_with fail
  go_loopw [43] (fun i wr => ∃ (j : Nat) (os : List Int), j ≤ Nm.tsize zs ∧ i = .int .i64 j ∧ ProdInv w'.heap.size (Nm.tsize zs + Nm.tsize ys) w' (Nm.trim zs) (Nm.trim ys) j os wr) (fun i _ => Nm.tsize zs - (intOf i).toNat)
  case atStart => exact ⟨0, _, Nat.zero_le _, rfl, I0⟩
  case round =>
    clear I0 hmk
    obtain ⟨j, os, hj, rfl, I⟩ := hrel
    by_cases hlt : j < Nm.tsize zs
    · obtain ⟨x, hx, X⟩ : ∃ x, wr.cell? ⟨b, off + j, none⟩ = some (.int .u64 x) ∧ Hid (x = (Nm.trim zs).getD j 0) := ⟨_, (I.2.2.2.2.cell (p := ⟨b, off + j, none⟩) hbg).trans (hcell.out j hlt), rfl⟩
      have hx0 := A5.out.at j
      rw [show (Nm.trim zs).getD j 0 = x from X.out.symm] at hx0
      obtain ⟨hx0, hx1⟩ := hx0
      go_wp2_with fail
      refine (addTimes_any w'.heap.size (Nm.tsize zs + Nm.tsize ys) j (Nm.tsize ys) _ os q _ (Nm.trim ys) x _ I.2.1 (by omega) I.1 I.2.2.1 (Nm.trim_length ys) (by omega) (B4.out.below I.2.2.2.2 (Nat.le_refl _)) B5.out (fun h0 => B4.out.lt h0) hx0 hx1).mono ?_
      rintro e w2 ⟨c, us, rfl, M⟩
      have I2 := I.step (Nm.trim_length ys) A5.out B5.out (by rw [Nm.trim_length]; exact hlt) (by omega) X.out M
      obtain ⟨y, hy⟩ : ∃ y, w2.cell? ⟨w'.heap.size, j + Nm.tsize ys, none⟩ = some (.int .u64 y) := ⟨_, M.1.1.cell _ (by have := M.1.2.1; omega)⟩
      have hfr := M.1.1.free (j + Nm.tsize ys)
      clear M
      go_wp2
      go_roundw
      case rel => exact ⟨j + 1, _, by omega, by go_num, I2⟩
      case measure => simp [intOf]; omega
    · have hjn : j = Nm.tsize zs := by omega
      subst hjn
      have E := I.2.2.2.1
      rw [List.take_of_length_le (by rw [Nm.trim_length]; omega), Nm.val_trim, Nm.val_trim] at E
      have EE := hid E
      clear E
      go_wp2_with fail
      refine (limited_own w'.heap.size (Nm.tsize zs + Nm.tsize ys) os _ I.2.1 (by omega) I.1 I.2.2.1 w'.heap.size (Nat.le_refl _) (by rw [EE.out]; exact HS.out)).mono ?_
      rintro e w3 ⟨r, xs, rfl, hans, rfl⟩
      rw [EE.out] at hans
      have HA := hid hans
      clear hans
      have HB := hid I.2.2.2.2
      clear I
      go_wp2_with fail
      go_ret2
      exact ⟨r, xs, rfl, HA.out, HB.out⟩
end Go.Proofs.YtdemopkdcnaibaaGreatDoor

/-
  soft: times, over (made by mktimes5.py).
-/
namespace Go.Proofs.YtdemopkdcnaibaaGreatDoor
open Go Go.RowKit Go.Deep

theorem ret_exact {n n' : Bool} {p p' : Option Addr} {l l' c c' : Nat} {e e' : Int} {m m' : Bool} (h0 : n = n') (h1 : e = e') (h2 : m = m') (h3 : p = p') (h4 : l = l') (h5 : c = c') : exactOf n p l c e m = exactOf n' p' l' c' e' m' := by rw [h0, h1, h2, h3, h4, h5]

/-- What times answers. -/
def TimesTold (n1 : Bool) (V1 e1 : Int) (n2 : Bool) (V2 e2 : Int) (w : World) (e : Ending) (w' : World) : Prop :=
  ∃ p os, e = .returned (exactOf (n1 != n2) p (List.length os) (List.length os) (e1 + e2) false) ∧ Ans w.heap.size w' p os (V1 * V2) ∧ Below w.heap.size w w'

/-- What over answers. -/
def OverTold (n1 : Bool) (V1 e1 : Int) (n2 : Bool) (V2 e2 : Int) (w : World) (e : Ending) (w' : World) : Prop :=
  ∃ p os, e = .returned (exactOf (n1 != n2) p (List.length os) (List.length os) (e1 - 128 - e2) (decide (V1 * 2 ^ 128 % V2 ≠ 0))) ∧ Ans w.heap.size w' p os (V1 * 2 ^ 128 / V2) ∧ Below w.heap.size w w'

theorem tell4 {w w3 : World} {p : Option Addr} {os : List Int} {V : Int} {x0 x1 x2 x3 y0 y1 y2 y3 u0 u2 u3 : Value} (hb : Box w w3 x0 x1 x2 x3 y0 y1 y2 y3) (A : Ans (w.heap.size + 3) w3 p os V) :
    Ans w.heap.size ((((w3.setCell ⟨w.heap.size + 2, 0, none⟩ u0).setCell ⟨w.heap.size + 2, 1, none⟩ (.slice p os.length os.length)).setCell ⟨w.heap.size + 2, 2, none⟩ u2).setCell ⟨w.heap.size + 2, 3, none⟩ u3) p os V ∧
    Below w.heap.size w ((((w3.setCell ⟨w.heap.size + 2, 0, none⟩ u0).setCell ⟨w.heap.size + 2, 1, none⟩ (.slice p os.length os.length)).setCell ⟨w.heap.size + 2, 2, none⟩ u2).setCell ⟨w.heap.size + 2, 3, none⟩ u3) := by
  have A' := A.set4 (b := w.heap.size + 2) (u0 := u0) (u1 := .slice p os.length os.length) (u2 := u2) (u3 := u3) (by omega)
  exact ⟨⟨A'.1, A'.2.1, A'.2.2.1, A'.2.2.2.1, fun a h => by have := A'.2.2.2.2 a h; omega⟩, set4_below hb.2.1 (by omega)⟩

set_option maxRecDepth 100000 in
set_option maxHeartbeats 4000000 in
theorem times_xany (n1 n2 m1 m2 : Bool) (p1 p2 : Option Addr) (l1 c1 l2 c2 : Nat) (z1 z2 : List Int) (e1 e2 V1 V2 : Int) (w : World) (a1 : Arg w p1 l1 c1 z1) (a2 : Arg w p2 l2 c2 z2) (hV1 : Nm.val z1 = V1) (hV2 : Nm.val z2 = V2) (b1 : V1 < 2 ^ 60) (b2 : V2 < 2 ^ 60)
    (q1 : -1100 ≤ e1) (q2 : e1 ≤ 1000) (q3 : -1100 ≤ e2) (q4 : e2 ≤ 1000) :
    Calls Tryz.prog 119 #[exactOf n1 p1 l1 c1 e1 m1, exactOf n2 p2 l2 c2 e2 m2] w fun e w' => TimesTold n1 V1 e1 n2 V2 e2 w e w' := by
  have v1 : 0 ≤ V1 := by rw [← hV1]; exact (Nm.val_bd z1 a1.2.2.2.2).1
  have v2 : 0 ≤ V2 := by rw [← hV2]; exact (Nm.val_bd z2 a2.2.2.2.2).1
  have e4096 := pw_4096
  have big := Nm.two_mono (show 120 ≤ 262144 by omega)
  have b60 := Nm.two_mono (show 60 ≤ 120 by omega)
  have pr : V1 * V2 < 2 ^ 120 := by
    have h1 : V1 * V2 ≤ V1 * 2 ^ 60 := Int.mul_le_mul_of_nonneg_left (by omega) v1
    have h2 : V1 * 2 ^ 60 < 2 ^ 60 * 2 ^ 60 := Int.mul_lt_mul_of_pos_right b1 (Nm.two_pos 60)
    rw [← Nm.two_add] at h2
    omega
  have t1 : Nm.tsize z1 ≤ 4096 := (Nm.tsize_le_iff a1.2.2.2.2 4096).2 (by rw [hV1]; omega)
  have t2 : Nm.tsize z2 ≤ 4096 := (Nm.tsize_le_iff a2.2.2.2.2 4096).2 (by rw [hV2]; omega)
  have M1 : Hid (∀ wx : World, Below w.heap.size w wx → Calls Tryz.prog 172 #[.slice p1 l1 c1, .slice p2 l2 c2] wx fun e w' => ∃ r os, e = .returned (.tuple #[.slice r (List.length os) (List.length os), .int .i64 0]) ∧ Ans wx.heap.size w' r os (V1 * V2) ∧ Below wx.heap.size wx w') := by
    intro wx hx
    have := mul_ok p1 p2 l1 c1 l2 c2 z1 z2 wx (a1.below hx (Nat.le_refl _)) (a2.below hx (Nat.le_refl _)) t1 t2 (by rw [hV1, hV2]; omega)
    rw [hV1, hV2] at this
    exact this
  have B0 := Box.new w (.bool n1) (.slice p1 l1 c1) (.int .i64 e1) (.bool m1) (.bool n2) (.slice p2 l2 c2) (.int .i64 e2) (.bool m2)
  clear hV1 hV2 b1 b2 a1 a2 v1 v2 big b60 pr t1 t2 e4096
  have TT : Hid (∀ (e : Ending) (w' : World), (∃ p os, e = .returned (exactOf (n1 != n2) p (List.length os) (List.length os) (e1 + e2) false) ∧ Ans w.heap.size w' p os (V1 * V2) ∧ Below w.heap.size w w') → TimesTold n1 V1 e1 n2 V2 e2 w e w') := fun _ _ h => h
  generalize V1 * V2 = X at *
  simp only [exactOf]
  go_enter Tryz.func119, Tryz.ntmps119
  go_wp2_with fail
  refine (M1.out _ B0.2.1).mono ?_
  rintro e wa ⟨r1, o1, rfl, A1, hB1⟩
  have Ba := B0.on hB1
  have s0 := B0.2.2
  have KF := tell4 (u0 := .bool (n1 != n2)) (u2 := .int .i64 (e1 + e2)) (u3 := .bool false) Ba ⟨A1.1, A1.2.1, A1.2.2.1, A1.2.2.2.1, fun a h => by have := A1.2.2.2.2 a h; omega⟩
  obtain ⟨⟨cx0, cx1, cx2⟩, ⟨cy0, cy1, cy2⟩, ⟨⟨r0, r1', r2', r3⟩, ⟨f0, f1, f2, f3⟩⟩⟩ := Ba.cells
  have RR := hid Ba.1.2.2
  have KK := hid KF
  clear KF A1 hB1 M1 Ba B0 s0
  go_wp2_with fail
  (try simp only [Exit.inBlock, Exit.then])
  refine bodyPost_ret (results_cell_row rfl _ _ (w.heap.size + 2) 114 _ (0, 0) _ rfl (Row4.set RR.out) Tryz.underlying114 rfl (by kernel_rfl)) rfl ?_
  exact TT.out _ _ ⟨r1, o1, rfl, KK.out⟩
end Go.Proofs.YtdemopkdcnaibaaGreatDoor
