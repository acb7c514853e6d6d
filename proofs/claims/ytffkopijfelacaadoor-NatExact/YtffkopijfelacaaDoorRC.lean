/-
  Texts put together: Ref15, Ref16, Ref17, SubA.
-/
import Derived.Test.YtffkopijfelacaaDoorRB
import Derived.Test.YtffkopijfelacaaDoorWalk2a
import Derived.Shelf.Spec.BitsCarry
namespace Go.Proofs.YtffkopijfelacaaDoor
open Go.RowKit Go.Deep

namespace Nm
theorem v32_drop_at : ∀ (zs : List Int) (k : Nat), k < zs.length → v32 (zs.drop k) = zs.getD k 0 + 4294967296 * v32 (zs.drop (k + 1))
  | [], _, h => by simp at h
  | z :: zs, 0, _ => by simp [v32]
  | z :: zs, k + 1, h => by
    have := v32_drop_at zs k (by simpa using h)
    simpa using this

theorem v32_div (zs : List Int) (h : Halves zs) (k : Nat) (hk : k ≤ zs.length) : v32 zs / p32 k = v32 (zs.drop k) := by
  have h1 := v32_split zs k
  have h2 := v32_lt _ (h.take k)
  rw [List.length_take, Nat.min_eq_left hk] at h2
  have h3 := v32_nonneg _ (h.take k)
  have hp := p32_pos k
  rw [h1, Int.add_mul_ediv_left _ _ (by omega), Int.ediv_eq_zero_of_lt h3 h2, Int.zero_add]

theorem drop_div {D F x q r : Int} (hF : 0 < F) (hq : q = (D % F * 4294967296 + x) / F) (hr : r = (D % F * 4294967296 + x) % F) : q + 4294967296 * (D / F) = (x + 4294967296 * D) / F ∧ r = (x + 4294967296 * D) % F := by
  have e : x + 4294967296 * D = (D % F * 4294967296 + x) + F * (4294967296 * (D / F)) := by
    have h := Int.emod_add_mul_ediv D F
    have h2 : 4294967296 * D = 4294967296 * (D % F) + 4294967296 * (F * (D / F)) := by rw [← Int.mul_add, h]
    rw [h2, Int.mul_left_comm F]
    omega
  rw [e, Int.add_mul_ediv_left _ _ (by omega), Int.add_mul_emod_self_left, hq, hr]
  exact ⟨rfl, rfl⟩
end Nm

/-- Behind the digits from j on. -/
def DropInv (g M : Nat) (w : World) (ys : List Int) (F : Int) (j : Nat) (rest : Int) (ss : List Int) (wr : World) : Prop :=
  Own wr g ss ∧ ss.length = M ∧ Nm.Halves ss ∧ Nm.v32 (ss.drop j) = Nm.v32 (ys.drop j) / F ∧ rest = Nm.v32 (ys.drop j) % F ∧ Below g w wr

theorem DropInv.step {g M : Nat} {w : World} {ys : List Int} {F : Int} {u : Nat} {rest : Int} {ss : List Int} {wr : World} (h : DropInv g M w ys F (u + 1) rest ss wr) (hy : ys.length = M) (hu : u < M) (hF : 0 < F) {x q r : Int} (hx : x = ys.getD u 0)
    (hq : q = (rest * 4294967296 + x) / F) (hr : r = (rest * 4294967296 + x) % F) (hq0 : 0 ≤ q) (hq1 : q < 4294967296) :
    DropInv g M w ys F u r (ss.set u q) (wr.setCell ⟨g, u, none⟩ (.int .u64 q)) := by
  obtain ⟨h1, h2, h3, h4, h5, h6⟩ := h
  have d := Nm.drop_div (D := Nm.v32 (ys.drop (u + 1))) (x := x) (q := q) (r := r) hF (by rw [← h5]; exact hq) (by rw [← h5]; exact hr)
  have e := Nm.v32_drop_at ys u (by omega)
  rw [← hx] at e
  refine ⟨h1.set _ _, by rw [List.length_set]; exact h2, h3.set _ hq0 hq1, ?_, ?_, h6.setCell (Nat.le_refl _) _⟩
  · rw [Nm.v32_drop_at (ss.set u q) u (by rw [List.length_set]; omega), Nm.getD_set ss u u q (by omega), if_pos rfl, List.drop_set_of_lt (by omega), h4, e]
    exact d.1
  · rw [e]
    exact d.2

set_option maxRecDepth 20000 in
set_option maxHeartbeats 4000000 in
theorem drop_any (p : Option Addr) (n cap : Nat) (za : List Int) (kk : Int) (k : Nat) (w : World) (ha : Arg w p n cap za) (hn : Nm.tsize za ≤ 1099511627776) (hkk : kk = (k : Int)) (hk : k ≤ 262144) :
    Calls Tryd.prog 53 #[.slice p n cap, .int .i64 kk] w fun e w' => ∃ r os, e = .returned (.slice r (List.length os) (List.length os)) ∧ Ans w.heap.size w' r os (Nm.val za / 2 ^ k) ∧ Below w.heap.size w w' := by
  have HA := hid ha
  have hk0 : 0 ≤ kk := by omega
  have hk1 : kk ≤ 262144 := by omega
  obtain ⟨z, HZ⟩ : ∃ z : Nat, Hid (kk / 32 = (z : Int) ∧ z = k / 32) := ⟨k / 32, by show _ ∧ _; omega⟩
  obtain ⟨r, HR⟩ : ∃ r : Nat, Hid (kk % 32 = (r : Int) ∧ r = k % 32) := ⟨k % 32, by show _ ∧ _; omega⟩
  have KZ : Hid (k = 32 * z + r) := by have := HZ.out; have := HR.out; show _ = _; omega
  have hz8 : z ≤ 8192 := by have := HZ.out; omega
  have hr31 : r ≤ 31 := by have := HR.out; omega
  clear ha hkk hk
  go_enter Tryd.func53, Tryd.ntmps53
  go_wp2_with fail
  refine (halves_any p n cap za _ HA.out (by have := HA.out.2.1; have := HA.out.2.2.1; omega)).mono ?_
  rintro e w1 ⟨xs, rfl, lx, hx, vx, kx, bx⟩
  have D1 := hid bx
  obtain ⟨l1, LX⟩ : ∃ l1, Hid (xs.length = l1) := ⟨_, rfl⟩
  have HX := hid hx
  have VX := hid vx
  have kx1 : l1 ≤ 2 * Nm.tsize za := by have := LX.out; omega
  obtain ⟨g1, G1⟩ : ∃ g1, w.heap.size = g1 := ⟨_, rfl⟩
  have lx2 := lx
  rw [G1] at lx2
  have CX : Hid (∀ i, i < l1 → w1.cell? ⟨g1, i, none⟩ = some (.int .u64 (xs.getD i 0))) := fun i hi => by have := lx2.cells i (by have := LX.out; omega); rwa [Nat.zero_add] at this
  obtain ⟨g, Gg⟩ : ∃ g, Hid (w1.heap.size = g) := ⟨_, rfl⟩
  have BX : Hid (∀ {j : Nat}, j < l1 → g1 < g) := fun {j} hj => by rw [← Gg.out]; exact cell_lt (CX.out j hj)
  rw [LX.out, G1]
  clear lx lx2 hx vx kx bx
  have DV : Hid (Nm.val za / 2 ^ k = Nm.val za / Nm.p32 z / 2 ^ r) := by
    rw [Hid, KZ.out, Nm.two_add, ← Nm.p32_pow, Int.ediv_ediv_of_nonneg (by have := Nm.p32_pos z; omega)]
  by_cases hz : l1 ≤ z
  · have hz' : (l1 : Int) ≤ kk / 32 := by have := HZ.out; omega
    have V0 : Hid (Nm.val za / 2 ^ k = 0) := by
      have h1 := Nm.v32_lt _ HX.out
      have h2 := Nm.v32_nonneg _ HX.out
      have h3 := Nm.p32_mono hz
      rw [LX.out, VX.out] at h1
      rw [VX.out] at h2
      rw [Hid, DV.out, Int.ediv_eq_zero_of_lt h2 (by omega), Int.zero_ediv]
    have D3 := hid (chain D1.out ((Below.refl w1.heap.size w1).alloc (Nat.le_refl _) (.cells #[] 25)) (Nat.le_refl _))
    have GS : Hid (w.heap.size ≤ g) := by rw [← Gg.out]; exact D1.out.size
    have FIN : Hid (∀ x : World, Below w.heap.size w x → ∃ r os, Ending.returned (.slice (some ⟨g, 0, none⟩) 0 0) = .returned (.slice r (List.length os) (List.length os)) ∧ Ans w.heap.size x r os (Nm.val za / 2 ^ k) ∧ Below w.heap.size w x) := fun x hx => ⟨some ⟨g, 0, none⟩, [], rfl, ⟨Lies.nil _ _, Nm.Limbs.nil, rfl, V0.out.symm, fun a h => by cases h; exact GS.out⟩, hx⟩
    go_wp2
    go_ret
    rw [Gg.out]
    exact FIN.out _ D3.out
  · have hz' : ¬ (l1 : Int) ≤ kk / 32 := by have := HZ.out; omega
    go_wp2
    go_loop [7, 8] (fun f i => ∃ (t : Nat) (F : Int), t ≤ r ∧ i = .int .i64 t ∧ f = .int .u64 F ∧ 1 ≤ F ∧ F ≤ 2147483648 ∧ Hid (F = 2 ^ t)) (fun _ i => r - (intOf i).toNat)
    case atStart => exact ⟨0, 1, Nat.zero_le _, rfl, rfl, by omega, by omega, rfl⟩
    case round =>
      obtain ⟨t, F, ht, rfl, rfl, hF0, hF1, HF⟩ := hrel
      by_cases htl : t < r
      · have htl' : (t : Int) < kk % 32 := by have := HR.out; omega
        obtain ⟨F2, hF2, FF⟩ : ∃ F2, IntKind.u64.wrap (F * 2) = F2 ∧ Hid (F2 = F * 2) := ⟨_, by rw [IntKind.wrap_u64, Int.emod_eq_of_lt (by omega) (by omega)], rfl⟩
        have E2 : Hid (F2 = 2 ^ (t + 1)) := by rw [Hid, FF.out, HF.out, Nm.two_succ, Int.mul_comm]
        have hF20 : 1 ≤ F2 := by have := FF.out; omega
        have hF21 : F2 ≤ 2147483648 := by
          rw [E2.out]
          have := Nm.two_mono (show t + 1 ≤ 31 by omega)
          have e : (2 : Int) ^ 31 = 2147483648 := by decide
          omega
        go_wp2
        go_round
        case rel => exact ⟨t + 1, F2, by omega, by go_num, by first | rfl | rw [hF2], hF20, hF21, E2.out⟩
        case measure => simp [intOf]; omega
      · have htl' : ¬ (t : Int) < kk % 32 := by have := HR.out; omega
        obtain rfl : t = r := by omega
        obtain ⟨M, HM⟩ : ∃ M, Hid (l1 - z = M) := ⟨_, rfl⟩
        have hmk := make64 M (by have := HM.out; omega) w1
        rw [show ((M : Nat) : Int) = (l1 : Int) - kk / 32 by have := HZ.out; have := HM.out; omega, Gg.out] at hmk
        have bm := hid ((Below.refl w1.heap.size w1).alloc (Nat.le_refl _) (.cells (madeCells #[.int .u64 0] M) 25))
        have gm : Own (w1.alloc (.cells (madeCells #[.int .u64 0] M) 25)) w1.heap.size (List.replicate M 0) := by rw [made_zero]; exact Own.alloc w1 _
        rw [Gg.out] at bm gm
        generalize w1.alloc (.cells (madeCells #[.int .u64 0] M) 25) = wm at hmk bm gm
        have LD : Hid ((xs.drop z).length = M) := by rw [Hid, List.length_drop, LX.out]; exact HM.out
        have I0 : Hid (DropInv g M w1 (xs.drop z) F M 0 (List.replicate M 0) wm) := by
          refine ⟨gm, by simp, Nm.Halves.zeros _, ?_, ?_, bm.out⟩
          · rw [List.drop_eq_nil_of_le (by simp), List.drop_eq_nil_of_le (by have := LD.out; omega)]; simp [Nm.v32]
          · rw [List.drop_eq_nil_of_le (by have := LD.out; omega)]; simp [Nm.v32]
        clear gm bm
        go_wp2
        clear hmk
        have FP : Hid (Nm.v32 (xs.drop z) / F = Nm.val za / 2 ^ k) := by
          rw [Hid, DV.out, ← VX.out, Nm.v32_div xs HX.out z (by have := LX.out; omega), HF.out]
        have hFz : ¬ F = 0 := by omega
        have hFz' : (F == 0) = false := by rw [beq_eq_false_iff_ne]; exact hFz
        go_loopw [10, 11] (fun a i wr => ∃ (I j : Nat) (rest : Int) (ss : List Int), Hid (I = z + j) ∧ I ≤ l1 ∧ i = .int .i64 ((I : Int) - 1) ∧ a = .int .u64 rest ∧ 0 ≤ rest ∧ rest < F ∧ Hid (DropInv g M w1 (xs.drop z) F j rest ss wr)) (fun _ i _ => (intOf i + 1).toNat)
        case atStart => exact ⟨l1, M, 0, _, by have := HM.out; show _ = _; omega, Nat.le_refl _, rfl, rfl, by omega, by omega, I0.out⟩
        case round =>
          obtain ⟨I, j, rest, ss, HI, hI, rfl, rfl, hr0, hr1, DI⟩ := hrel
          by_cases hj : j = 0
          · have hge : ¬ kk / 32 ≤ (I : Int) - 1 := by have := HZ.out; have := HI.out; omega
            subst hj
            obtain ⟨o1, o2, o3, o4, o5, o6⟩ := DI.out
            simp only [List.drop_zero] at o4
            rw [FP.out] at o4
            have D3 := hid (chain D1.out (by rw [Gg.out]; exact o6) (Nat.le_refl _))
            have AG : Hid (Arg wr (some ⟨g, 0, none⟩) M M ss) := ⟨o2, Nat.le_refl _, by have := HM.out; omega, o1.lies, o3.limbs⟩
            have hw3 : Hid (w.heap.size ≤ wr.heap.size) := D3.out.size
            have HV := hid o4
            have HS := hid o3
            clear o1 o2 o3 o4 o5 o6 DI
            go_wp2_with fail
            refine (limbs_any _ M M ss _ AG.out HS.out).mono ?_
            rintro e w4 ⟨r4, os, rfl, hA, hb⟩
            rw [HV.out] at hA
            have A4 := hid (hA.mono hw3.out)
            have D4 := hid (chain D3.out hb (Nat.le_refl _))
            clear hA hb
            go_wp2
            go_ret
            exact ⟨r4, os, rfl, A4.out, D4.out⟩
          · obtain ⟨u, rfl⟩ : ∃ u, j = u + 1 := ⟨j - 1, by omega⟩
            obtain ⟨T, rfl⟩ : ∃ T, I = T + 1 := ⟨I - 1, by have := HI.out; omega⟩
            have HT : Hid (T = z + u) := by have := HI.out; show _ = _; omega
            have hge : kk / 32 ≤ (T : Int) := by have := HZ.out; have := HT.out; omega
            have hTl : T < l1 := by omega
            have hTl' : (T : Int) < (l1 : Int) := by omega
            have huM : u < M := by have := HM.out; have := HT.out; omega
            have hidx : (T : Int) - kk / 32 = (u : Int) := by have := HZ.out; have := HT.out; omega
            obtain ⟨x, hx, X⟩ : ∃ x, wr.cell? ⟨g1, T, none⟩ = some (.int .u64 x) ∧ Hid (x = xs.getD T 0) := ⟨_, (DI.out.2.2.2.2.2.cell (p := ⟨g1, T, none⟩) (BX.out hTl)).trans (CX.out T hTl), rfl⟩
            have X2 : Hid (x = (xs.drop z).getD u 0) := by rw [Hid, X.out, HT.out]; simp [List.getD, List.getElem?_drop]
            have hx0 : 0 ≤ x := by have := HX.out.at T; have := X.out; omega
            have hx1 : x < 4294967296 := by have := HX.out.at T; have := X.out; omega
            obtain ⟨pv, hpv⟩ : ∃ pv, wr.cell? ⟨g, u, none⟩ = some (.int .u64 pv) := ⟨_, DI.out.1.cell u (by have := DI.out.2.1; omega)⟩
            have hfr := DI.out.1.free u
            obtain ⟨m0, hm0, M0⟩ : ∃ m0, IntKind.u64.wrap (rest * 4294967296) = m0 ∧ Hid (m0 = rest * 4294967296) := ⟨_, by rw [IntKind.wrap_u64, Int.emod_eq_of_lt (by omega) (by omega)], rfl⟩
            have hm00 : 0 ≤ m0 := by have := M0.out; omega
            have hm01 : m0 ≤ 9223372032559808512 := by have := M0.out; omega
            obtain ⟨tt, htt, TT⟩ : ∃ tt, IntKind.u64.wrap (m0 + x) = tt ∧ Hid (tt = m0 + x) := ⟨_, by rw [IntKind.wrap_u64, Int.emod_eq_of_lt (by omega) (by omega)], rfl⟩
            have htt0 : 0 ≤ tt := by have := TT.out; omega
            have htt1 : tt ≤ 9223372036854775807 := by have := TT.out; omega
            obtain ⟨q, hq, Q⟩ : ∃ q, tt / F = q ∧ Hid (q = tt / F) := ⟨_, rfl, rfl⟩
            obtain ⟨rr, hrr, RR⟩ : ∃ rr, tt % F = rr ∧ Hid (rr = tt % F) := ⟨_, rfl, rfl⟩
            have ET : Hid (tt = rest * 4294967296 + x) := by rw [Hid, TT.out, M0.out]
            have hq0 : 0 ≤ q := by rw [Q.out]; exact Int.ediv_nonneg htt0 (by omega)
            have hq1 : q < 4294967296 := by
              rw [Q.out, Int.ediv_lt_iff_lt_mul (by omega)]
              have := ET.out
              omega
            have hrr0 : 0 ≤ rr := by rw [RR.out]; exact Int.emod_nonneg _ hFz
            have hrr1 : rr < F := by rw [RR.out]; exact Int.emod_lt_of_pos _ (by omega)
            have NX := hid (DI.out.step (x := x) (q := q) (r := rr) LD.out huM (by omega) X2.out (by rw [← ET.out]; exact Q.out) (by rw [← ET.out]; exact RR.out) hq0 hq1)
            have huM' : (u : Int) < (M : Int) := by omega
            clear DI
            go_wp2
            go_roundw
            case rel => exact ⟨T, u, rr, _, HT.out, by omega, by go_num, by first | rfl | rw [hrr], hrr0, hrr1, NX.out⟩
            case measure => simp [intOf]
end Go.Proofs.YtffkopijfelacaaDoor

namespace Go.Proofs.YtffkopijfelacaaDoor
open Go.RowKit Go.Deep

theorem refFromUint_any (x : Int) (w : World) (h0 : 0 ≤ x) (h1 : x < 18446744073709551616) :
    Calls Tryd.prog 12 #[.int .u64 x] w fun e w' => ∃ r os, e = .returned (.slice r (List.length os) (List.length os)) ∧ Ans w.heap.size w' r os x ∧ Below w.heap.size w w' := by
  by_cases hx : x = 0
  · subst hx
    have D : Hid (Below w.heap.size w (w.alloc (.cells #[] 25))) := (Below.refl _ _).alloc (Nat.le_refl _) _
    go_enter Tryd.func12, Tryd.ntmps12
    go_wp2
    go_ret
    exact ⟨some ⟨w.heap.size, 0, none⟩, [], rfl, Ans.none _ _ _ (fun a h => by cases h; exact Nat.le_refl _), D.out⟩
  · have hx' : (x == 0) = false := by rw [beq_eq_false_iff_ne]; exact hx
    have D : Hid (Below w.heap.size w (w.alloc (.cells #[.int .u64 x] 25))) := (Below.refl _ _).alloc (Nat.le_refl _) _
    have A : Hid (Ans w.heap.size (w.alloc (.cells #[.int .u64 x] 25)) (some ⟨w.heap.size, 0, none⟩) [x] x) := ⟨(Own.alloc w [x]).lies, one_limb ⟨h0, h1⟩, by simp [Nm.tsize, hx], by simp [Nm.val], fun a h => by cases h; exact Nat.le_refl _⟩
    go_enter Tryd.func12, Tryd.ntmps12
    go_wp2
    go_ret
    exact ⟨some ⟨w.heap.size, 0, none⟩, [x], rfl, A.out, D.out⟩

theorem fromUint_any (x : Int) (w : World) (h0 : 0 ≤ x) (h1 : x < 18446744073709551616) :
    Calls Tryd.prog 29 #[.int .u64 x] w fun e w' => ∃ r os, e = .returned (.slice r (List.length os) (List.length os)) ∧ Ans w.heap.size w' r os x ∧ Below w.heap.size w w' := by
  by_cases hx : x = 0
  · subst hx
    go_enter Tryd.func29, Tryd.ntmps29
    go_wp2
    go_ret
    exact ⟨none, [], rfl, Ans.none _ _ _ (fun a h => by cases h), Below.refl _ _⟩
  · have hx' : (x == 0) = false := by rw [beq_eq_false_iff_ne]; exact hx
    have D : Hid (Below w.heap.size w (w.alloc (.cells #[.int .u64 x] 25))) := (Below.refl _ _).alloc (Nat.le_refl _) _
    have A : Hid (Ans w.heap.size (w.alloc (.cells #[.int .u64 x] 25)) (some ⟨w.heap.size, 0, none⟩) [x] x) := ⟨(Own.alloc w [x]).lies, one_limb ⟨h0, h1⟩, by simp [Nm.tsize, hx], by simp [Nm.val], fun a h => by cases h; exact Nat.le_refl _⟩
    go_enter Tryd.func29, Tryd.ntmps29
    go_wp2
    go_ret
    exact ⟨some ⟨w.heap.size, 0, none⟩, [x], rfl, A.out, D.out⟩

/-- What ToUint answers: the limb, and whether it is one. -/
def toU (zs : List Int) : Int := if Nm.tsize zs = 1 then zs.getD 0 0 else 0

theorem ret_to {a b : Int} {c d : Bool} (h : a = b) (k : c = d) : Ending.returned (.tuple #[.int .u64 a, .bool c]) = .returned (.tuple #[.int .u64 b, .bool d]) := by rw [h, k]

theorem refToUint_any (p : Option Addr) (n cap : Nat) (zs : List Int) (w : World) (ha : Arg w p n cap zs) :
    Calls Tryd.prog 13 #[.slice p n cap] w fun e w' => e = .returned (.tuple #[.int .u64 (toU zs), .bool (decide (Nm.tsize zs ≤ 1))]) ∧ w' = w := by
  obtain ⟨a1, a2, a3, a4, a5⟩ := ha
  have tl := Nm.tsize_le zs
  have S1 := refSize_any p n cap zs w a1 (by omega) a4
  rcases (show Nm.tsize zs = 0 ∨ Nm.tsize zs = 1 ∨ 1 < Nm.tsize zs by omega) with h | h | h
  · have E : Hid (0 = toU zs ∧ true = decide (Nm.tsize zs ≤ 1)) := by simp [Hid, toU, h]
    rw [h] at S1
    have HS := hid S1
    clear S1 h
    go_enter Tryd.func13, Tryd.ntmps13
    go_wp2_with fail
    refine HS.out.mono ?_
    rintro e w' ⟨rfl, rfl⟩
    go_wp2
    go_ret2
    exact ⟨ret_to E.out.1 E.out.2, rfl⟩
  · have E : Hid (zs.getD 0 0 = toU zs ∧ true = decide (Nm.tsize zs ≤ 1)) := by simp [Hid, toU, h]
    obtain ⟨b, off, rfl, hbw, HC⟩ := a4.at (by omega)
    have hc := HC.out 0 (by omega)
    rw [Nat.add_zero] at hc
    have hn : (0 : Int) < (n : Int) := by omega
    rw [h] at S1
    have HS := hid S1
    clear S1 h
    go_enter Tryd.func13, Tryd.ntmps13
    go_wp2_with fail
    refine HS.out.mono ?_
    rintro e w' ⟨rfl, rfl⟩
    go_wp2
    go_ret2
    exact ⟨ret_to E.out.1 E.out.2, rfl⟩
  · have E : Hid (0 = toU zs ∧ false = decide (Nm.tsize zs ≤ 1)) := by
      refine ⟨?_, ?_⟩
      · rw [toU, if_neg (by omega)]
      · simp; omega
    have h1 : ((Nm.tsize zs : Int) == 0) = false := by rw [beq_eq_false_iff_ne]; omega
    have h2 : (1 : Int) < (Nm.tsize zs : Int) := by omega
    have HS := hid S1
    clear S1 h
    go_enter Tryd.func13, Tryd.ntmps13
    go_wp2_with fail
    refine HS.out.mono ?_
    rintro e w' ⟨rfl, rfl⟩
    go_wp2
    go_ret2
    exact ⟨ret_to E.out.1 E.out.2, rfl⟩
end Go.Proofs.YtffkopijfelacaaDoor

namespace Go.Proofs.YtffkopijfelacaaDoor
open Go.RowKit Go.Deep

theorem toUint_any (p : Option Addr) (n cap : Nat) (zs : List Int) (w : World) (ha : Arg w p n cap zs) :
    Calls Tryd.prog 30 #[.slice p n cap] w fun e w' => e = .returned (.tuple #[.int .u64 (toU zs), .bool (decide (Nm.tsize zs ≤ 1))]) ∧ w' = w := by
  obtain ⟨a1, a2, a3, a4, a5⟩ := ha
  have tl := Nm.tsize_le zs
  have S1 := trimmed_any p n cap zs w a1 a2 (by omega) a4
  rcases (show Nm.tsize zs = 0 ∨ Nm.tsize zs = 1 ∨ 1 < Nm.tsize zs by omega) with h | h | h
  · have E : Hid (0 = toU zs ∧ true = decide (Nm.tsize zs ≤ 1)) := by simp [Hid, toU, h]
    rw [h] at S1
    have HS := hid S1
    clear S1 h
    go_enter Tryd.func30, Tryd.ntmps30
    go_wp2_with fail
    refine HS.out.mono ?_
    rintro e w' ⟨rfl, rfl⟩
    go_wp2
    go_ret2
    exact ⟨ret_to E.out.1 E.out.2, rfl⟩
  · have E : Hid (zs.getD 0 0 = toU zs ∧ true = decide (Nm.tsize zs ≤ 1)) := by simp [Hid, toU, h]
    obtain ⟨b, off, rfl, hbw, HC⟩ := a4.at (by omega)
    have hc := HC.out 0 (by omega)
    rw [Nat.add_zero] at hc
    rw [h] at S1
    have HS := hid S1
    clear S1 h
    go_enter Tryd.func30, Tryd.ntmps30
    go_wp2_with fail
    refine HS.out.mono ?_
    rintro e w' ⟨rfl, rfl⟩
    go_wp2
    go_ret2
    exact ⟨ret_to E.out.1 E.out.2, rfl⟩
  · have E : Hid (0 = toU zs ∧ false = decide (Nm.tsize zs ≤ 1)) := by
      refine ⟨?_, ?_⟩
      · rw [toU, if_neg (by omega)]
      · simp; omega
    have h1 : ((Nm.tsize zs : Int) == 0) = false := by rw [beq_eq_false_iff_ne]; omega
    have h2 : ((Nm.tsize zs : Int) == 1) = false := by rw [beq_eq_false_iff_ne]; omega
    have HS := hid S1
    clear S1 h
    go_enter Tryd.func30, Tryd.ntmps30
    go_wp2_with fail
    refine HS.out.mono ?_
    rintro e w' ⟨rfl, rfl⟩
    go_wp2
    go_ret2
    exact ⟨ret_to E.out.1 E.out.2, rfl⟩

theorem refBit_neg (p : Option Addr) (n cap : Nat) (i : Int) (w : World) (hi : i < 0) :
    Calls Tryd.prog 15 #[.slice p n cap, .int .i64 i] w fun e w' => e = .returned (.int .i64 0) ∧ w' = w := by
  go_enter Tryd.func15, Tryd.ntmps15
  go_wp2
  go_ret
  exact ⟨rfl, rfl⟩

set_option maxRecDepth 20000 in
set_option maxHeartbeats 2000000 in
theorem refBit_any (p : Option Addr) (n cap : Nat) (zs : List Int) (i : Nat) (ii : Int) (w : World) (ha : Arg w p n cap zs) (hi : ii ≤ 9223372036854775807) (hii : ii = (i : Int)) :
    Calls Tryd.prog 15 #[.slice p n cap, .int .i64 ii] w fun e w' => e = .returned (.int .i64 (Nm.val zs / 2 ^ i % 2)) ∧ w' = w := by
  obtain ⟨a1, a2, a3, a4, a5⟩ := ha
  have hi0 : 0 ≤ ii := by omega
  have hi0' : ¬ ii < 0 := by omega
  obtain ⟨k, HK⟩ : ∃ k : Nat, Hid (ii / 64 = (k : Int) ∧ k = i / 64) := ⟨i / 64, by show _ ∧ _; omega⟩
  obtain ⟨r, HR⟩ : ∃ r : Nat, Hid (ii % 64 = (r : Int) ∧ r = i % 64) := ⟨i % 64, by show _ ∧ _; omega⟩
  have hr : r ≤ 63 := by have := HR.out; omega
  by_cases hk : n ≤ k
  · have hk' : (n : Int) ≤ ii / 64 := by have := HK.out; omega
    have E : Hid (0 = Nm.val zs / 2 ^ i % 2) := by
      have h1 := Nm.val_bd zs a5
      rw [a1, Nm.pw_two] at h1
      have h2 := Nm.two_mono (show 64 * n ≤ i by have := HK.out; omega)
      rw [Hid, Int.ediv_eq_zero_of_lt h1.1 (by omega)]
      rfl
    clear hii
    go_enter Tryd.func15, Tryd.ntmps15
    go_wp2
    go_ret
    exact ⟨ret_i64 E.out, rfl⟩
  · have hk' : ¬ (n : Int) ≤ ii / 64 := by have := HK.out; omega
    obtain ⟨b, off, rfl, hbw, HC⟩ := a4.at (by omega)
    obtain ⟨x0, hx, X⟩ : ∃ x0, w.cell? ⟨b, off + k, none⟩ = some (.int .u64 x0) ∧ Hid (x0 = zs.getD k 0) := ⟨_, HC.out k (by omega), rfl⟩
    have hx0 : 0 ≤ x0 := by have := a5.at k; have := X.out; omega
    have hx1 : x0 < 18446744073709551616 := by have := a5.at k; have := X.out; omega
    have E : Hid (x0 / 2 ^ r % 2 = Nm.val zs / 2 ^ i % 2) := by
      rw [Hid, X.out]
      exact (Nm.bit_at zs i k r (by have := HK.out; have := HR.out; omega) (by omega) a5 (by omega)).symm
    have hq : ii / 64 = (k : Int) := HK.out.1
    have hkn : (k : Int) < (n : Int) := by omega
    have hkn' : ¬ (n : Int) ≤ (k : Int) := by omega
    clear hii a4
    go_enter Tryd.func15, Tryd.ntmps15
    go_wp2
    clear hq
    go_loop [5, 6] (fun y t => ∃ (c : Nat) (x : Int), c ≤ r ∧ t = .int .i64 c ∧ y = .int .u64 x ∧ 0 ≤ x ∧ x ≤ x0 ∧ Hid (x = x0 / 2 ^ c)) (fun _ t => r - (intOf t).toNat)
    case atStart => exact ⟨0, x0, Nat.zero_le _, rfl, rfl, hx0, by omega, by simp [Hid]⟩
    case round =>
      obtain ⟨c, x, hc, rfl, rfl, h1, h2, HX⟩ := hrel
      by_cases hlt : c < r
      · have hlt' : (c : Int) < ii % 64 := by have := HR.out; omega
        obtain ⟨y, hy, Y⟩ : ∃ y, x / 2 = y ∧ Hid (y = x / 2) := ⟨_, rfl, rfl⟩
        have hy0 : 0 ≤ y := by omega
        have hyx : y ≤ x0 := by omega
        have YX : Hid (y = x0 / 2 ^ (c + 1)) := by rw [Hid, Y.out, HX.out, half_more]
        go_wp2
        go_round
        case rel => exact ⟨c + 1, y, by omega, by go_num, by first | rfl | rw [hy], hy0, hyx, YX.out⟩
        case measure => simp [intOf]; omega
      · have hlt' : ¬ (c : Int) < ii % 64 := by have := HR.out; omega
        obtain rfl : c = r := by omega
        obtain ⟨y, hy, Y⟩ : ∃ y, x % 2 = y ∧ Hid (y = x % 2) := ⟨_, rfl, rfl⟩
        have hy0 : 0 ≤ y := by omega
        have hy1 : y ≤ 1 := by omega
        have E2 : Hid (y = Nm.val zs / 2 ^ i % 2) := by rw [Hid, Y.out, HX.out]; exact E.out
        go_wp2
        go_ret
        exact ⟨ret_i64 E2.out, rfl⟩
end Go.Proofs.YtffkopijfelacaaDoor

namespace Go.Proofs.YtffkopijfelacaaDoor
open Go.RowKit Go.Deep

/-- Sub64: the limb of a difference, and the borrow, under names. -/
theorem sub64' (x y b s b' : Int) (hx : 0 ≤ x) (hx1 : x < 18446744073709551616) (hy : 0 ≤ y) (hy1 : y < 18446744073709551616) (hb0 : 0 ≤ b) (hb : b ≤ 1) (hs : 0 ≤ s ∧ s < 18446744073709551616) (hb' : 0 ≤ b' ∧ b' ≤ 1) (he : s + 18446744073709551616 * (-b') = x + (-y) + (-b)) (w : World) :
    (callFunc 65 #[.int .u64 x, .int .u64 y, .int .u64 b]).run Tryd.prog w = .ok (.value (.tuple #[.int .u64 s, .int .u64 b'])) w := by
  obtain ⟨x, rfl⟩ := Int.eq_ofNat_of_zero_le hx
  obtain ⟨y, rfl⟩ := Int.eq_ofNat_of_zero_le hy
  obtain ⟨b, rfl⟩ := Int.eq_ofNat_of_zero_le hb0
  rw [run_callFunc_extern Tryd.func65 (by kernel_rfl) (by kernel_rfl) (by kernel_rfl) (e := sub64Entry) (by kernel_rfl), run_sub64 x y b (by omega)]
  have e1 : (((x + 18446744073709551616 - y - b) % 18446744073709551616 : Nat) : Int) = s := by omega
  have e2 : ((if x < y + b then 1 else 0 : Nat) : Int) = b' := by split <;> omega
  rw [e1, e2]
  rfl

theorem sub_names (x y b : Int) (hx : 0 ≤ x) (hx1 : x < 18446744073709551616) (hy : 0 ≤ y) (hy1 : y < 18446744073709551616) (hb0 : 0 ≤ b) (hb : b ≤ 1) : ∃ s b' : Int, (0 ≤ s ∧ s < 18446744073709551616) ∧ (0 ≤ b' ∧ b' ≤ 1) ∧ Hid (s + 18446744073709551616 * (-b') = x + (-y) + (-b)) :=
  ⟨(x - y - b) % 18446744073709551616, -((x - y - b) / 18446744073709551616), by omega, by omega, show _ = _ by omega⟩

theorem AddInv.down {g k : Nat} {w : World} {T : Int} {j : Nat} {c : Int} {os : List Int} {wr : World} (h : AddInv g k w T j c os wr) (hj : j < k) {x s c' : Int} (hs0 : 0 ≤ s ∧ s < 18446744073709551616) (hs : s + 18446744073709551616 * c' = os.getD j 0 + x + c) :
    AddInv g k w (T + Nm.pw j * x) (j + 1) c' (os.set j s) (wr.setCell ⟨g, j, none⟩ (.int .u64 s)) := by
  obtain ⟨h1, h2, h3, h4, h5, h6⟩ := h
  exact ⟨h1.set j s, by simpa using h2, h3.set j hs0.1 hs0.2, Nm.add_step (by omega) hs h4, h5.setCell (Nat.le_refl _) _, by simpa [World.setCell] using h6⟩

theorem AddInv.stop {g k : Nat} {w : World} {T : Int} {j : Nat} {b : Int} {os : List Int} {wr : World} (h : AddInv g k w T j (-b) os wr) (hT : 0 ≤ T) (hb : 1 ≤ b) : j < k := by
  obtain ⟨h1, h2, h3, h4, h5, h6⟩ := h
  rcases Nat.lt_or_ge j k with hj | hj
  · exact hj
  · have e1 := Nm.pw_mono hj
    have e2 := (Nm.val_bd os h3).2
    rw [h2] at e2
    have e3 := Nm.pw_pos j
    have e4 : Nm.pw j * 1 ≤ Nm.pw j * b := Int.mul_le_mul_of_nonneg_left hb (by omega)
    rw [Int.mul_neg] at h4
    omega
end Go.Proofs.YtffkopijfelacaaDoor
