/-
  code: pass (mkcdf.py).
-/
import Derived.Test.YtnobafmleellhabDoorCdE
namespace Go.Proofs.YtnobafmleellhabDoor
open Go Go.RowKit Go.Deep

namespace Cd
theorem w27 {x : In} (h : x.w = 27) : (rx x).a = 3 := by unfold rx; rw [h]; rfl
theorem ps_some {x : In} {i : Nat} {hs hs' : List Int} (he : ps x i hs = some hs') : tk x ≤ hs.getD i 0 ∧ hs.getD i 0 - tk x + pt x ≤ 32768 ∧ ((x.w = 27 ∧ (rx x).a = 3 ∧ gv hs x.a.toNat (hs.getD i 0 - tk x + pt x) = some hs') ∨
    (x.w ≠ 27 ∧ (rx x).a ≠ 3 ∧ gv hs (i + 1) (hs.getD i 0 - tk x + pt x) = some hs') ∨ (x.w ≠ 27 ∧ (rx x).a = 3 ∧ ∃ h1, gv hs (i + 1) (hs.getD i 0 - tk x + pt x) = some h1 ∧ gv h1 x.a.toNat (hs.getD i 0 - tk x + pt x) = some hs')) := by
  unfold ps at he
  by_cases h1 : hs.getD i 0 < tk x ∨ 32768 < bh x i hs
  · rw [if_pos h1] at he; cases he
  · rw [if_neg h1] at he
    have h2 : ¬ hs.getD i 0 < tk x ∧ ¬ 32768 < hs.getD i 0 - tk x + pt x := ⟨fun h => h1 (.inl h), fun h => h1 (.inr h)⟩
    refine ⟨by omega, by omega, ?_⟩
    obtain ⟨h3, e1, e2⟩ := Option.bind_eq_some_iff.1 he
    unfold ps1 at e1
    unfold ps2 at e2
    by_cases hw : x.w = 27
    · rw [if_pos hw] at e1
      obtain rfl := Option.some.inj e1
      have a3 := w27 hw
      rw [if_pos a3] at e2
      exact .inl ⟨hw, a3, e2⟩
    · rw [if_neg hw] at e1
      by_cases ha : (rx x).a = 3
      · rw [if_pos ha] at e2
        exact .inr (.inr ⟨hw, ha, h3, e1, e2⟩)
      · rw [if_neg ha] at e2
        obtain rfl := Option.some.inj e2
        exact .inr (.inl ⟨hw, ha, e1⟩)
theorem ps_none {x : In} {i : Nat} {hs : List Int} (he : ps x i hs = none) : hs.getD i 0 < tk x ∨ (tk x ≤ hs.getD i 0 ∧ 32768 < hs.getD i 0 - tk x + pt x) ∨ (tk x ≤ hs.getD i 0 ∧ hs.getD i 0 - tk x + pt x ≤ 32768 ∧ ((x.w = 27 ∧ (rx x).a = 3 ∧ gv hs x.a.toNat (hs.getD i 0 - tk x + pt x) = none) ∨
    (x.w ≠ 27 ∧ gv hs (i + 1) (hs.getD i 0 - tk x + pt x) = none) ∨ (x.w ≠ 27 ∧ (rx x).a = 3 ∧ ∃ h1, gv hs (i + 1) (hs.getD i 0 - tk x + pt x) = some h1 ∧ gv h1 x.a.toNat (hs.getD i 0 - tk x + pt x) = none))) := by
  unfold ps at he
  by_cases h1 : hs.getD i 0 < tk x
  · exact .inl h1
  · by_cases h2 : 32768 < bh x i hs
    · exact .inr (.inl ⟨by omega, h2⟩)
    · rw [if_neg (by intro h; rcases h with h | h; exact h1 h; exact h2 h)] at he
      have h2' : ¬ 32768 < hs.getD i 0 - tk x + pt x := h2
      refine .inr (.inr ⟨by omega, by omega, ?_⟩)
      by_cases hw : x.w = 27
      · have a3 := w27 hw
        unfold ps1 ps2 at he
        rw [if_pos hw] at he
        simp only [Option.bind_some] at he
        rw [if_pos a3] at he
        exact .inl ⟨hw, a3, he⟩
      · unfold ps1 at he
        rw [if_neg hw] at he
        cases e1 : gv hs (i + 1) (hs.getD i 0 - tk x + pt x) with
        | none => exact .inr (.inl ⟨hw, rfl⟩)
        | some h3 =>
          rw [show gv hs (i + 1) (bh x i hs) = some h3 from e1] at he
          simp only [Option.bind_some] at he
          unfold ps2 at he
          by_cases ha : (rx x).a = 3
          · rw [if_pos ha] at he
            exact .inr (.inr ⟨hw, ha, h3, rfl, he⟩)
          · rw [if_neg ha] at he; cases he
theorem gv_len {hs hs' : List Int} {p : Nat} {h : Int} (he : gv hs p h = some hs') : hs'.length = hs.length := by
  unfold gv at he
  by_cases h1 : hs.getD p 0 < 0
  · rw [if_pos h1] at he; rw [← Option.some.inj he, List.length_set]
  · rw [if_neg h1] at he
    by_cases h2 : hs.getD p 0 = h
    · rw [if_pos h2] at he; rw [← Option.some.inj he]
    · rw [if_neg h2] at he; cases he
end Cd


set_option maxRecDepth 100000 in
set_option maxHeartbeats 4000000 in
theorem cpass_some (x : Cd.In) (hs hs' : List Int) (n cap i : Nat) (w : World) (tb g : Nat) (hT : Cd.TB w tb) (hH : Cd.HB w g hs) (hn : hs.length = n) (hi : i + 1 < n) (hb : n ≤ 131073) (hok : Cd.ok x = true) (hA : (Cd.rx x).a = 3 → (i : Int) < x.a ∧ x.a < n) (h0 : 0 ≤ hs.getD i 0) (h1 : hs.getD i 0 ≤ 32768) (htg : tb ≠ g) (he : Cd.ps x i hs = some hs') :
    Calls Tryd.prog 19 #[.pointer (some ⟨tb, 0, none⟩), .agg #[.int .i64 x.w, .int .i64 x.a, .int .i64 x.b], .int .i64 (i : Int), .slice (some ⟨g, 0, none⟩) n cap] w fun e w' => e = .returned (.bool true) ∧ Cd.HB w' g hs' ∧ Re.Kp (fun b => b = g) w w' := by
  obtain ⟨h0, h1⟩ := And.intro h0 h1
  have il : i < n := by omega
  have hii : (i : Int) + 1 < (n : Int) := by omega
  have ili : (i : Int) < (n : Int) := by omega
  have hbi : (n : Int) ≤ 131073 := by omega
  have gl := hH.lt
  have B1 := hid (alloc_b w (.cells #[.int .i64 x.w, .int .i64 x.a, .int .i64 x.b] 28))
  have X1 := hid (Bx.new w 28 #[.int .i64 x.w, .int .i64 x.a, .int .i64 x.b])
  have T1 := hid (hT.on B1.out)
  have H1 := hid (hH.on B1.out)
  have HC : Hid (∀ W, Cd.HB W g hs → W.cell? ⟨g, i, none⟩ = some (.int .i64 (hs.getD i 0))) := fun W h => h.cell i (by omega)
  have EF := hid (fun W tb h => ceff_any x W tb h)
  rw [Cd.ef_yes hok] at EF
  obtain ⟨t0, t1, p0, p1⟩ := Cd.tk_rng hok
  obtain ⟨kw1, kw2, -⟩ := Cd.ok_ft hok
  have TX : Hid (∀ W (h : Cd.TB W tb), W.cell? ⟨tb, x.w.toNat * 5 + 1, none⟩ = some (.int .i64 (Cd.rx x).a)) := fun W h => (Cd.TB.cellx (x := x) h ⟨kw1, kw2⟩).2.1
  have GS : Hid (∀ hs1 pl h hs2 W, hs1.length = n → pl < n → Cd.gv hs1 pl h = some hs2 → Cd.HB W g hs1 → _) := fun hs1 pl h hs2 W a1 a2 a3 a4 => cgive_some hs1 hs2 n cap pl h W g a4 a1 a2 (by omega) a3
  have GN : Hid (∀ hs1 pl h W, hs1.length = n → pl < n → Cd.gv hs1 pl h = none → Cd.HB W g hs1 → _) := fun hs1 pl h W a1 a2 a3 a4 => cgive_none hs1 n cap pl h W g a4 a1 a2 (by omega) a3
  have CS := Cd.ps_some he
  clear he hH hT hok
  obtain ⟨k, a, b⟩ := x
  generalize Cd.rx ⟨k, a, b⟩ = r at *
  obtain ⟨nm, ra, rb, rtk, rp⟩ := r
  simp only at *
  generalize Cd.tk ⟨k, a, b⟩ = t at *
  generalize Cd.pt ⟨k, a, b⟩ = pp at *
  obtain ⟨h, hh⟩ : ∃ h, hs.getD i 0 = h := ⟨_, rfl⟩
  rw [hh] at HC CS h0 h1
  clear hh
  obtain ⟨m, rfl⟩ : ∃ m : Nat, k = (m : Int) := ⟨k.toNat, by omega⟩
  have m34 : (m : Int) < 34 := by omega
  have m34n : m < 34 := by omega
  have m0 : 1 ≤ m := by omega
  rw [Int.toNat_natCast] at TX
  obtain ⟨v, hv⟩ : ∃ v, h - t + pp = v := ⟨_, rfl⟩
  rw [hv] at CS

  obtain ⟨ht, hv8, CS⟩ := CS
  subst hv
  rcases CS with ⟨hw, ha, q⟩ | ⟨hw, ha, q⟩ | ⟨hw, ha, h2, q1, q2⟩
  · have hw4 : ((m : Int) == 27) = true := by rw [hw]; rfl
    have hw5 : ((m : Int) != 27) = false := by rw [hw]; rfl
    have hw6 : decide ((m : Int) = 27) = true := decide_eq_true hw
    clear hw
    subst ha
    obtain ⟨A, rfl⟩ : ∃ A : Nat, a = (A : Int) := ⟨a.toNat, by have := (hA rfl).1; omega⟩
    have Ai : (A : Int) < (n : Int) := (hA rfl).2
    have An : A < n := by omega
    rw [Int.toNat_natCast] at q
    go_enter Tryd.func19, Tryd.ntmps19
    go_upto_region 1 with fail
    generalize w.alloc (.cells #[.int .i64 (m : Int), .int .i64 (A : Int), .int .i64 b] 28) = w1 at *
    obtain ⟨k0, k1, k2⟩ := bx3 X1.out
    go_upto_region 2 with (go_at_call 16; refine (EF.out _ _ T1.out).mono ?_; rintro e w2 ⟨rfl, hB⟩; have B2 := hid (below_on B1.out hB); have T2 := hid (T1.out.on hB); have X2 := hid (X1.out.on hB); have H2 := hid (H1.out.on hB); clear hB EF)
    clear k0 k1 k2 T1 X1 H1 B1
    obtain ⟨k0, k1, k2⟩ := bx3 X2.out
    have hc := HC.out w2 H2.out
    have S7 : Hid (∀ W, Re.Kp (fun b => b = g) w2 W → W.cell? ⟨w.heap.size, 0, none⟩ = some (.int .i64 (m : Int)) ∧ W.cell? ⟨w.heap.size, 1, none⟩ = some (.int .i64 (A : Int)) ∧ W.cell? ⟨tb, m * 5 + 1, none⟩ = some (.int .i64 3)) := fun W hW => by
      obtain ⟨e0, e1, e2⟩ := bx3 (Bx.kp X2.out hW (fun e : w.heap.size = g => by omega))
      exact ⟨e0, e1, TX.out W (Bx.kp (show Bx _ _ _ _ from T2.out) hW htg)⟩
    have K0 : Hid (Re.Kp (fun b => b = g) w2 w2.drew) := Re.Kp.of (Below.drew (Below.refl _ _))
    have G2 := hid (GS.out hs A (h - t + pp) hs' w2.drew hn An q H2.out)
    clear GS GN HC TX
    go_upto_region 7 with fail
    clear k0 k1 k2
    go_region_held3 (fun W => W.cell? ⟨w.heap.size, 0, none⟩ = some (.int .i64 (m : Int)) ∧ W.cell? ⟨w.heap.size, 1, none⟩ = some (.int .i64 (A : Int)) ∧ W.cell? ⟨tb, m * 5 + 1, none⟩ = some (.int .i64 3)) (first | (with_reducible exact S7.out _ K1.out) | (with_reducible exact S7.out _ K0.out)) (first | (go_at_call 28; with_reducible refine G2.out.mono ?_; rintro e w5 ⟨rfl, g1, g2⟩; have K1 := hid (K0.out.trans g2); have HF := hid g1; clear g1 g2))
    all_goals
      go_wp2_with fail
      go_ret
      exact ⟨rfl, HF.out, (Re.Kp.of B2.out).trans K1.out⟩
  · have hw3 := beq_false_of_ne hw
    have ha3 := beq_false_of_ne ha
    go_enter Tryd.func19, Tryd.ntmps19
    go_upto_region 1 with fail
    generalize w.alloc (.cells #[.int .i64 (m : Int), .int .i64 a, .int .i64 b] 28) = w1 at *
    obtain ⟨k0, k1, k2⟩ := bx3 X1.out
    go_upto_region 2 with (go_at_call 16; refine (EF.out _ _ T1.out).mono ?_; rintro e w2 ⟨rfl, hB⟩; have B2 := hid (below_on B1.out hB); have T2 := hid (T1.out.on hB); have X2 := hid (X1.out.on hB); have H2 := hid (H1.out.on hB); clear hB EF)
    clear k0 k1 k2 T1 X1 H1 B1
    obtain ⟨k0, k1, k2⟩ := bx3 X2.out
    have hc := HC.out w2 H2.out
    have G1 := hid (GS.out hs (i + 1) (h - t + pp) hs' w2 hn hi q H2.out)
    rw [show ((i + 1 : Nat) : Int) = (i : Int) + 1 by omega] at G1
    clear GS GN HC
    go_upto_region 7 with (go_at_call 28; refine G1.out.mono ?_; rintro e w4 ⟨rfl, g1, g2⟩; have K4 := hid g2; have HF := hid g1; clear g1 g2 G1)
    obtain ⟨e0, e1, e2⟩ := bx3 (Bx.kp X2.out K4.out (fun e : w.heap.size = g => by omega))
    have e3 := TX.out w4 (Bx.kp (show Bx _ _ _ _ from T2.out) K4.out htg)
    clear k0 k1 k2 TX
    go_quiet (fail)
    all_goals
      go_wp2_with fail
      go_ret
      exact ⟨rfl, HF.out, ((Re.Kp.of B2.out).trans K4.out).trans (Re.Kp.of (below_drewN (Below.refl _ _) _))⟩
  · have hw3 := beq_false_of_ne hw
    subst ha
    obtain ⟨A, rfl⟩ : ∃ A : Nat, a = (A : Int) := ⟨a.toNat, by have := (hA rfl).1; omega⟩
    have Ai : (A : Int) < (n : Int) := (hA rfl).2
    have An : A < n := by omega
    rw [Int.toNat_natCast] at q2
    go_enter Tryd.func19, Tryd.ntmps19
    go_upto_region 1 with fail
    generalize w.alloc (.cells #[.int .i64 (m : Int), .int .i64 (A : Int), .int .i64 b] 28) = w1 at *
    obtain ⟨k0, k1, k2⟩ := bx3 X1.out
    go_upto_region 2 with (go_at_call 16; refine (EF.out _ _ T1.out).mono ?_; rintro e w2 ⟨rfl, hB⟩; have B2 := hid (below_on B1.out hB); have T2 := hid (T1.out.on hB); have X2 := hid (X1.out.on hB); have H2 := hid (H1.out.on hB); clear hB EF)
    clear k0 k1 k2 T1 X1 H1 B1
    obtain ⟨k0, k1, k2⟩ := bx3 X2.out
    have hc := HC.out w2 H2.out
    have G1 := hid (GS.out hs (i + 1) (h - t + pp) h2 w2 hn hi q1 H2.out)
    rw [show ((i + 1 : Nat) : Int) = (i : Int) + 1 by omega] at G1
    go_upto_region 7 with (go_at_call 28; refine G1.out.mono ?_; rintro e w4 ⟨rfl, g1, g2⟩; have K4 := hid g2; have H4 := hid g1; clear g1 g2 G1)
    have X4 := hid (Bx.kp X2.out K4.out (fun e : w.heap.size = g => by omega))
    have T4 : Hid (Cd.TB w4 tb) := (Bx.kp (show Bx _ _ _ _ from T2.out) K4.out htg)
    have l2 := (Cd.gv_len q1).trans hn
    have S7 : Hid (∀ W, Re.Kp (fun b => b = g) w4 W → W.cell? ⟨w.heap.size, 0, none⟩ = some (.int .i64 (m : Int)) ∧ W.cell? ⟨w.heap.size, 1, none⟩ = some (.int .i64 (A : Int)) ∧ W.cell? ⟨tb, m * 5 + 1, none⟩ = some (.int .i64 3)) := fun W hW => by
      obtain ⟨e0, e1, e2⟩ := bx3 (Bx.kp X4.out hW (fun e : w.heap.size = g => by omega))
      exact ⟨e0, e1, TX.out W (Bx.kp (show Bx _ _ _ _ from T4.out) hW htg)⟩
    have K0 : Hid (Re.Kp (fun b => b = g) w4 w4.drew) := Re.Kp.of (Below.drew (Below.refl _ _))
    have G2 := hid (GS.out h2 A (h - t + pp) hs' w4.drew l2 An q2 H4.out)
    clear GS GN HC TX
    go_upto_region 7 with fail
    clear k0 k1 k2
    go_region_held3 (fun W => W.cell? ⟨w.heap.size, 0, none⟩ = some (.int .i64 (m : Int)) ∧ W.cell? ⟨w.heap.size, 1, none⟩ = some (.int .i64 (A : Int)) ∧ W.cell? ⟨tb, m * 5 + 1, none⟩ = some (.int .i64 3)) (first | (with_reducible exact S7.out _ K1.out) | (with_reducible exact S7.out _ K0.out)) (first | (go_at_call 28; with_reducible refine G2.out.mono ?_; rintro e w5 ⟨rfl, g1, g2⟩; have K1 := hid (K0.out.trans g2); have HF := hid g1; clear g1 g2))
    all_goals
      go_wp2_with fail
      go_ret
      exact ⟨rfl, HF.out, ((Re.Kp.of B2.out).trans K4.out).trans K1.out⟩

set_option maxRecDepth 100000 in
set_option maxHeartbeats 4000000 in
theorem cpass_none (x : Cd.In) (hs : List Int) (n cap i : Nat) (w : World) (tb g : Nat) (hT : Cd.TB w tb) (hH : Cd.HB w g hs) (hn : hs.length = n) (hi : i + 1 < n) (hb : n ≤ 131073) (hok : Cd.ok x = true) (hA : (Cd.rx x).a = 3 → (i : Int) < x.a ∧ x.a < n) (h0 : 0 ≤ hs.getD i 0) (h1 : hs.getD i 0 ≤ 32768) (htg : tb ≠ g) (he : Cd.ps x i hs = none) :
    Calls Tryd.prog 19 #[.pointer (some ⟨tb, 0, none⟩), .agg #[.int .i64 x.w, .int .i64 x.a, .int .i64 x.b], .int .i64 (i : Int), .slice (some ⟨g, 0, none⟩) n cap] w fun e w' => e = .returned (.bool false) ∧ Re.Kp (fun b => b = g) w w' := by
  obtain ⟨h0, h1⟩ := And.intro h0 h1
  have il : i < n := by omega
  have hii : (i : Int) + 1 < (n : Int) := by omega
  have ili : (i : Int) < (n : Int) := by omega
  have hbi : (n : Int) ≤ 131073 := by omega
  have gl := hH.lt
  have B1 := hid (alloc_b w (.cells #[.int .i64 x.w, .int .i64 x.a, .int .i64 x.b] 28))
  have X1 := hid (Bx.new w 28 #[.int .i64 x.w, .int .i64 x.a, .int .i64 x.b])
  have T1 := hid (hT.on B1.out)
  have H1 := hid (hH.on B1.out)
  have HC : Hid (∀ W, Cd.HB W g hs → W.cell? ⟨g, i, none⟩ = some (.int .i64 (hs.getD i 0))) := fun W h => h.cell i (by omega)
  have EF := hid (fun W tb h => ceff_any x W tb h)
  rw [Cd.ef_yes hok] at EF
  obtain ⟨t0, t1, p0, p1⟩ := Cd.tk_rng hok
  obtain ⟨kw1, kw2, -⟩ := Cd.ok_ft hok
  have TX : Hid (∀ W (h : Cd.TB W tb), W.cell? ⟨tb, x.w.toNat * 5 + 1, none⟩ = some (.int .i64 (Cd.rx x).a)) := fun W h => (Cd.TB.cellx (x := x) h ⟨kw1, kw2⟩).2.1
  have GS : Hid (∀ hs1 pl h hs2 W, hs1.length = n → pl < n → Cd.gv hs1 pl h = some hs2 → Cd.HB W g hs1 → _) := fun hs1 pl h hs2 W a1 a2 a3 a4 => cgive_some hs1 hs2 n cap pl h W g a4 a1 a2 (by omega) a3
  have GN : Hid (∀ hs1 pl h W, hs1.length = n → pl < n → Cd.gv hs1 pl h = none → Cd.HB W g hs1 → _) := fun hs1 pl h W a1 a2 a3 a4 => cgive_none hs1 n cap pl h W g a4 a1 a2 (by omega) a3
  have CS := Cd.ps_none he
  clear he hH hT hok
  obtain ⟨k, a, b⟩ := x
  generalize Cd.rx ⟨k, a, b⟩ = r at *
  obtain ⟨nm, ra, rb, rtk, rp⟩ := r
  simp only at *
  generalize Cd.tk ⟨k, a, b⟩ = t at *
  generalize Cd.pt ⟨k, a, b⟩ = pp at *
  obtain ⟨h, hh⟩ : ∃ h, hs.getD i 0 = h := ⟨_, rfl⟩
  rw [hh] at HC CS h0 h1
  clear hh
  obtain ⟨m, rfl⟩ : ∃ m : Nat, k = (m : Int) := ⟨k.toNat, by omega⟩
  have m34 : (m : Int) < 34 := by omega
  have m34n : m < 34 := by omega
  have m0 : 1 ≤ m := by omega
  rw [Int.toNat_natCast] at TX
  obtain ⟨v, hv⟩ : ∃ v, h - t + pp = v := ⟨_, rfl⟩
  rw [hv] at CS

  subst hv
  rcases CS with ht | ⟨ht, hv8⟩ | ⟨ht, hv8, CS⟩
  · clear GS GN
    go_enter Tryd.func19, Tryd.ntmps19
    go_upto_region 1 with fail
    generalize w.alloc (.cells #[.int .i64 (m : Int), .int .i64 a, .int .i64 b] 28) = w1 at *
    obtain ⟨k0, k1, k2⟩ := bx3 X1.out
    go_upto_region 2 with (go_at_call 16; refine (EF.out _ _ T1.out).mono ?_; rintro e w2 ⟨rfl, hB⟩; have B2 := hid (below_on B1.out hB); have T2 := hid (T1.out.on hB); have X2 := hid (X1.out.on hB); have H2 := hid (H1.out.on hB); clear hB EF)
    clear k0 k1 k2 T1 X1 H1 B1
    obtain ⟨k0, k1, k2⟩ := bx3 X2.out
    have hc := HC.out w2 H2.out
    go_wp2_with fail
    go_ret
    exact ⟨rfl, Re.Kp.of B2.out⟩
  · clear GS GN
    go_enter Tryd.func19, Tryd.ntmps19
    go_upto_region 1 with fail
    generalize w.alloc (.cells #[.int .i64 (m : Int), .int .i64 a, .int .i64 b] 28) = w1 at *
    obtain ⟨k0, k1, k2⟩ := bx3 X1.out
    go_upto_region 2 with (go_at_call 16; refine (EF.out _ _ T1.out).mono ?_; rintro e w2 ⟨rfl, hB⟩; have B2 := hid (below_on B1.out hB); have T2 := hid (T1.out.on hB); have X2 := hid (X1.out.on hB); have H2 := hid (H1.out.on hB); clear hB EF)
    clear k0 k1 k2 T1 X1 H1 B1
    obtain ⟨k0, k1, k2⟩ := bx3 X2.out
    have hc := HC.out w2 H2.out
    go_wp2_with fail
    go_ret
    exact ⟨rfl, Re.Kp.of B2.out⟩
  · rcases CS with ⟨hw, ha, q⟩ | ⟨hw, q⟩ | ⟨hw, ha, h2, q1, q2⟩
    · have hw4 : ((m : Int) == 27) = true := by rw [hw]; rfl
      have hw5 : ((m : Int) != 27) = false := by rw [hw]; rfl
      have hw6 : decide ((m : Int) = 27) = true := decide_eq_true hw
      clear hw
      subst ha
      obtain ⟨A, rfl⟩ : ∃ A : Nat, a = (A : Int) := ⟨a.toNat, by have := (hA rfl).1; omega⟩
      have Ai : (A : Int) < (n : Int) := (hA rfl).2
      have An : A < n := by omega
      rw [Int.toNat_natCast] at q
      go_enter Tryd.func19, Tryd.ntmps19
      go_upto_region 1 with fail
      generalize w.alloc (.cells #[.int .i64 (m : Int), .int .i64 (A : Int), .int .i64 b] 28) = w1 at *
      obtain ⟨k0, k1, k2⟩ := bx3 X1.out
      go_upto_region 2 with (go_at_call 16; refine (EF.out _ _ T1.out).mono ?_; rintro e w2 ⟨rfl, hB⟩; have B2 := hid (below_on B1.out hB); have T2 := hid (T1.out.on hB); have X2 := hid (X1.out.on hB); have H2 := hid (H1.out.on hB); clear hB EF)
      clear k0 k1 k2 T1 X1 H1 B1
      obtain ⟨k0, k1, k2⟩ := bx3 X2.out
      have hc := HC.out w2 H2.out
      have S7 : Hid (∀ W, Re.Kp (fun b => b = g) w2 W → W.cell? ⟨w.heap.size, 0, none⟩ = some (.int .i64 (m : Int)) ∧ W.cell? ⟨w.heap.size, 1, none⟩ = some (.int .i64 (A : Int)) ∧ W.cell? ⟨tb, m * 5 + 1, none⟩ = some (.int .i64 3)) := fun W hW => by
        obtain ⟨e0, e1, e2⟩ := bx3 (Bx.kp X2.out hW (fun e : w.heap.size = g => by omega))
        exact ⟨e0, e1, TX.out W (Bx.kp (show Bx _ _ _ _ from T2.out) hW htg)⟩
      have K0 : Hid (Re.Kp (fun b => b = g) w2 w2.drew) := Re.Kp.of (Below.drew (Below.refl _ _))
      have G2 := hid (GN.out hs A (h - t + pp) w2.drew hn An q H2.out)
      clear GS GN HC TX
      go_upto_region 7 with fail
      clear k0 k1 k2
      go_region_held3 (fun W => W.cell? ⟨w.heap.size, 0, none⟩ = some (.int .i64 (m : Int)) ∧ W.cell? ⟨w.heap.size, 1, none⟩ = some (.int .i64 (A : Int)) ∧ W.cell? ⟨tb, m * 5 + 1, none⟩ = some (.int .i64 3)) (first | (with_reducible exact S7.out _ K1.out) | (with_reducible exact S7.out _ K0.out)) (first | (go_at_call 28; with_reducible refine G2.out.mono ?_; rintro e w5 ⟨rfl, rfl⟩; have K1 := hid K0.out))
      all_goals
        go_wp2_with fail
        go_ret
        exact ⟨rfl, (Re.Kp.of B2.out).trans K1.out⟩
    · have hw3 := beq_false_of_ne hw
      go_enter Tryd.func19, Tryd.ntmps19
      go_upto_region 1 with fail
      generalize w.alloc (.cells #[.int .i64 (m : Int), .int .i64 a, .int .i64 b] 28) = w1 at *
      obtain ⟨k0, k1, k2⟩ := bx3 X1.out
      go_upto_region 2 with (go_at_call 16; refine (EF.out _ _ T1.out).mono ?_; rintro e w2 ⟨rfl, hB⟩; have B2 := hid (below_on B1.out hB); have T2 := hid (T1.out.on hB); have X2 := hid (X1.out.on hB); have H2 := hid (H1.out.on hB); clear hB EF)
      clear k0 k1 k2 T1 X1 H1 B1
      obtain ⟨k0, k1, k2⟩ := bx3 X2.out
      have hc := HC.out w2 H2.out
      have G1 := hid (GN.out hs (i + 1) (h - t + pp) w2 hn hi q H2.out)
      rw [show ((i + 1 : Nat) : Int) = (i : Int) + 1 by omega] at G1
      clear GS GN HC
      go_wp2_with (go_at_call 28; refine G1.out.mono ?_; rintro e w4 ⟨rfl, rfl⟩)
      go_ret
      exact ⟨rfl, Re.Kp.of B2.out⟩
    · have hw3 := beq_false_of_ne hw
      subst ha
      obtain ⟨A, rfl⟩ : ∃ A : Nat, a = (A : Int) := ⟨a.toNat, by have := (hA rfl).1; omega⟩
      have Ai : (A : Int) < (n : Int) := (hA rfl).2
      have An : A < n := by omega
      rw [Int.toNat_natCast] at q2
      go_enter Tryd.func19, Tryd.ntmps19
      go_upto_region 1 with fail
      generalize w.alloc (.cells #[.int .i64 (m : Int), .int .i64 (A : Int), .int .i64 b] 28) = w1 at *
      obtain ⟨k0, k1, k2⟩ := bx3 X1.out
      go_upto_region 2 with (go_at_call 16; refine (EF.out _ _ T1.out).mono ?_; rintro e w2 ⟨rfl, hB⟩; have B2 := hid (below_on B1.out hB); have T2 := hid (T1.out.on hB); have X2 := hid (X1.out.on hB); have H2 := hid (H1.out.on hB); clear hB EF)
      clear k0 k1 k2 T1 X1 H1 B1
      obtain ⟨k0, k1, k2⟩ := bx3 X2.out
      have hc := HC.out w2 H2.out
      have G1 := hid (GS.out hs (i + 1) (h - t + pp) h2 w2 hn hi q1 H2.out)
      rw [show ((i + 1 : Nat) : Int) = (i : Int) + 1 by omega] at G1
      go_upto_region 7 with (go_at_call 28; refine G1.out.mono ?_; rintro e w4 ⟨rfl, g1, g2⟩; have K4 := hid g2; have H4 := hid g1; clear g1 g2 G1)
      have X4 := hid (Bx.kp X2.out K4.out (fun e : w.heap.size = g => by omega))
      have T4 : Hid (Cd.TB w4 tb) := (Bx.kp (show Bx _ _ _ _ from T2.out) K4.out htg)
      have l2 := (Cd.gv_len q1).trans hn
      have S7 : Hid (∀ W, Re.Kp (fun b => b = g) w4 W → W.cell? ⟨w.heap.size, 0, none⟩ = some (.int .i64 (m : Int)) ∧ W.cell? ⟨w.heap.size, 1, none⟩ = some (.int .i64 (A : Int)) ∧ W.cell? ⟨tb, m * 5 + 1, none⟩ = some (.int .i64 3)) := fun W hW => by
        obtain ⟨e0, e1, e2⟩ := bx3 (Bx.kp X4.out hW (fun e : w.heap.size = g => by omega))
        exact ⟨e0, e1, TX.out W (Bx.kp (show Bx _ _ _ _ from T4.out) hW htg)⟩
      have K0 : Hid (Re.Kp (fun b => b = g) w4 w4.drew) := Re.Kp.of (Below.drew (Below.refl _ _))
      have G2 := hid (GN.out h2 A (h - t + pp) w4.drew l2 An q2 H4.out)
      clear GS GN HC TX
      go_upto_region 7 with fail
      clear k0 k1 k2
      go_region_held3 (fun W => W.cell? ⟨w.heap.size, 0, none⟩ = some (.int .i64 (m : Int)) ∧ W.cell? ⟨w.heap.size, 1, none⟩ = some (.int .i64 (A : Int)) ∧ W.cell? ⟨tb, m * 5 + 1, none⟩ = some (.int .i64 3)) (first | (with_reducible exact S7.out _ K1.out) | (with_reducible exact S7.out _ K0.out)) (first | (go_at_call 28; with_reducible refine G2.out.mono ?_; rintro e w5 ⟨rfl, rfl⟩; have K1 := hid K0.out))
      all_goals
        go_wp2_with fail
        go_ret
        exact ⟨rfl, ((Re.Kp.of B2.out).trans K4.out).trans K1.out⟩
end Go.Proofs.YtnobafmleellhabDoor
