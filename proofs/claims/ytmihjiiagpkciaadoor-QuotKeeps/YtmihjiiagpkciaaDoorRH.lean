/-
  Texts put together: QKf1, QKg, OpenList, OpenPairs, QKh.
-/
import Derived.Test.YtmihjiiagpkciaaDoorRG
import Derived.Test.YtmihjiiagpkciaaDoorMem
import Derived.SizedLaws
import Derived.ProofKit
namespace Go.Proofs.YtmihjiiagpkciaaDoor
open Go Go.RowKit Go.Deep

theorem bel_onQ1 {a b c : World} (h : Below a.heap.size a b) (k : Below b.heap.size b c) : Below a.heap.size a c := h.trans (k.mono h.size)

namespace Qk
set_option maxRecDepth 100000 in
set_option maxHeartbeats 16000000 in
theorem asked_cons (p q r s : Option Addr) (n1 c1 n2 c2 n3 c3 n4 c4 : Nat) (za zb : List Int) (k : Int) (w : World) (ha : Arg w p n1 c1 za) (hb : Arg w q n2 c2 zb) (hc : Arg w r n3 c3 (Nm.trim za)) (hd : Arg w s n4 c4 (Nm.trim zb)) (hT : Tab w) (hk : k ≤ 9223372036854775807) (h4 : 0 < n4) :
    Calls Tryd.prog 8 #[.slice p n1 c1, .slice q n2 c2, .int .i64 k, .slice r n3 c3, .slice s n4 c4] w fun e w' => ∃ g L, e = .returned (.tuple #[.slice (some ⟨g, 0, none⟩) 7 7, .bool true]) ∧ Seven w.heap.size g w' L ∧ Below w.heap.size w w' := by
  obtain ⟨Ed, Tq, Tr, k1, l1⟩ := div_both za zb ha.2.2.2.2 hb.2.2.2.2
  obtain ⟨En, Tn, k2, l2⟩ := near_both za zb ha.2.2.2.2 hb.2.2.2.2
  obtain ⟨Ep, Tp, k3, l3⟩ := pow_both za ha.2.2.2.2 k hk
  obtain ⟨Ev, Tv, k4, l4⟩ := five_both k hk
  obtain ⟨Et, Tt, k5, l5⟩ := ten_both k hk
  obtain ⟨Er, To, fo, k6, l6⟩ := root_both za ha.2.2.2.2
  have hlen : 0 < (Nm.trim zb).length := by rw [hd.1]; exact h4
  obtain ⟨b, hbb⟩ : ∃ b, (Nm.trim zb).getD 0 0 = b := ⟨_, rfl⟩
  have b1 := hd.2.2.2.2.at 0
  rw [hbb] at b1
  obtain ⟨bs, os, rfl, cd0⟩ : ∃ bs os, s = some ⟨bs, os, none⟩ ∧ w.cell? ⟨bs, os, none⟩ = some (.int .u64 b) := by
    rcases hd.2.2.2.1 with z | ⟨bs, os, hp, hcc⟩
    · rw [z] at hlen; simp at hlen
    · exact ⟨bs, os, hp, by have := hcc 0 hlen; rw [hbb] at this; exact this⟩
  have CX := hid cd0
  obtain ⟨xl, El, k7, l7⟩ := log_both za ha.2.2.2.2 b b1.2
  have n4i : (0 : Int) < (n4 : Int) := by omega
  clear hlen hbb b1 cd0 h4
  have K1 := hid k1
  have L1 := hid l1
  have K2 := hid k2
  have L2 := hid l2
  have K3 := hid k3
  have L3 := hid l3
  have K4 := hid k4
  have L4 := hid l4
  have K5 := hid k5
  have L5 := hid l5
  have K6 := hid k6
  have L6 := hid l6
  have K7 := hid k7
  have L7 := hid l7
  have A0 := hid ha
  have B0 := hid hb
  have C0 := hid hc
  have D0 := hid hd
  have T0 := hid hT
  clear k1 k2 k3 k4 k5 k6 k7 l1 l2 l3 l4 l5 l6 l7 ha hb hc hd hT hk
  go_enter Tryd.func8, Tryd.ntmps8
  go_wp2_with fail
  refine (K1.out _ _ _ _ _ _ _ A0.out B0.out).mono ?_
  rintro e w1 ⟨r1, o1, r2, o2, rfl, y, HDD, B9⟩
  have N_ := hid (A0.out.below B9 (Nat.le_refl _))
  clear A0
  have A0 := N_
  clear N_
  have N_ := hid (B0.out.below B9 (Nat.le_refl _))
  clear B0
  have B0 := N_
  clear N_
  have N_ := hid (C0.out.below B9 (Nat.le_refl _))
  clear C0
  have C0 := N_
  clear N_
  have N_ := hid (D0.out.below B9 (Nat.le_refl _))
  clear D0
  have D0 := N_
  clear N_
  have N_ := hid (T0.out.below B9)
  clear T0
  have T0 := N_
  clear N_
  have N_ := hid (cell_onQ CX.out B9)
  clear CX
  have CX := N_
  clear N_
  have U := hid B9
  have S1 := hid y.out.1
  have S2 := hid y.out.2
  have G1 := hid y.out.1.gq
  have G2 := hid y.out.2.gq
  have Z1 := hid B9.size
  clear B9 y K1
  go_wp2_with fail
  refine (K2.out _ _ _ _ _ _ _ A0.out B0.out).mono ?_
  rintro e w2 ⟨r3, o3, rfl, y, B9⟩
  have N_ := hid (A0.out.below B9 (Nat.le_refl _))
  clear A0
  have A0 := N_
  clear N_
  clear B0
  have N_ := hid (C0.out.below B9 (Nat.le_refl _))
  clear C0
  have C0 := N_
  clear N_
  have N_ := hid (D0.out.below B9 (Nat.le_refl _))
  clear D0
  have D0 := N_
  clear N_
  have N_ := hid (T0.out.below B9)
  clear T0
  have T0 := N_
  clear N_
  have N_ := hid (cell_onQ CX.out B9)
  clear CX
  have CX := N_
  clear N_
  have N_ := hid (S1.out.below B9)
  clear S1
  have S1 := N_
  clear N_
  have N_ := hid (S2.out.below B9)
  clear S2
  have S2 := N_
  clear N_
  have N_ := hid (G1.out.on B9)
  clear G1
  have G1 := N_
  clear N_
  have N_ := hid (G2.out.on B9)
  clear G2
  have G2 := N_
  clear N_
  have N_ := hid (bel_onQ1 U.out B9)
  clear U
  have U := N_
  clear N_
  have S3 := hid y.out
  have G3 := hid y.out.gq
  have Z2 := hid B9.size
  clear B9 y K2
  go_wp2_with fail
  refine (K3.out _ _ _ _ A0.out).mono ?_
  rintro e w3 ⟨r4, o4, rfl, y, B9⟩
  have N_ := hid (A0.out.below B9 (Nat.le_refl _))
  clear A0
  have A0 := N_
  clear N_
  have N_ := hid (C0.out.below B9 (Nat.le_refl _))
  clear C0
  have C0 := N_
  clear N_
  have N_ := hid (D0.out.below B9 (Nat.le_refl _))
  clear D0
  have D0 := N_
  clear N_
  have N_ := hid (T0.out.below B9)
  clear T0
  have T0 := N_
  clear N_
  have N_ := hid (cell_onQ CX.out B9)
  clear CX
  have CX := N_
  clear N_
  have N_ := hid (S1.out.below B9)
  clear S1
  have S1 := N_
  clear N_
  have N_ := hid (S2.out.below B9)
  clear S2
  have S2 := N_
  clear N_
  have N_ := hid (G1.out.on B9)
  clear G1
  have G1 := N_
  clear N_
  have N_ := hid (G2.out.on B9)
  clear G2
  have G2 := N_
  clear N_
  have N_ := hid (S3.out.below B9)
  clear S3
  have S3 := N_
  clear N_
  have N_ := hid (G3.out.on B9)
  clear G3
  have G3 := N_
  clear N_
  have N_ := hid (bel_onQ1 U.out B9)
  clear U
  have U := N_
  clear N_
  have S4 := hid y.out
  have G4 := hid y.out.gq
  have Z3 := hid B9.size
  clear B9 y K3
  go_wp2_with fail
  refine (K4.out _).mono ?_
  rintro e w4 ⟨r5, o5, rfl, y, B9⟩
  have N_ := hid (A0.out.below B9 (Nat.le_refl _))
  clear A0
  have A0 := N_
  clear N_
  have N_ := hid (C0.out.below B9 (Nat.le_refl _))
  clear C0
  have C0 := N_
  clear N_
  have N_ := hid (D0.out.below B9 (Nat.le_refl _))
  clear D0
  have D0 := N_
  clear N_
  have N_ := hid (T0.out.below B9)
  clear T0
  have T0 := N_
  clear N_
  have N_ := hid (cell_onQ CX.out B9)
  clear CX
  have CX := N_
  clear N_
  have N_ := hid (S1.out.below B9)
  clear S1
  have S1 := N_
  clear N_
  have N_ := hid (S2.out.below B9)
  clear S2
  have S2 := N_
  clear N_
  have N_ := hid (G1.out.on B9)
  clear G1
  have G1 := N_
  clear N_
  have N_ := hid (G2.out.on B9)
  clear G2
  have G2 := N_
  clear N_
  have N_ := hid (S3.out.below B9)
  clear S3
  have S3 := N_
  clear N_
  have N_ := hid (G3.out.on B9)
  clear G3
  have G3 := N_
  clear N_
  have N_ := hid (S4.out.below B9)
  clear S4
  have S4 := N_
  clear N_
  have N_ := hid (G4.out.on B9)
  clear G4
  have G4 := N_
  clear N_
  have N_ := hid (bel_onQ1 U.out B9)
  clear U
  have U := N_
  clear N_
  have S5 := hid y.out
  have G5 := hid y.out.gq
  have Z4 := hid B9.size
  clear B9 y K4
  go_wp2_with fail
  refine (K5.out _).mono ?_
  rintro e w5 ⟨r6, o6, rfl, y, B9⟩
  have N_ := hid (A0.out.below B9 (Nat.le_refl _))
  clear A0
  have A0 := N_
  clear N_
  have N_ := hid (C0.out.below B9 (Nat.le_refl _))
  clear C0
  have C0 := N_
  clear N_
  have N_ := hid (D0.out.below B9 (Nat.le_refl _))
  clear D0
  have D0 := N_
  clear N_
  have N_ := hid (T0.out.below B9)
  clear T0
  have T0 := N_
  clear N_
  have N_ := hid (cell_onQ CX.out B9)
  clear CX
  have CX := N_
  clear N_
  have N_ := hid (S1.out.below B9)
  clear S1
  have S1 := N_
  clear N_
  have N_ := hid (S2.out.below B9)
  clear S2
  have S2 := N_
  clear N_
  have N_ := hid (G1.out.on B9)
  clear G1
  have G1 := N_
  clear N_
  have N_ := hid (G2.out.on B9)
  clear G2
  have G2 := N_
  clear N_
  have N_ := hid (S3.out.below B9)
  clear S3
  have S3 := N_
  clear N_
  have N_ := hid (G3.out.on B9)
  clear G3
  have G3 := N_
  clear N_
  have N_ := hid (S4.out.below B9)
  clear S4
  have S4 := N_
  clear N_
  have N_ := hid (G4.out.on B9)
  clear G4
  have G4 := N_
  clear N_
  have N_ := hid (S5.out.below B9)
  clear S5
  have S5 := N_
  clear N_
  have N_ := hid (G5.out.on B9)
  clear G5
  have G5 := N_
  clear N_
  have N_ := hid (bel_onQ1 U.out B9)
  clear U
  have U := N_
  clear N_
  have S6 := hid y.out
  have G6 := hid y.out.gq
  have Z5 := hid B9.size
  clear B9 y K5
  have cd := CX.out
  clear CX
  go_wp2_with fail
  refine (K7.out _ _ _ _ A0.out).mono ?_
  rintro e w6 ⟨rfl, B9⟩
  have N_ := hid (A0.out.below B9 (Nat.le_refl _))
  clear A0
  have A0 := N_
  clear N_
  have N_ := hid (C0.out.below B9 (Nat.le_refl _))
  clear C0
  have C0 := N_
  clear N_
  have N_ := hid (D0.out.below B9 (Nat.le_refl _))
  clear D0
  have D0 := N_
  clear N_
  have N_ := hid (T0.out.below B9)
  clear T0
  have T0 := N_
  clear N_
  have N_ := hid (S1.out.below B9)
  clear S1
  have S1 := N_
  clear N_
  have N_ := hid (S2.out.below B9)
  clear S2
  have S2 := N_
  clear N_
  have N_ := hid (G1.out.on B9)
  clear G1
  have G1 := N_
  clear N_
  have N_ := hid (G2.out.on B9)
  clear G2
  have G2 := N_
  clear N_
  have N_ := hid (S3.out.below B9)
  clear S3
  have S3 := N_
  clear N_
  have N_ := hid (G3.out.on B9)
  clear G3
  have G3 := N_
  clear N_
  have N_ := hid (S4.out.below B9)
  clear S4
  have S4 := N_
  clear N_
  have N_ := hid (G4.out.on B9)
  clear G4
  have G4 := N_
  clear N_
  have N_ := hid (S5.out.below B9)
  clear S5
  have S5 := N_
  clear N_
  have N_ := hid (G5.out.on B9)
  clear G5
  have G5 := N_
  clear N_
  have N_ := hid (S6.out.below B9)
  clear S6
  have S6 := N_
  clear N_
  have N_ := hid (G6.out.on B9)
  clear G6
  have G6 := N_
  clear N_
  have N_ := hid (bel_onQ1 U.out B9)
  clear U
  have U := N_
  clear N_
  have Z6 := hid B9.size
  clear B9 K7 cd
  go_wp2_with fail
  refine (K6.out _ _ _ _ T0.out A0.out).mono ?_
  rintro e w7 ⟨r7, o7, rfl, y, B9⟩
  clear A0
  have N_ := hid (C0.out.below B9 (Nat.le_refl _))
  clear C0
  have C0 := N_
  clear N_
  have N_ := hid (D0.out.below B9 (Nat.le_refl _))
  clear D0
  have D0 := N_
  clear N_
  clear T0
  have N_ := hid (S1.out.below B9)
  clear S1
  have S1 := N_
  clear N_
  have N_ := hid (S2.out.below B9)
  clear S2
  have S2 := N_
  clear N_
  have N_ := hid (G1.out.on B9)
  clear G1
  have G1 := N_
  clear N_
  have N_ := hid (G2.out.on B9)
  clear G2
  have G2 := N_
  clear N_
  have N_ := hid (S3.out.below B9)
  clear S3
  have S3 := N_
  clear N_
  have N_ := hid (G3.out.on B9)
  clear G3
  have G3 := N_
  clear N_
  have N_ := hid (S4.out.below B9)
  clear S4
  have S4 := N_
  clear N_
  have N_ := hid (G4.out.on B9)
  clear G4
  have G4 := N_
  clear N_
  have N_ := hid (S5.out.below B9)
  clear S5
  have S5 := N_
  clear N_
  have N_ := hid (G5.out.on B9)
  clear G5
  have G5 := N_
  clear N_
  have N_ := hid (S6.out.below B9)
  clear S6
  have S6 := N_
  clear N_
  have N_ := hid (G6.out.on B9)
  clear G6
  have G6 := N_
  clear N_
  have N_ := hid (bel_onQ1 U.out B9)
  clear U
  have U := N_
  clear N_
  have S7 := hid y.out
  have G7 := hid y.out.gq
  have Z7 := hid B9.size
  clear B9 y K6
  have SV := hid (seven (s0 := w.heap.size) G1.out G2.out HDD.out G3.out G4.out G5.out (G6.out.up Z6.out) (s5 := w6.heap.size) G7.out (Nat.le_refl _) Z1.out Z2.out Z3.out Z4.out (Nat.le_trans Z5.out Z6.out) Z7.out (Nat.le_refl _))
  have B9 := alloc_b2 w7 (.cells #[.slice r1 o1.length o1.length, .slice r2 o2.length o2.length, .slice r3 o3.length o3.length, .slice r4 o4.length o4.length, .slice r5 o5.length o5.length, .slice r6 o6.length o6.length, .slice r7 o7.length o7.length] 24)
  have N_ := hid (C0.out.below B9 (Nat.le_refl _))
  clear C0
  have C0 := N_
  clear N_
  have N_ := hid (D0.out.below B9 (Nat.le_refl _))
  clear D0
  have D0 := N_
  clear N_
  have N_ := hid (S1.out.below B9)
  clear S1
  have S1 := N_
  clear N_
  have N_ := hid (S2.out.below B9)
  clear S2
  have S2 := N_
  clear N_
  have N_ := hid (S3.out.below B9)
  clear S3
  have S3 := N_
  clear N_
  have N_ := hid (S4.out.below B9)
  clear S4
  have S4 := N_
  clear N_
  have N_ := hid (S5.out.below B9)
  clear S5
  have S5 := N_
  clear N_
  have N_ := hid (S6.out.below B9)
  clear S6
  have S6 := N_
  clear N_
  have N_ := hid (S7.out.below B9)
  clear S7
  have S7 := N_
  clear N_
  have N_ := hid (bel_onQ1 U.out B9)
  clear U
  have U := N_
  clear N_
  clear B9 G1 G2 G3 G4 G5 G6 G7 HDD Z1 Z2 Z3 Z4 Z5 Z6 Z7
  go_wp2_with fail
  refine (L1.out _ _ _ _ _ _ _ C0.out D0.out).mono ?_
  rintro e w8 ⟨t1, u1, t2, u2, rfl, y, B9⟩
  have N_ := hid (C0.out.below B9 (Nat.le_refl _))
  clear C0
  have C0 := N_
  clear N_
  have N_ := hid (D0.out.below B9 (Nat.le_refl _))
  clear D0
  have D0 := N_
  clear N_
  have N_ := hid (S1.out.below B9)
  clear S1
  have S1 := N_
  clear N_
  have N_ := hid (S2.out.below B9)
  clear S2
  have S2 := N_
  clear N_
  have N_ := hid (S3.out.below B9)
  clear S3
  have S3 := N_
  clear N_
  have N_ := hid (S4.out.below B9)
  clear S4
  have S4 := N_
  clear N_
  have N_ := hid (S5.out.below B9)
  clear S5
  have S5 := N_
  clear N_
  have N_ := hid (S6.out.below B9)
  clear S6
  have S6 := N_
  clear N_
  have N_ := hid (S7.out.below B9)
  clear S7
  have S7 := N_
  clear N_
  have N_ := hid (SV.out.on B9)
  clear SV
  have SV := N_
  clear N_
  have N_ := hid (bel_onQ1 U.out B9)
  clear U
  have U := N_
  clear N_
  have R1 := hid y.out.1
  have R2 := hid y.out.2
  clear B9 y L1
  go_wp2_with fail
  refine (L2.out _ _ _ _ _ _ _ C0.out D0.out).mono ?_
  rintro e w9 ⟨t3, u3, rfl, y, B9⟩
  have N_ := hid (C0.out.below B9 (Nat.le_refl _))
  clear C0
  have C0 := N_
  clear N_
  clear D0
  have N_ := hid (S1.out.below B9)
  clear S1
  have S1 := N_
  clear N_
  have N_ := hid (S2.out.below B9)
  clear S2
  have S2 := N_
  clear N_
  have N_ := hid (S3.out.below B9)
  clear S3
  have S3 := N_
  clear N_
  have N_ := hid (S4.out.below B9)
  clear S4
  have S4 := N_
  clear N_
  have N_ := hid (S5.out.below B9)
  clear S5
  have S5 := N_
  clear N_
  have N_ := hid (S6.out.below B9)
  clear S6
  have S6 := N_
  clear N_
  have N_ := hid (S7.out.below B9)
  clear S7
  have S7 := N_
  clear N_
  have N_ := hid (SV.out.on B9)
  clear SV
  have SV := N_
  clear N_
  have N_ := hid (R1.out.below B9)
  clear R1
  have R1 := N_
  clear N_
  have N_ := hid (R2.out.below B9)
  clear R2
  have R2 := N_
  clear N_
  have N_ := hid (bel_onQ1 U.out B9)
  clear U
  have U := N_
  clear N_
  have R3 := hid y.out
  clear B9 y L2
  go_wp2_with fail
  refine (L3.out _ _ _ _ C0.out).mono ?_
  rintro e w10 ⟨t4, u4, rfl, y, B9⟩
  have N_ := hid (C0.out.below B9 (Nat.le_refl _))
  clear C0
  have C0 := N_
  clear N_
  have N_ := hid (S1.out.below B9)
  clear S1
  have S1 := N_
  clear N_
  have N_ := hid (S2.out.below B9)
  clear S2
  have S2 := N_
  clear N_
  have N_ := hid (S3.out.below B9)
  clear S3
  have S3 := N_
  clear N_
  have N_ := hid (S4.out.below B9)
  clear S4
  have S4 := N_
  clear N_
  have N_ := hid (S5.out.below B9)
  clear S5
  have S5 := N_
  clear N_
  have N_ := hid (S6.out.below B9)
  clear S6
  have S6 := N_
  clear N_
  have N_ := hid (S7.out.below B9)
  clear S7
  have S7 := N_
  clear N_
  have N_ := hid (SV.out.on B9)
  clear SV
  have SV := N_
  clear N_
  have N_ := hid (R1.out.below B9)
  clear R1
  have R1 := N_
  clear N_
  have N_ := hid (R2.out.below B9)
  clear R2
  have R2 := N_
  clear N_
  have N_ := hid (R3.out.below B9)
  clear R3
  have R3 := N_
  clear N_
  have N_ := hid (bel_onQ1 U.out B9)
  clear U
  have U := N_
  clear N_
  have R4 := hid y.out
  clear B9 y L3
  go_wp2_with fail
  refine (L4.out _).mono ?_
  rintro e w11 ⟨t5, u5, rfl, y, B9⟩
  have N_ := hid (C0.out.below B9 (Nat.le_refl _))
  clear C0
  have C0 := N_
  clear N_
  have N_ := hid (S1.out.below B9)
  clear S1
  have S1 := N_
  clear N_
  have N_ := hid (S2.out.below B9)
  clear S2
  have S2 := N_
  clear N_
  have N_ := hid (S3.out.below B9)
  clear S3
  have S3 := N_
  clear N_
  have N_ := hid (S4.out.below B9)
  clear S4
  have S4 := N_
  clear N_
  have N_ := hid (S5.out.below B9)
  clear S5
  have S5 := N_
  clear N_
  have N_ := hid (S6.out.below B9)
  clear S6
  have S6 := N_
  clear N_
  have N_ := hid (S7.out.below B9)
  clear S7
  have S7 := N_
  clear N_
  have N_ := hid (SV.out.on B9)
  clear SV
  have SV := N_
  clear N_
  have N_ := hid (R1.out.below B9)
  clear R1
  have R1 := N_
  clear N_
  have N_ := hid (R2.out.below B9)
  clear R2
  have R2 := N_
  clear N_
  have N_ := hid (R3.out.below B9)
  clear R3
  have R3 := N_
  clear N_
  have N_ := hid (R4.out.below B9)
  clear R4
  have R4 := N_
  clear N_
  have N_ := hid (bel_onQ1 U.out B9)
  clear U
  have U := N_
  clear N_
  have R5 := hid y.out
  clear B9 y L4
  go_wp2_with fail
  refine (L5.out _).mono ?_
  rintro e w12 ⟨t6, u6, rfl, y, B9⟩
  have N_ := hid (C0.out.below B9 (Nat.le_refl _))
  clear C0
  have C0 := N_
  clear N_
  have N_ := hid (S1.out.below B9)
  clear S1
  have S1 := N_
  clear N_
  have N_ := hid (S2.out.below B9)
  clear S2
  have S2 := N_
  clear N_
  have N_ := hid (S3.out.below B9)
  clear S3
  have S3 := N_
  clear N_
  have N_ := hid (S4.out.below B9)
  clear S4
  have S4 := N_
  clear N_
  have N_ := hid (S5.out.below B9)
  clear S5
  have S5 := N_
  clear N_
  have N_ := hid (S6.out.below B9)
  clear S6
  have S6 := N_
  clear N_
  have N_ := hid (S7.out.below B9)
  clear S7
  have S7 := N_
  clear N_
  have N_ := hid (SV.out.on B9)
  clear SV
  have SV := N_
  clear N_
  have N_ := hid (R1.out.below B9)
  clear R1
  have R1 := N_
  clear N_
  have N_ := hid (R2.out.below B9)
  clear R2
  have R2 := N_
  clear N_
  have N_ := hid (R3.out.below B9)
  clear R3
  have R3 := N_
  clear N_
  have N_ := hid (R4.out.below B9)
  clear R4
  have R4 := N_
  clear N_
  have N_ := hid (R5.out.below B9)
  clear R5
  have R5 := N_
  clear N_
  have N_ := hid (bel_onQ1 U.out B9)
  clear U
  have U := N_
  clear N_
  have R6 := hid y.out
  clear B9 y L5
  go_wp2_with fail
  refine (L6.out _ _ _ _ C0.out).mono ?_
  rintro e w13 ⟨t7, u7, rfl, y, B9⟩
  have N_ := hid (C0.out.below B9 (Nat.le_refl _))
  clear C0
  have C0 := N_
  clear N_
  have N_ := hid (S1.out.below B9)
  clear S1
  have S1 := N_
  clear N_
  have N_ := hid (S2.out.below B9)
  clear S2
  have S2 := N_
  clear N_
  have N_ := hid (S3.out.below B9)
  clear S3
  have S3 := N_
  clear N_
  have N_ := hid (S4.out.below B9)
  clear S4
  have S4 := N_
  clear N_
  have N_ := hid (S5.out.below B9)
  clear S5
  have S5 := N_
  clear N_
  have N_ := hid (S6.out.below B9)
  clear S6
  have S6 := N_
  clear N_
  have N_ := hid (S7.out.below B9)
  clear S7
  have S7 := N_
  clear N_
  have N_ := hid (SV.out.on B9)
  clear SV
  have SV := N_
  clear N_
  have N_ := hid (R1.out.below B9)
  clear R1
  have R1 := N_
  clear N_
  have N_ := hid (R2.out.below B9)
  clear R2
  have R2 := N_
  clear N_
  have N_ := hid (R3.out.below B9)
  clear R3
  have R3 := N_
  clear N_
  have N_ := hid (R4.out.below B9)
  clear R4
  have R4 := N_
  clear N_
  have N_ := hid (R5.out.below B9)
  clear R5
  have R5 := N_
  clear N_
  have N_ := hid (R6.out.below B9)
  clear R6
  have R6 := N_
  clear N_
  have N_ := hid (bel_onQ1 U.out B9)
  clear U
  have U := N_
  clear N_
  have R7 := hid y.out
  clear B9 y L6
  go_wp2_with fail
  refine (L7.out _ _ _ _ C0.out).mono ?_
  rintro e w14 ⟨rfl, B9⟩
  clear C0
  have N_ := hid (S1.out.below B9)
  clear S1
  have S1 := N_
  clear N_
  have N_ := hid (S2.out.below B9)
  clear S2
  have S2 := N_
  clear N_
  have N_ := hid (S3.out.below B9)
  clear S3
  have S3 := N_
  clear N_
  have N_ := hid (S4.out.below B9)
  clear S4
  have S4 := N_
  clear N_
  have N_ := hid (S5.out.below B9)
  clear S5
  have S5 := N_
  clear N_
  have N_ := hid (S6.out.below B9)
  clear S6
  have S6 := N_
  clear N_
  have N_ := hid (S7.out.below B9)
  clear S7
  have S7 := N_
  clear N_
  have N_ := hid (SV.out.on B9)
  clear SV
  have SV := N_
  clear N_
  have N_ := hid (R1.out.below B9)
  clear R1
  have R1 := N_
  clear N_
  have N_ := hid (R2.out.below B9)
  clear R2
  have R2 := N_
  clear N_
  have N_ := hid (R3.out.below B9)
  clear R3
  have R3 := N_
  clear N_
  have N_ := hid (R4.out.below B9)
  clear R4
  have R4 := N_
  clear N_
  have N_ := hid (R5.out.below B9)
  clear R5
  have R5 := N_
  clear N_
  have N_ := hid (R6.out.below B9)
  clear R6
  have R6 := N_
  clear N_
  have N_ := hid (R7.out.below B9)
  clear R7
  have R7 := N_
  clear N_
  have N_ := hid (bel_onQ1 U.out B9)
  clear U
  have U := N_
  clear N_
  clear B9 L7
  go_wp2_with fail
  refine (sy_alike S1.out R1.out).mono ?_
  rintro e w15 ⟨rfl, B9⟩
  clear S1
  have N_ := hid (S2.out.below B9)
  clear S2
  have S2 := N_
  clear N_
  have N_ := hid (S3.out.below B9)
  clear S3
  have S3 := N_
  clear N_
  have N_ := hid (S4.out.below B9)
  clear S4
  have S4 := N_
  clear N_
  have N_ := hid (S5.out.below B9)
  clear S5
  have S5 := N_
  clear N_
  have N_ := hid (S6.out.below B9)
  clear S6
  have S6 := N_
  clear N_
  have N_ := hid (S7.out.below B9)
  clear S7
  have S7 := N_
  clear N_
  have N_ := hid (SV.out.on B9)
  clear SV
  have SV := N_
  clear N_
  clear R1
  have N_ := hid (R2.out.below B9)
  clear R2
  have R2 := N_
  clear N_
  have N_ := hid (R3.out.below B9)
  clear R3
  have R3 := N_
  clear N_
  have N_ := hid (R4.out.below B9)
  clear R4
  have R4 := N_
  clear N_
  have N_ := hid (R5.out.below B9)
  clear R5
  have R5 := N_
  clear N_
  have N_ := hid (R6.out.below B9)
  clear R6
  have R6 := N_
  clear N_
  have N_ := hid (R7.out.below B9)
  clear R7
  have R7 := N_
  clear N_
  have N_ := hid (bel_onQ1 U.out B9)
  clear U
  have U := N_
  clear N_
  clear B9
  go_wp2_with fail
  refine (sy_alike S2.out R2.out).mono ?_
  rintro e w16 ⟨rfl, B9⟩
  clear S2
  have N_ := hid (S3.out.below B9)
  clear S3
  have S3 := N_
  clear N_
  have N_ := hid (S4.out.below B9)
  clear S4
  have S4 := N_
  clear N_
  have N_ := hid (S5.out.below B9)
  clear S5
  have S5 := N_
  clear N_
  have N_ := hid (S6.out.below B9)
  clear S6
  have S6 := N_
  clear N_
  have N_ := hid (S7.out.below B9)
  clear S7
  have S7 := N_
  clear N_
  have N_ := hid (SV.out.on B9)
  clear SV
  have SV := N_
  clear N_
  clear R2
  have N_ := hid (R3.out.below B9)
  clear R3
  have R3 := N_
  clear N_
  have N_ := hid (R4.out.below B9)
  clear R4
  have R4 := N_
  clear N_
  have N_ := hid (R5.out.below B9)
  clear R5
  have R5 := N_
  clear N_
  have N_ := hid (R6.out.below B9)
  clear R6
  have R6 := N_
  clear N_
  have N_ := hid (R7.out.below B9)
  clear R7
  have R7 := N_
  clear N_
  have N_ := hid (bel_onQ1 U.out B9)
  clear U
  have U := N_
  clear N_
  clear B9
  go_wp2_with fail
  refine (sy_alike S3.out R3.out).mono ?_
  rintro e w17 ⟨rfl, B9⟩
  clear S3
  have N_ := hid (S4.out.below B9)
  clear S4
  have S4 := N_
  clear N_
  have N_ := hid (S5.out.below B9)
  clear S5
  have S5 := N_
  clear N_
  have N_ := hid (S6.out.below B9)
  clear S6
  have S6 := N_
  clear N_
  have N_ := hid (S7.out.below B9)
  clear S7
  have S7 := N_
  clear N_
  have N_ := hid (SV.out.on B9)
  clear SV
  have SV := N_
  clear N_
  clear R3
  have N_ := hid (R4.out.below B9)
  clear R4
  have R4 := N_
  clear N_
  have N_ := hid (R5.out.below B9)
  clear R5
  have R5 := N_
  clear N_
  have N_ := hid (R6.out.below B9)
  clear R6
  have R6 := N_
  clear N_
  have N_ := hid (R7.out.below B9)
  clear R7
  have R7 := N_
  clear N_
  have N_ := hid (bel_onQ1 U.out B9)
  clear U
  have U := N_
  clear N_
  clear B9
  go_wp2_with fail
  refine (sy_alike S4.out R4.out).mono ?_
  rintro e w18 ⟨rfl, B9⟩
  clear S4
  have N_ := hid (S5.out.below B9)
  clear S5
  have S5 := N_
  clear N_
  have N_ := hid (S6.out.below B9)
  clear S6
  have S6 := N_
  clear N_
  have N_ := hid (S7.out.below B9)
  clear S7
  have S7 := N_
  clear N_
  have N_ := hid (SV.out.on B9)
  clear SV
  have SV := N_
  clear N_
  clear R4
  have N_ := hid (R5.out.below B9)
  clear R5
  have R5 := N_
  clear N_
  have N_ := hid (R6.out.below B9)
  clear R6
  have R6 := N_
  clear N_
  have N_ := hid (R7.out.below B9)
  clear R7
  have R7 := N_
  clear N_
  have N_ := hid (bel_onQ1 U.out B9)
  clear U
  have U := N_
  clear N_
  clear B9
  go_wp2_with fail
  refine (sy_alike S5.out R5.out).mono ?_
  rintro e w19 ⟨rfl, B9⟩
  clear S5
  have N_ := hid (S6.out.below B9)
  clear S6
  have S6 := N_
  clear N_
  have N_ := hid (S7.out.below B9)
  clear S7
  have S7 := N_
  clear N_
  have N_ := hid (SV.out.on B9)
  clear SV
  have SV := N_
  clear N_
  clear R5
  have N_ := hid (R6.out.below B9)
  clear R6
  have R6 := N_
  clear N_
  have N_ := hid (R7.out.below B9)
  clear R7
  have R7 := N_
  clear N_
  have N_ := hid (bel_onQ1 U.out B9)
  clear U
  have U := N_
  clear N_
  clear B9
  go_wp2_with fail
  refine (sy_alike S6.out R6.out).mono ?_
  rintro e w20 ⟨rfl, B9⟩
  clear S6
  have N_ := hid (S7.out.below B9)
  clear S7
  have S7 := N_
  clear N_
  have N_ := hid (SV.out.on B9)
  clear SV
  have SV := N_
  clear N_
  clear R6
  have N_ := hid (R7.out.below B9)
  clear R7
  have R7 := N_
  clear N_
  have N_ := hid (bel_onQ1 U.out B9)
  clear U
  have U := N_
  clear N_
  clear B9
  go_wp2_with fail
  refine (sy_alike S7.out R7.out).mono ?_
  rintro e w21 ⟨rfl, B9⟩
  clear S7
  have N_ := hid (SV.out.on B9)
  clear SV
  have SV := N_
  clear N_
  clear R7
  have N_ := hid (bel_onQ1 U.out B9)
  clear U
  have U := N_
  clear N_
  clear B9
  go_wp2_with fail
  go_ret2
  exact ⟨_, _, rfl, SV.out, U.out⟩
end Qk
end Go.Proofs.YtmihjiiagpkciaaDoor

namespace Go.Proofs.YtmihjiiagpkciaaDoor
open Go Go.RowKit Go.Deep

namespace Qk
theorem asked_any (p q r s : Option Addr) (n1 c1 n2 c2 n3 c3 n4 c4 : Nat) (za zb : List Int) (k : Int) (w : World) (ha : Arg w p n1 c1 za) (hb : Arg w q n2 c2 zb) (hc : Arg w r n3 c3 (Nm.trim za)) (hd : Arg w s n4 c4 (Nm.trim zb)) (hT : Tab w) (hk : k ≤ 9223372036854775807) :
    Calls Tryd.prog 8 #[.slice p n1 c1, .slice q n2 c2, .int .i64 k, .slice r n3 c3, .slice s n4 c4] w fun e w' => ∃ g L, e = .returned (.tuple #[.slice (some ⟨g, 0, none⟩) 7 7, .bool true]) ∧ Seven w.heap.size g w' L ∧ Below w.heap.size w w' := by
  rcases Nat.eq_zero_or_pos n4 with h | h
  · exact asked_nil p q r s n1 c1 n2 c2 n3 c3 n4 c4 za zb k w ha hb hc hd hT hk h
  · exact asked_cons p q r s n1 c1 n2 c2 n3 c3 n4 c4 za zb k w ha hb hc hd hT hk h
theorem fl_v1 (l : List Sl) : Re.fl v1 l = l.map (fun x => Value.slice x.p x.n x.c) := by
  induction l with
  | nil => rfl
  | cons x l ih => rw [Re.fl, List.flatMap_cons, ← Re.fl, ih]; rfl
/-- A row of slices is put behind a row of our own. -/
theorem app_row {B g m : Nat} {w : World} {mv : Value} {D N : List Sl} (ho : Re.Ow v1 24 1 B w mv D) (hN : Bx w g 24 (N.map (fun x => Value.slice x.p x.n x.c)).toArray) (hm : N.length = m) (hn : D.length + m ≤ 4000000000000) (hb : B ≤ w.heap.size) :
    ∃ mv' w', (Builtin.append_ #[27, 27] 27 #[mv, .slice (some ⟨g, 0, none⟩) m m]).run Tryd.prog w = .ok mv' w' ∧ Re.Ow v1 24 1 B w' mv' (D ++ N) ∧ Below B w w' ∧ Keep (fun b => mv.ownBlock = some b) w w' ∧ (∀ b, mv'.ownBlock = some b → mv.ownBlock = some b ∨ w.heap.size ≤ b) := by
  obtain ⟨i, hi, hz⟩ := Option.map_eq_some_iff.1 info_u64s
  simp only [Prod.mk.injEq] at hz
  obtain ⟨z1, z2, z3⟩ := hz
  have fN := fl_v1 N
  have lN : (Re.fl v1 N).length = m := by rw [fN, List.length_map, hm]
  have hcell : ∀ j u, (Re.fl v1 N)[j]? = some u → w.cell? ((⟨g, 0, none⟩ : Addr).add j) = some u := by
    intro j u hu
    rw [fN] at hu
    rw [Go.WideShapes.add_plain, Nat.zero_add]
    simp only [Bx] at hN
    simp only [World.cell?, hN, List.getElem?_toArray]
    exact hu
  have h1 : ∀ u ∈ Re.fl v1 N, u.oneCell' = true := fun u hu => by
    rw [fN] at hu
    obtain ⟨x, _, rfl⟩ := List.mem_map.1 hu
    rfl
  obtain ⟨mv', w', hr, o1, o2, _⟩ := run_append_own (P := Tryd.prog) w B 27 27 24 i (.slice none 0 0) 1 24 Tryd.underlying27 hi z1 z2 z3 rfl (by omega) mv D.length (Re.fl v1 D) ho
    ⟨g, 0, none⟩ m m (Re.fl v1 N) (by rw [lN, Nat.mul_one]) hcell h1 (by simp only [maxLen]; omega) (by omega) hb
  have K : Keep (fun b => mv.ownBlock = some b) w w' := ⟨o2.os, o2.tape, o2.output, o2.size, fun j hj hs => o2.block j hj (fun q => hs q.symm)⟩
  refine ⟨mv', w', hr, ?_, K.below (fun b hbb => (ow_lt ho hbb).1) hb, K, fun b hbb => ?_⟩
  · have e : Re.fl v1 (D ++ N) = Re.fl v1 D ++ Re.fl v1 N := by simp [Re.fl]
    unfold Re.Ow
    rw [e, List.length_append, hm]
    exact o1
  · rcases ho.2 with ⟨rfl, h0⟩ | ⟨g', cap, cur, rfl, hbg, hgg, hnc, hcm, hcs, htake⟩
    · obtain ⟨v2, w2, r2, p2, _, _⟩ := run_append_own (P := Tryd.prog) w w.heap.size 27 27 24 i (.slice none 0 0) 1 24 Tryd.underlying27 hi z1 z2 z3 rfl (by omega) (.slice none 0 0) 0 [] (World.ownsRow_nil _ _ _ _)
        ⟨g, 0, none⟩ m m (Re.fl v1 N) (by rw [lN, Nat.mul_one]) hcell h1 (by simp only [maxLen]; omega) (by omega) (Nat.le_refl _)
      rw [hr] at r2
      obtain ⟨rfl, rfl⟩ : mv' = v2 ∧ w' = w2 := by injection r2 with a b; exact ⟨a, b⟩
      exact .inr (p2.lt b hbb).1
    · by_cases hroom : D.length + m ≤ cap
      · have hq := run_append_room (P := Tryd.prog) w 27 27 24 i Tryd.underlying27 hi g' D.length cap cur hgg ⟨g, 0, none⟩ m m (Re.fl v1 N) (by rw [z2, lN, Nat.mul_one]) hcell h1 hroom (by rw [z2, hcs, lN]; omega)
        rw [hr] at hq
        injection hq with a b
        rw [a] at hbb
        exact .inl hbb
      · have hq := run_append_grow (P := Tryd.prog) w 27 27 24 i (.slice none 0 0) Tryd.underlying27 hi z1 ⟨g', 0, none⟩ D.length cap (Re.fl v1 D) (by rw [z2]; exact Re.fl_len v1_len D) (World.ownsRow.cells ho (g := g') rfl) ⟨g, 0, none⟩ m m (Re.fl v1 N) (by rw [z2, lN, Nat.mul_one]) hcell (by omega) (by omega) (growslice_fits (by omega) (by rw [z3]; omega))
        rw [hr] at hq
        injection hq with a b
        rw [a] at hbb
        simp only [Value.ownBlock, Option.some.injEq] at hbb
        right
        omega
theorem Ro.tu {w : World} {g n : Nat} {zs ys : List Int} (h : Ro w g n zs ys n 70) (hz : zs.length = n) (hl : Nm.Limbs zs) : Tu w w g n ys := by
  have e : ys.take n = zs := by
    refine List.ext_getElem? fun i => ?_
    have l := h.len
    rcases Nat.lt_or_ge i n with q | q
    · have := h.eq i q
      rw [List.getElem?_take_of_lt q]
      rw [List.getD, List.getD, List.getElem?_eq_getElem (by omega), List.getElem?_eq_getElem (by omega)] at this
      rw [List.getElem?_eq_getElem (by omega), List.getElem?_eq_getElem (by omega)]
      exact congrArg some this
    · rw [List.getElem?_eq_none (by rw [List.length_take]; omega), List.getElem?_eq_none (by omega)]
  exact ⟨h.own, h.len, h.sp, by rw [e]; exact hl, Keep.refl _ _⟩
theorem Tu.here {w0 w : World} {g n : Nat} {ys : List Int} (h : Tu w0 w g n ys) : Tu w w g n ys := ⟨h.own, h.len, h.sp, h.lim, Keep.refl _ _⟩
theorem Tu.ro {w0 w : World} {g n : Nat} {ys : List Int} (h : Tu w0 w g n ys) : Ro w g n ys ys n 70 := ⟨h.own, h.len, fun _ _ => rfl, h.sp⟩
theorem Tu.arg {w0 w : World} {g n N : Nat} {ys : List Int} (h : Tu w0 w g n ys) (hN : N = n + 70) (nb : n ≤ 1048576) : Arg w (some ⟨g, 0, none⟩) n N (ys.take n) :=
  ⟨by have := h.len; rw [List.length_take]; omega, by omega, by omega, h.own.lies.take n, h.lim⟩
/-- What stands in a round. -/
structure Rd (w0 : World) (ga gb na nb : Nat) (ya yb : List Int) (mv : Value) (L : List Ke) (W : World) : Prop where
  bel : Below w0.heap.size w0 W
  ki : KI T0 w0.heap.size W mv L L.length
  sm : ∀ e ∈ L, e.n ≤ 4097
  fa : mv.ownBlock ≠ some ga ∧ mv.ownBlock ≠ some gb
  fl : ∀ e ∈ L, ∀ b, e.blk = some b → b ≠ ga ∧ b ≠ gb
  a : Tu W W ga na ya
  b : Tu W W gb nb yb
  ge : w0.heap.size ≤ ga ∧ w0.heap.size ≤ gb ∧ ga ≠ gb
  nn : na ≤ 1048576 ∧ nb ≤ 1048576
section
variable {w0 W W' : World} {ga gb na nb : Nat} {ya yb : List Int} {mv : Value} {L : List Ke}
theorem Rd.on (h : Rd w0 ga gb na nb ya yb mv L W) (hB : Below W.heap.size W W') : Rd w0 ga gb na nb ya yb mv L W' :=
  ⟨h.bel.trans (hB.mono h.bel.size), h.ki.on hB, h.sm, h.fa, h.fl, ⟨h.a.own.below hB h.a.own.lt, h.a.len, h.a.sp, h.a.lim, Keep.refl _ _⟩, ⟨h.b.own.below hB h.b.own.lt, h.b.len, h.b.sp, h.b.lim, Keep.refl _ _⟩, h.ge, h.nn⟩
theorem Rd.turna {ya' : List Int} (h : Rd w0 ga gb na nb ya yb mv L W) (t : Tu W W' ga na ya') : Rd w0 ga gb na nb ya' yb mv L W' :=
  ⟨h.bel.trans (t.kp.below (fun b e => by rw [e]; exact h.ge.1) h.bel.size), h.ki.keep t.kp (fun g hg e => h.fa.1 (by rw [hg, e])) (fun e he b hb q => (h.fl e he b hb).1 q), h.sm, h.fa, h.fl, t.here,
    ⟨h.b.own.keep t.kp (fun e => h.ge.2.2 e.symm), h.b.len, h.b.sp, h.b.lim, Keep.refl _ _⟩, h.ge, h.nn⟩
theorem Rd.turnb {yb' : List Int} (h : Rd w0 ga gb na nb ya yb mv L W) (t : Tu W W' gb nb yb') : Rd w0 ga gb na nb ya yb' mv L W' :=
  ⟨h.bel.trans (t.kp.below (fun b e => by rw [e]; exact h.ge.2.1) h.bel.size), h.ki.keep t.kp (fun g hg e => h.fa.2 (by rw [hg, e])) (fun e he b hb q => (h.fl e he b hb).2 q), h.sm, h.fa, h.fl,
    ⟨h.a.own.keep t.kp (fun e => h.ge.2.2 e), h.a.len, h.a.sp, h.a.lim, Keep.refl _ _⟩, t.here, h.ge, h.nn⟩
theorem Rd.lga (h : Rd w0 ga gb na nb ya yb mv L W) : ga < W.heap.size := h.a.own.lt
theorem Rd.lgb (h : Rd w0 ga gb na nb ya yb mv L W) : gb < W.heap.size := h.b.own.lt
/-- One row of answers is put behind. -/
theorem Rd.add {g B0 : Nat} {N : List Ke} (h : Rd w0 ga gb na nb ya yb mv L W) (s : Seven B0 g W N) (hB : w0.heap.size ≤ B0) (hL : L.length ≤ 1000)
    (f1 : ∀ e ∈ L, ∀ b, e.blk = some b → ∀ f ∈ N, f.blk ≠ some b) (f2 : ∀ f ∈ N, ∀ b, f.blk = some b → mv.ownBlock ≠ some b ∧ b ≠ ga ∧ b ≠ gb) :
    ∃ mv' w', (Builtin.append_ #[27, 27] 27 #[mv, .slice (some ⟨g, 0, none⟩) 7 7]).run Tryd.prog W = .ok mv' w' ∧ Rd w0 ga gb na nb ya yb mv' (L ++ N) w' ∧ Keep (fun b => mv.ownBlock = some b) W w' ∧ (∀ b, mv'.ownBlock = some b → mv.ownBlock = some b ∨ W.heap.size ≤ b) := by
  have hS := h.bel.size
  have row : Re.Ow v1 24 1 w0.heap.size W mv (L.map Ke.v) := by
    have q := h.ki.row
    rwa [List.take_length] at q
  have hR : Bx W g 24 ((N.map Ke.v).map (fun x => Value.slice x.p x.n x.c)).toArray := by
    have := s.row
    rwa [List.map_map]
  have ln := s.len
  obtain ⟨mv', w', a1, a2, a3, a4, a5⟩ := app_row (m := 7) row hR (by rw [List.length_map]; exact ln) (by rw [List.length_map]; omega) (by omega)
  have away : ∀ e ∈ L ++ N, ∀ b, e.blk = some b → mv.ownBlock ≠ some b := fun e he b hb => by
    rcases List.mem_append.1 he with q | q
    · exact h.ki.away e q b hb
    · exact (f2 e q b hb).1
  have each : ∀ i e, (L ++ N)[i]? = some e → ∃ zs, zs.length = e.n ∧ T0 i zs ∧ Ls w0.heap.size W e.p zs := fun i e hi => by
    rcases List.mem_append.1 (List.mem_of_getElem? hi) with q | q
    · obtain ⟨j, hj⟩ := List.getElem?_of_mem q
      obtain ⟨zs, z1, _, z3⟩ := h.ki.each j e hj
      exact ⟨zs, z1, trivial, z3⟩
    · obtain ⟨⟨zs, z1, z2⟩, _⟩ := s.new e q
      exact ⟨zs, z1, trivial, z2.low hB⟩
  have inb : ∀ e ∈ L ++ N, ∀ b, e.blk = some b → b < W.heap.size := fun e he b hb => by
    obtain ⟨i, hi⟩ := List.getElem?_of_mem he
    obtain ⟨zs, z1, _, z3⟩ := each i e hi
    obtain ⟨n0, a, ha, rfl⟩ := Ke.of_blk hb
    exact z3.1.lt (by omega) a ha
  have ki : KI T0 w0.heap.size w' mv' (L ++ N) (L ++ N).length := by
    refine ⟨by rw [List.take_length, List.map_append]; exact a2, fun i f hi => ?_, fun e he => ?_, ?_, fun f hf b fb hg => ?_⟩
    · obtain ⟨zs, z1, z2, z3⟩ := each i f hi
      exact ⟨zs, z1, z2, z3.keep a4 (fun a ha h0 => away f (List.mem_of_getElem? hi) _ (Ke.blk_of ha (by omega)))⟩
    · rcases List.mem_append.1 he with q | q
      · exact h.ki.small e q
      · have := (s.new e q).2
        omega
    · exact List.pairwise_append.2 ⟨h.ki.apart, s.apart, fun e he f hf b eb fb => f1 e he b eb f hf fb⟩
    · rcases a5 b hg with q | q
      · exact away f hf b fb q
      · have := inb f hf b fb
        omega
  have lga := h.lga
  have lgb := h.lgb
  refine ⟨mv', w', a1, ⟨h.bel.trans a3, ki, fun e he => ?_, ⟨fun q => ?_, fun q => ?_⟩, fun e he b hb => ?_, ⟨h.a.own.keep a4 h.fa.1, h.a.len, h.a.sp, h.a.lim, Keep.refl _ _⟩, ⟨h.b.own.keep a4 h.fa.2, h.b.len, h.b.sp, h.b.lim, Keep.refl _ _⟩, h.ge, h.nn⟩, a4, a5⟩
  · rcases List.mem_append.1 he with q | q
    · exact h.sm e q
    · exact (s.new e q).2
  · rcases a5 _ q with q | q
    · exact h.fa.1 q
    · omega
  · rcases a5 _ q with q | q
    · exact h.fa.2 q
    · omega
  · rcases List.mem_append.1 he with q | q
    · exact h.fl e q b hb
    · exact (f2 e q b hb).2
theorem Seven.blk {B g : Nat} {N : List Ke} (s : Seven B g W N) {e : Ke} (he : e ∈ N) {b : Nat} (hb : e.blk = some b) : B ≤ b ∧ b < W.heap.size := by
  obtain ⟨⟨zs, z1, z2⟩, _⟩ := s.new e he
  obtain ⟨n0, a, ha, rfl⟩ := Ke.of_blk hb
  exact ⟨(z2.2 a ha (by omega)).1, z2.1.lt (by omega) a ha⟩
/-- Both rows of a round are put behind. -/
theorem Rd.add2 {g1 g2 : Nat} {N1 N2 : List Ke} {S S1 : World} (h : Rd w0 ga gb na nb ya yb mv L S) (hB1 : Below S.heap.size S S1) (s1 : Seven S.heap.size g1 S1 N1) (hB : Below S1.heap.size S1 W) (s2 : Seven S1.heap.size g2 W N2) (hL : L.length ≤ 900) :
    ∃ mv1 w1 mv2 w2, (Builtin.append_ #[27, 27] 27 #[mv, .slice (some ⟨g1, 0, none⟩) 7 7]).run Tryd.prog W = .ok mv1 w1 ∧ (Builtin.append_ #[27, 27] 27 #[mv1, .slice (some ⟨g2, 0, none⟩) 7 7]).run Tryd.prog w1 = .ok mv2 w2 ∧ Rd w0 ga gb na nb ya yb mv2 (L ++ N1 ++ N2) w2 ∧ (L ++ N1 ++ N2).length = L.length + 14 := by
  have hS := h.bel.size
  have sz := hB.size
  have sz1 := hB1.size
  have lga := h.lga
  have lgb := h.lgb
  have own : ∀ b, mv.ownBlock = some b → b < S.heap.size := fun b hb => (ow_lt h.ki.row hb).2
  have l1 := s1.len
  have l2 := s2.len
  obtain ⟨mv1, w1, a1, a2, a3, a4⟩ := Rd.add ((h.on hB1).on hB) (s1.on hB) hS (by omega)
    (fun e he b hb f hf q => by have := (h.ki.blk he hb).2; have := (s1.blk hf q).1; omega)
    (fun f hf b q => by
      have := (s1.blk hf q).1
      exact ⟨fun r => by have := own b r; omega, by omega, by omega⟩)
  have s2' : Seven S1.heap.size g2 w1 N2 := by
    have lo := s2.lo
    refine ⟨s2.len, ?_, fun e he => ?_, s2.apart, s2.lo, s2.far⟩
    · have := s2.row
      rw [Bx] at this ⊢
      rw [a3.block g2 (Bx.lt s2.row) (fun q => by have := own g2 q; omega)]
      exact this
    · obtain ⟨⟨zs, z1, z2⟩, z3⟩ := s2.new e he
      exact ⟨⟨zs, z1, z2.keep a3 (fun a ha h0 q => by have := own _ q; have := (z2.2 a ha h0).1; omega)⟩, z3⟩
  obtain ⟨mv2, w2, b1, b2, _, _⟩ := Rd.add a2 s2' (by omega) (by rw [List.length_append]; omega)
    (fun e he b hb f hf q => by
      have := (s2.blk hf q).1
      rcases List.mem_append.1 he with r | r
      · have := (h.ki.blk r hb).2; omega
      · have := (s1.blk r hb).2; omega)
    (fun f hf b q => by
      have := s2.blk hf q
      refine ⟨fun r => ?_, by omega, by omega⟩
      rcases a4 b r with t | t
      · have := own b t; omega
      · omega)
  exact ⟨mv1, w1, mv2, w2, a1, b1, b2, by rw [List.length_append, List.length_append]; omega⟩
end
end Qk
end Go.Proofs.YtmihjiiagpkciaaDoor

namespace Go.Proofs.YtmihjiiagpkciaaDoor
open Go.RowKit Go.Deep Go.ChangeShapes Go.WideShapes Go.ChangeAt

/-- A list of limbs that was read, wherever it stands. -/
theorem open_list {H : Type} {enc : TypeId × Value → H} {W : World} {fuel : Nat} {c : Value} {y : DataW H × List MemPlace} (hf : DataW.trod enc Tryd.prog W 0 (fun _ => true) true fuel 24 [c] = some y)
    (hsz : ∀ n ∈ y.1.weights Tryd.prog 24, n ≤ reachBytes) : ∃ p n cap zs, c = .slice p n cap ∧ Arg W p n cap zs ∧ cap ≤ 17592186043904 := by
  rcases open_ints Tryd.underlying24 Tryd.underlying26 (by kernel_rfl) hf with ⟨hcs, _⟩ | ⟨x, l, cp, zs, hcs, _, hl, hm, hz, hx, hcell, hwz⟩
  · simp only [List.cons.injEq, and_true] at hcs
    exact ⟨none, 0, 0, [], hcs, ⟨rfl, Nat.le_refl _, by omega, Lies.nil _ _, Nm.Limbs.nil⟩, by omega⟩
  · simp only [List.cons.injEq, and_true] at hcs
    have hz' : zs.length = cp := by simpa using hz
    have hr := hsz (((lits (H := H) .u64 (zs.take l)).length + (lits (H := H) .u64 (zs.drop l)).length) * Tryd.prog.bytesOf 26) (by rw [hx]; simp [DataW.weights, Tryd.underlying24])
    rw [show Tryd.prog.bytesOf 26 = 8 by kernel_rfl] at hr
    simp only [lits, List.length_map, List.length_take, List.length_drop, reachBytes] at hr
    have hb : cp ≤ 17592186043904 := by omega
    exact ⟨some x, l, cp, _, hcs, arg_open hl hz' hb hcell hwz, hb⟩

theorem all_mem {H : Type} {P : Program} {e : TypeId} : ∀ {l : List (DataW H)} {d : DataW H}, d ∈ l → ∀ n ∈ d.weights P e, n ∈ DataW.weightsAll P e l
  | [], _, h, _, _ => by simp at h
  | x :: r, d, h, n, hn => by
    simp only [DataW.weightsAll, List.mem_append]
    rcases List.mem_cons.1 h with rfl | h
    · exact .inl hn
    · exact .inr (all_mem h n hn)

/-- What can be told of each place can be told of a list. -/
theorem list_of_each {α : Type} {Q : Nat → α → Prop} : ∀ n, (∀ i, i < n → ∃ x, Q i x) → ∃ l : List α, l.length = n ∧ ∀ i x, l[i]? = some x → Q i x
  | 0, _ => ⟨[], rfl, by simp⟩
  | n + 1, h => by
    obtain ⟨l, h1, h2⟩ := list_of_each n (fun i hi => h i (by omega))
    obtain ⟨x, hx⟩ := h n (by omega)
    refine ⟨l ++ [x], by simp [h1], fun i y hy => ?_⟩
    by_cases hi : i < l.length
    · rw [List.getElem?_append_left hi] at hy
      exact h2 i y hy
    · have hlt := (List.getElem?_eq_some_iff.1 hy).1
      simp only [List.length_append, List.length_cons, List.length_nil] at hlt
      obtain rfl : i = n := by omega
      rw [List.getElem?_append_right (by omega), h1, Nat.sub_self] at hy
      simp at hy
      subst hy
      exact hx
end Go.Proofs.YtmihjiiagpkciaaDoor

namespace Go.Proofs.YtmihjiiagpkciaaDoor
open Go.RowKit Go.Deep Go.ChangeShapes Go.WideShapes Go.ChangeAt

/-- A pair that was read. -/
structure PIt where
  p1 : Option Addr
  n1 : Nat
  c1 : Nat
  z1 : List Int
  p2 : Option Addr
  n2 : Nat
  c2 : Nat
  z2 : List Int
  N : Int

/-- Its three cells stand there. -/
def PCells (w : World) (b o : Nat) (it : PIt) : Prop :=
  w.cell? ⟨b, o, none⟩ = some (.slice it.p1 it.n1 it.c1) ∧ w.cell? ⟨b, o + 1, none⟩ = some (.slice it.p2 it.n2 it.c2) ∧ w.cell? ⟨b, o + 2, none⟩ = some (.int .i64 it.N)

def PArg (w : World) (it : PIt) : Prop := Arg w it.p1 it.n1 it.c1 it.z1 ∧ Arg w it.p2 it.n2 it.c2 it.z2 ∧ (-9223372036854775808 ≤ it.N ∧ it.N ≤ 9223372036854775807)

def PHolds (w : World) (a : Option Addr) (its : List PIt) : Prop := its = [] ∨ ∃ b off, a = some ⟨b, off, none⟩ ∧ ∀ i it, its[i]? = some it → PCells w b (off + i * 3) it

theorem list3 {α : Type} {l : List α} (h : l.length = 3) : ∃ c0 c1 c2, l = [c0, c1, c2] := by
  match l, h with
  | [c0, c1, c2], _ => exact ⟨c0, c1, c2, rfl⟩

theorem open_pair {H : Type} {enc : TypeId × Value → H} {W : World} {fuel : Nat} {a0 a1 a2 : Value} {y : DataW H × List MemPlace} (hf : DataW.trod enc Tryd.prog W 0 (fun _ => true) true fuel 29 [a0, a1, a2] = some y)
    (hsz : ∀ n ∈ y.1.weights Tryd.prog 29, n ≤ reachBytes) : ∃ it : PIt, a0 = .slice it.p1 it.n1 it.c1 ∧ a1 = .slice it.p2 it.n2 it.c2 ∧ a2 = .int .i64 it.N ∧ PArg W it := by
  obtain ⟨xs, n, _, hx, _, hlen, hfs⟩ := DataW.trod_struct Tryd.underlying29 hf
  obtain ⟨y0, y1, y2, rfl⟩ := list3 hlen
  have c3 : Tryd.prog.cellsOf 3 = 1 := by kernel_rfl
  have cs : Tryd.prog.cellsOf 24 = 1 := by kernel_rfl
  have f0 : DataW.trod enc Tryd.prog W 0 (fun _ => true) true n 24 [a0] = some y0 := by simpa [cs] using hfs 0 _ rfl
  have f1 : DataW.trod enc Tryd.prog W 0 (fun _ => true) true n 24 [a1] = some y1 := by simpa [cs] using hfs 1 _ rfl
  have f2 : DataW.trod enc Tryd.prog W 0 (fun _ => true) true n 3 [a2] = some y2 := by simpa [c3] using hfs 2 _ rfl
  have hd : y.1 = .agg [y0.1, y1.1, y2.1] := by rw [hx]; rfl
  have hw : ∀ (j : Nat) (t : TypeId) (e : DataW H), [24, 24, 3][j]? = some t → [y0.1, y1.1, y2.1][j]? = some e → ∀ n ∈ e.weights Tryd.prog t, n ≤ reachBytes := by
    intro j t e ht he n hn
    refine hsz n ?_
    rw [hd]
    simp only [DataW.weights, Tryd.underlying29]
    exact DataW.weights_mem_each ht he n hn
  obtain ⟨N, e2, _, w2⟩ := DataW.trod_int Tryd.underlying3 f2
  obtain ⟨p1, n1, c1, z1, rfl, A1, _⟩ := open_list f0 (hw 0 _ _ rfl rfl)
  obtain ⟨p2, n2, c2, z2, rfl, A2, _⟩ := open_list f1 (hw 1 _ _ rfl rfl)
  have b2 := bounds_i64 w2
  exact ⟨⟨p1, n1, c1, z1, p2, n2, c2, z2, N⟩, rfl, rfl, (List.cons.inj e2).1, A1, A2, by show _ ∧ _; omega⟩

theorem open_pairs {H : Type} {enc : TypeId × Value → H} {W : World} {a : Option Addr} {len cap : Nat} {d : DataW H} {p : List MemPlace} (h : DataW.Trod enc Tryd.prog W 0 (fun _ => true) true 22 (.slice a len cap) d p)
    (hsz : ∀ n ∈ d.weights Tryd.prog 22, n ≤ reachBytes) : ∃ its : List PIt, its.length = len ∧ len ≤ cap ∧ cap ≤ 17592186044000 ∧ PHolds W a its ∧ ∀ it ∈ its, PArg W it := by
  obtain ⟨fuel, hf⟩ := h
  rcases DataW.trod_slice Tryd.underlying22 hf with ⟨hcs, _⟩ | ⟨x, l, c, elems, rest, n, _, hcs, hx, _, hl, hm, he, hel, hsp, _⟩
  · simp [Value.cells] at hcs
    obtain ⟨rfl, rfl, rfl⟩ := hcs
    exact ⟨[], rfl, Nat.le_refl _, by omega, .inl rfl, by intro it h; simp at h⟩
  · simp [Value.cells] at hcs
    obtain ⟨rfl, rfl, rfl⟩ := hcs
    have hd : d = .slice (elems.map (·.1)) (rest.map (·.1)) := (Prod.mk.inj hx).1
    have hw : ∀ n ∈ (DataW.slice (elems.map (·.1)) (rest.map (·.1)) : DataW H).weights Tryd.prog 22, n ≤ reachBytes := by rw [← hd]; exact hsz
    simp only [DataW.weights, Tryd.underlying22] at hw
    have hr := hw _ List.mem_cons_self
    rw [show Tryd.prog.bytesOf 29 = 56 by kernel_rfl] at hr
    have hrl := (hsp rfl).1
    simp only [List.length_map, reachBytes] at hr
    have hcap : cap ≤ 17592186044000 := by omega
    rw [show Tryd.prog.cellsOf 29 = 3 by kernel_rfl] at hel
    obtain ⟨its, i1, i2⟩ := list_of_each (Q := fun i (it : PIt) => (W.cell? (x.add (i * 3)) = some (.slice it.p1 it.n1 it.c1) ∧ W.cell? ((x.add (i * 3)).add 1) = some (.slice it.p2 it.n2 it.c2) ∧ W.cell? ((x.add (i * 3)).add 2) = some (.int .i64 it.N)) ∧ PArg W it) len (fun i hi => by
      have h1 := hel i hi
      have h2 : elems[i]? = some elems[i] := List.getElem?_eq_getElem (by omega)
      rw [h2] at h1
      obtain ⟨cs, h3, h4⟩ := Option.bind_eq_some_iff.1 h1
      obtain ⟨_, h5, h6⟩ := World.cells?_some h3
      obtain ⟨v0, v1, v2, rfl⟩ := list3 h5
      have e0 := h6 0 (by omega)
      have e1 := h6 1 (by omega)
      have e2 := h6 2 (by omega)
      have h8 : (x.add (i * 3)).add 0 = x.add (i * 3) := by simp [Addr.add]
      rw [h8] at e0
      obtain ⟨it, q0, q1, q2, hA⟩ := open_pair h4 (fun n hn => hw n (List.mem_cons_of_mem _ (List.mem_append_left _ (all_mem (List.mem_map.2 ⟨_, List.getElem_mem (by omega), rfl⟩) n hn))))
      subst q0
      subst q1
      subst q2
      exact ⟨it, ⟨e0, e1, e2⟩, hA⟩)
    refine ⟨its, i1, hl, hcap, ?_, ?_⟩
    · rcases Nat.eq_zero_or_pos its.length with h0 | h0
      · exact .inl (List.eq_nil_of_length_eq_zero h0)
      · obtain ⟨b, off, spot⟩ := x
        have hspot : spot = none := by simpa [Addr.add] using World.cell?_spot (i2 0 _ (List.getElem?_eq_getElem h0)).1.1
        subst hspot
        refine .inr ⟨b, off, rfl, fun i it hi => ?_⟩
        obtain ⟨⟨q0, q1, q2⟩, _⟩ := i2 i it hi
        rw [Go.WideShapes.add_plain] at q0 q1 q2
        rw [Go.WideShapes.add_plain] at q1 q2
        exact ⟨q0, q1, q2⟩
    · intro it hit
      obtain ⟨i, hi⟩ := List.getElem?_of_mem hit
      exact (i2 i it hi).2
end Go.Proofs.YtmihjiiagpkciaaDoor

namespace Go.Proofs.YtmihjiiagpkciaaDoor
open Go Go.RowKit Go.Deep

namespace Qk
theorem pholds_on {w w' : World} {a : Option Addr} {its : List PIt} (h : PHolds w a its) (hb : Below w.heap.size w w') : PHolds w' a its := by
  rcases h with rfl | ⟨b, off, rfl, h⟩
  · exact .inl rfl
  · refine .inr ⟨b, off, rfl, fun i it hi => ?_⟩
    obtain ⟨h1, h2, h3⟩ := h i it hi
    exact ⟨by rw [hb.cell (p := ⟨b, off + i * 3, none⟩) (cell_lt h1)]; exact h1, by rw [hb.cell (p := ⟨b, off + i * 3 + 1, none⟩) (cell_lt h2)]; exact h2, by rw [hb.cell (p := ⟨b, off + i * 3 + 2, none⟩) (cell_lt h3)]; exact h3⟩
theorem parg_on {w w' : World} {it : PIt} (h : PArg w it) (hb : Below w.heap.size w w') : PArg w' it := ⟨h.1.below hb (Nat.le_refl _), h.2.1.below hb (Nat.le_refl _), h.2.2⟩
theorem short_r {p : Option Addr} {n cap : Nat} {zs : List Int} {w : World} (h : Arg w p n cap zs) : Calls Tryd.prog 7 #[.slice p n cap] w fun e w' => ∃ g m, e = .returned (.slice (some ⟨g, 0, none⟩) m m) ∧ Arg w' (some ⟨g, 0, none⟩) m m (Nm.trim zs) ∧ Below w.heap.size w w' := by
  obtain ⟨N, hN⟩ : ∃ N, Nm.tsize zs = N := ⟨_, rfl⟩
  have l2 := Nat.le_trans h.2.1 h.2.2.1
  refine (short_any p n cap zs N w h.1 l2 h.2.2.2.1 hN).mono ?_
  rintro e w' ⟨rfl, o, b⟩
  refine ⟨_, _, rfl, own_arg o (by rw [Nm.trim_length, hN]) ?_ h.2.2.2.2.trim, b⟩
  have := h.tl
  have := h.1
  omega
/-- What stands between the pairs. -/
def Bt (w : World) (mv : Value) (L : List Ke) (W : World) : Prop := Below w.heap.size w W ∧ KI T0 w.heap.size W mv L L.length ∧ ∀ e ∈ L, e.n ≤ 4097

set_option maxRecDepth 100000 in
set_option maxHeartbeats 16000000 in
theorem quotKeeps_law (a : Option Addr) (len cap : Nat) (its : List PIt) (w : World) (hl : its.length = len) (hp : PHolds w a its) (hi : ∀ it ∈ its, PArg w it) (hT : Tab w) :
    Calls Tryd.prog 3 #[.slice a len cap] w fun e w' => e = .returned (.bool true) ∧ Below w.heap.size w w' := by
  have HL := hid hl
  have HP := hid (fun W (hB : Below w.heap.size w W) => pholds_on hp hB)
  have HI := hid (fun it h W (hB : Below w.heap.size w W) => parg_on (hi it h) hB)
  have HT := hid (fun W (hB : Below w.heap.size w W) => hT.below hB)
  clear hl hp hi hT
  go_enter Tryd.func3, Tryd.ntmps3
  go_wp2_with fail
  refine (one_any 17 _ (by omega) (by omega)).mono ?_
  rintro e w1 ⟨r1, rfl, A1, hb1⟩
  have HA1 := hid A1
  have D1 := hid hb1
  clear A1 hb1
  go_wp2_with fail
  refine (one_any 5 _ (by omega) (by omega)).mono ?_
  rintro e w2 ⟨r2, rfl, A2, hb2⟩
  have HA2 := hid A2
  have HA1' := hid (HA1.out.below hb2 (Nat.le_refl _))
  have D2 := hid (chain D1.out hb2 (Nat.le_refl _))
  clear A2 hb2 HA1 D1
  go_wp2_with fail
  refine (divides_true r1 r2 1 1 1 1 [17] [5] _ HA1'.out HA2.out).mono ?_
  rintro e w3 ⟨rfl, hb3⟩
  have D3 := hid (chain D2.out hb3 (Nat.le_refl _))
  clear hb3 HA1' HA2 D2
  go_wp2_with fail
  go_loopg [3, 4] len (fun m gv iv wr => ∃ (i : Nat) (L : List Ke), i + m = len ∧ i ≤ 6 ∧ iv = .int .i64 (i : Int) ∧ Hid (Bt w gv L wr ∧ L.length ≤ 28 * i))
  case atStart => exact ⟨0, [], by omega, by omega, rfl, ⟨D3.out, ⟨Re.Ow.nil _, fun i e h => by simp at h, fun e h => by simp at h, List.Pairwise.nil, fun e h => by simp at h⟩, fun e h => by simp at h⟩, by simp⟩
  case round =>
    obtain ⟨i, L, hi, i6, rfl, D⟩ := hrel
    clear D3
    by_cases go : i < len ∧ i < 6
    · obtain ⟨il, is⟩ := go
      have ili : (i : Int) < (len : Int) := by omega
      have isi : (i : Int) < 6 := by omega
      obtain ⟨it, hit⟩ : ∃ it, its[i]? = some it := ⟨_, List.getElem?_eq_getElem (by have := HL.out; omega)⟩
      have PA := hid (HI.out it (List.mem_of_getElem? hit))
      have PH : Hid (∃ b off, a = some ⟨b, off, none⟩ ∧ ∀ W, Below w.heap.size w W → PCells W b (off + i * 3) it) := by
        rcases HP.out w (Below.refl _ _) with h | ⟨b, off, ha, _⟩
        · rw [h] at hit; simp at hit
        · refine ⟨b, off, ha, fun W hB => ?_⟩
          rcases HP.out W hB with h | ⟨b', off', ha', h'⟩
          · rw [h] at hit; simp at hit
          · rw [ha] at ha'
            cases ha'
            exact h' i it hit
      obtain ⟨b, off, rfl, PC⟩ := PH.out
      have PCH := hid PC
      clear PH PC hit
      obtain ⟨p1, n1, c1, z1, p2, n2, c2, z2, k⟩ := it
      obtain ⟨k1, k2, k3⟩ := PCH.out _ D.out.1.1
      simp only at k1 k2 k3
      by_cases big : 1048576 < n1 ∨ 1048576 < n2
      · by_cases big1 : 1048576 < n1
        · have b1 : (1048576 : Int) < (n1 : Int) := by omega
          clear big
          go_wp2_with fail
          go_roundg (len - (i + 1))
          case measure => omega
          case rel => exact ⟨i + 1, L, by omega, by omega, by go_num, D.out.1, by have := D.out.2; omega⟩
        · have b1 : ¬ (1048576 : Int) < (n1 : Int) := by omega
          have b2 : (1048576 : Int) < (n2 : Int) := by omega
          clear big
          go_wp2_with fail
          go_roundg (len - (i + 1))
          case measure => omega
          case rel => exact ⟨i + 1, L, by omega, by omega, by go_num, D.out.1, by have := D.out.2; omega⟩
      · have b1 : ¬ (1048576 : Int) < (n1 : Int) := by omega
        have b2 : ¬ (1048576 : Int) < (n2 : Int) := by omega
        have s1 : n1 ≤ 1048576 := by omega
        have s2 : n2 ≤ 1048576 := by omega
        clear big
        have PAD := PA.out _ D.out.1.1
        have P1 := hid PAD.1
        simp only at P1
        clear PAD
        go_wp2_with fail
        refine (roomy_any p1 n1 c1 z1 _ P1.out s1).mono ?_
        rintro e w4 ⟨ga, Na, ya, rfl, hNa, gag, ra, B4⟩
        have RA := hid ra
        have LA := hid P1.out.1
        have MA := hid P1.out.2.2.2.2
        have NA := hid hNa
        have GA := hid gag
        have D4 : Hid (Bt w u3 L w4 ∧ L.length ≤ 28 * i) := ⟨⟨D.out.1.1.trans (B4.mono D.out.1.1.size), D.out.1.2.1.on B4, D.out.1.2.2⟩, D.out.2⟩
        have PAD := PA.out _ D4.out.1.1
        have P2 := hid PAD.2.1
        simp only at P2
        have KB := hid PAD.2.2.2
        simp only at KB
        have KF := hid (fun W (h : Below w.heap.size w W) => (PCH.out W h))
        have k2' := (PCH.out _ D4.out.1.1).2.1
        simp only at k2'
        have OW := hid (fun b (hb : Value.ownBlock u3 = some b) => (ow_lt D.out.1.2.1.row hb).2)
        have LW := hid (fun e (he : e ∈ L) b (hb : e.blk = some b) => (D.out.1.2.1.blk he hb).2)
        have DS := hid D.out.1.1.size
        clear ra hNa gag B4 D PAD P1 k1 k2 k3
        go_wp2_with fail
        refine (roomy_any p2 n2 c2 z2 _ P2.out s2).mono ?_
        rintro e w5 ⟨gb, Nb, yb, rfl, hNb, gbg, rb, B5⟩
        have NB := hid hNb
        have R5 : Hid (Rd w ga gb n1 n2 ya yb u3 L w5) := by
          have lt := RA.out.own.lt
          have g1 := GA.out
          have d1 := DS.out
          refine ⟨D4.out.1.1.trans (B5.mono D4.out.1.1.size), D4.out.1.2.1.on B5, D4.out.1.2.2, ⟨fun q => ?_, fun q => ?_⟩, fun e he b hb => ?_, ((RA.out.on B5).tu LA.out MA.out), rb.tu P2.out.1 P2.out.2.2.2.2, ⟨by omega, by omega, by omega⟩, ⟨s1, s2⟩⟩
          · have := OW.out _ q; omega
          · have := OW.out _ q; omega
          · have := LW.out e he b hb; omega
        have LL := hid D4.out.2
        clear rb hNb gbg B5 RA LA MA GA P2 OW LW DS D4 k2'
        have TRU := hid (fun W (h : Below w.heap.size w W) => HT.out W h)
        go_wp2_with fail
        go_loopg [3, 7] 2 (fun m gv iv wr => ∃ (t : Nat) (ya yb : List Int) (M : List Ke), t + m = 2 ∧ iv = .int .i64 (t : Int) ∧ Hid (Rd w ga gb n1 n2 ya yb gv M wr ∧ M.length ≤ 28 * i + 14 * t))
        case atStart => exact ⟨0, ya, yb, L, by omega, rfl, R5.out, by have := LL.out; omega⟩
        case round =>
          obtain ⟨t, xa, xb, M, ht, rfl, J⟩ := hrel
          clear R5
          by_cases tl : t < 2
          · have tli : (t : Int) < 2 := by omega
            have ML : Hid (M.length ≤ 900) := by have := J.out.2; show _ ≤ _; omega
            have MJ := hid J.out.2
            have S0 := hid J.out.1
            have SA := hid (S0.out.a.arg NA.out s1)
            have SB := hid (S0.out.b.arg NB.out s2)
            clear J
            have XA := hid (S0.out.a.lim)
            have XB := hid (S0.out.b.lim)
            go_wp2_with fail
            refine (short_r SA.out).mono ?_
            rintro e w6 ⟨gc, mc, rfl, c6, B9⟩
            have C := hid c6
            have S1 := hid (S0.out.on B9)
            clear c6 B9 S0 SA SB
            have SB := hid (S1.out.b.arg NB.out s2)
            go_wp2_with fail
            refine (short_r SB.out).mono ?_
            rintro e w7 ⟨gd, md, rfl, c7, B9⟩
            have D := hid c7
            have C' := hid (C.out.below B9 (Nat.le_refl _))
            have S2 := hid (S1.out.on B9)
            clear c7 B9 S1 SB C
            have SA := hid (S2.out.a.arg NA.out s1)
            have SB := hid (S2.out.b.arg NB.out s2)
            have k3 := (PCH.out _ S2.out.bel).2.2
            simp only at k3
            go_wp2_with fail
            refine (asked_any _ _ _ _ _ _ _ _ _ _ _ _ _ _ k _ SA.out SB.out C'.out D.out (TRU.out _ S2.out.bel) KB.out).mono ?_
            rintro e w8 ⟨g1, N1, rfl, V1, B9⟩
            have H1 := hid V1
            have BB1 := hid B9
            have C2 := hid (C'.out.below B9 (Nat.le_refl _))
            have D2 := hid (D.out.below B9 (Nat.le_refl _))
            have S3 := hid (S2.out.on B9)
            clear V1 B9 C' D SA SB k3
            have SA := hid (S3.out.a.arg NA.out s1)
            have SB := hid (S3.out.b.arg NB.out s2)
            have k3 := (PCH.out _ S3.out.bel).2.2
            simp only at k3
            go_wp2_with fail
            refine (asked_any _ _ _ _ _ _ _ _ _ _ _ _ _ _ k _ SA.out SB.out C2.out D2.out (TRU.out _ S3.out.bel) KB.out).mono ?_
            rintro e w9 ⟨g2, N2, rfl, V2, B9⟩
            have H2 := hid V2
            have BB2 := hid B9
            have C3 := hid (C2.out.below B9 (Nat.le_refl _))
            have D3 := hid (D2.out.below B9 (Nat.le_refl _))
            have S4 := hid (S3.out.on B9)
            clear V2 B9 C2 D2 SA SB k3 S3
            have SA := hid (S4.out.a.arg NA.out s1)
            go_wp2_with fail
            refine (short_r SA.out).mono ?_
            rintro e w10 ⟨ge, me, rfl, c6, B9⟩
            have E := hid c6
            have BB3 := hid (bel_onQ0 BB2.out B9)
            have H3 := hid (H2.out.on B9)
            have C4 := hid (C3.out.below B9 (Nat.le_refl _))
            have D4 := hid (D3.out.below B9 (Nat.le_refl _))
            have S5 := hid (S4.out.on B9)
            clear c6 B9 SA C3 D3 S4 BB2 H2
            go_wp2_with fail
            refine (alike_is true _ _ _ _ _ _ _ _ _ E.out C4.out (by simp)).mono ?_
            rintro e w11 ⟨rfl, B9⟩
            have BB4 := hid (bel_onQ0 BB3.out B9)
            have H4 := hid (H3.out.on B9)
            have D5 := hid (D4.out.below B9 (Nat.le_refl _))
            have S6 := hid (S5.out.on B9)
            clear B9 E C4 D4 S5 BB3 H3
            have SB := hid (S6.out.b.arg NB.out s2)
            go_wp2_with fail
            refine (short_r SB.out).mono ?_
            rintro e w12 ⟨gf, mf, rfl, c6, B9⟩
            have E := hid c6
            have BB5 := hid (bel_onQ0 BB4.out B9)
            have H5 := hid (H4.out.on B9)
            have D6 := hid (D5.out.below B9 (Nat.le_refl _))
            clear c6 B9 SB D5 S6 BB4 H4
            go_wp2_with fail
            refine (alike_is true _ _ _ _ _ _ _ _ _ E.out D6.out (by simp)).mono ?_
            rintro e w13 ⟨rfl, B9⟩
            have BB6 := hid (bel_onQ0 BB5.out B9)
            have H6 := hid (H5.out.on B9)
            clear B9 E D6 BB5 H5
            obtain ⟨mv1, v1', mv2, v2', ap1, ap2, r14, l14⟩ := S2.out.add2 BB1.out H1.out BB6.out H6.out ML.out
            have AP1 := hid ap1
            have AP2 := hid ap2
            have S7 := hid r14
            have LN : Hid ((M ++ N1 ++ N2).length ≤ 28 * i + 14 * (t + 1)) := by have := MJ.out; show _ ≤ _; omega
            clear ap1 ap2 r14 l14 S2 BB1 H1 BB6 H6 ML MJ
            go_wp2_with (first | (at_builtin; refine wpList_append_q rfl _ _ rfl AP1.out (by rfl) (by rfl) ?_; clear AP1) | (at_builtin; refine wpList_append_q rfl _ _ rfl AP2.out (by rfl) (by rfl) ?_; clear AP2))
            refine (kept_any ga n1 Na xa xa _ S7.out.a.ro NA.out s1).mono ?_
            rintro e w14 ⟨rfl, B9⟩
            have S8 := hid (S7.out.on B9)
            clear B9 S7
            go_wp2_with fail
            refine (kept_any gb n2 Nb xb xb _ S8.out.b.ro NB.out s2).mono ?_
            rintro e w15 ⟨rfl, B9⟩
            have S9 := hid (S8.out.on B9)
            clear B9 S8
            go_wp2_with fail
            refine (turn_any ga n1 Na xa _ S9.out.a NA.out s1).mono ?_
            rintro e w16 ⟨rfl, xa', t16⟩
            have S10 := hid (S9.out.turna t16)
            clear t16 S9
            go_wp2_with fail
            refine (turn_any gb n2 Nb xb _ S10.out.b NB.out s2).mono ?_
            rintro e w17 ⟨rfl, xb', t17⟩
            have S11 := hid (S10.out.turnb t17)
            clear t17 S10
            go_wp2_with fail
            go_roundg (2 - (t + 1))
            case measure => omega
            case rel => exact ⟨t + 1, xa', xb', _, by omega, by go_num, S11.out, LN.out⟩
          · obtain rfl : t = 2 := by omega
            have tli : ¬ (((2 : Nat) : Int)) < 2 := by omega
            have DD : Hid (Bt w u3 M wr ∧ M.length ≤ 28 * (i + 1)) := ⟨⟨J.out.1.bel, J.out.1.ki, J.out.1.sm⟩, by have := J.out.2; omega⟩
            clear J
            go_wp2_with fail
            go_roundg (len - (i + 1))
            case measure => omega
            case rel => exact ⟨i + 1, M, by omega, by omega, by go_num, DD.out⟩
    · have fin : (Hid (Bt w u3 L wr ∧ L.length ≤ 200)) := ⟨D.out.1, by have := D.out.2; omega⟩
      have row : Re.Ow v1 24 1 w.heap.size wr u3 (L.map Ke.v) := by
        have q := fin.out.1.2.1.row
        rwa [List.take_length] at q
      obtain ⟨q, c, rfl⟩ := sl_len row (by rw [List.length_map])
      have AP := hid (apart_any w.heap.size q L.length c L wr fin.out.1.2.1 rfl (by have := fin.out.2; omega) (fun e he => by have := fin.out.1.2.2 e he; omega) fin.out.1.1.size)
      clear row D
      by_cases il : i < len
      · have ili : (i : Int) < (len : Int) := by omega
        have isi : ¬ (i : Int) < 6 := by omega
        go_wp2_with fail
        refine AP.out.mono ?_
        rintro e w9 ⟨rfl, B9⟩
        have K := hid (fin.out.1.1.trans B9)
        clear B9 AP fin
        go_wp2_with fail
        go_ret
        exact ⟨rfl, K.out⟩
      · have ili : ¬ (i : Int) < (len : Int) := by omega
        go_wp2_with fail
        refine AP.out.mono ?_
        rintro e w9 ⟨rfl, B9⟩
        have K := hid (fin.out.1.1.trans B9)
        clear B9 AP fin
        go_wp2_with fail
        go_ret
        exact ⟨rfl, K.out⟩
end Qk
end Go.Proofs.YtmihjiiagpkciaaDoor
