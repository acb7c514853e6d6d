/-
  over, Value, Mean of package gather.
-/
import Derived.Test.YtkmadibfiikleaaDoorGSum
import Derived.Test.YtkmadibfiikleaaDoorXSpecA
import Derived.Test.YtkmadibfiikleaaDoorIRatio
import Derived.Test.YtkmadibfiikleaaDoorFromW
namespace Go.Proofs.YtkmadibfiikleaaDoor
open Go.RowKit Go.Deep

namespace Ga
/-- The sign of a sum that is nothing. -/
def St.zs (s : St) : Bool := decide (0 < s.c ∧ s.z = s.c)

/-- What is answered for the sum divided by q. -/
def St.Is (s : St) (q r : Int) : Prop := if s.Odd then r = s.told else Ie.RS (s.P - s.N) (2 ^ 1074 * q) s.zs r

theorem is_round {s : St} {q x : Int} (hs : ¬ s.Odd) (hne : s.P ≠ s.N) (h : Ie.Rnd (if s.P < s.N then s.N - s.P else s.P - s.N) q (-2148) false x) : s.Is q (Ie.sg (decide (s.P < s.N)) x) := by
  rw [St.Is, if_neg hs]
  have hN := h 1 1074 (by decide)
  rw [Int.mul_comm q] at hN
  refine ⟨decide (s.P < s.N), if s.P < s.N then s.N - s.P else s.P - s.N, x, rfl, ?_, ?_, ?_, fun h0 => by omega⟩
  · by_cases hlt : s.P < s.N
    · rw [if_pos hlt, decide_eq_true hlt, Ie.sn_true]; omega
    · rw [if_neg hlt, decide_eq_false hlt, Ie.sn_false]
  · split <;> omega
  · rw [Int.mul_comm 2]; exact hN

theorem is_zero {s : St} {q : Int} (hs : ¬ s.Odd) (hne : s.P = s.N) (hq : 0 < q) : s.Is q (if 0 < s.c ∧ s.z = s.c then 9223372036854775808 else 0) := by
  rw [St.Is, if_neg hs, hne, Int.sub_self]
  have hN := Ie.rnd_zero q (-2148) false hq 1 1074 (by decide)
  rw [Int.zero_mul, Int.mul_comm q] at hN
  refine ⟨s.zs, 0, 0, ?_, by rw [Ie.sn_zero], Int.le_refl 0, hN, fun _ => rfl⟩
  by_cases h : 0 < s.c ∧ s.z = s.c
  · rw [if_pos h, St.zs, decide_eq_true h]; rfl
  · rw [if_neg h, St.zs, decide_eq_false h]; rfl
end Ga

set_option maxRecDepth 100000 in
set_option maxHeartbeats 4000000 in
theorem over_any (g : Nat) (s : Ga.St) (w : World) (h : AccAt w g s) (hT : Tab w) (q : Int) (q0 : 0 < q) (q1 : q ≤ 1099511627776) :
    Calls Tryd.prog 34 #[.pointer (some ⟨g, 0, none⟩), .int .i64 q] w fun e w' => ∃ r, e = .returned (.int .u64 r) ∧ Hid (s.Is q r) ∧ Below w.heap.size w w' := by
  have VD := hid (verdict_any g s w h)
  by_cases ho : s.Odd
  · rw [decide_eq_true ho] at VD
    have E : Hid (s.Is q s.told) := by rw [Hid, Ga.St.Is, if_pos ho]
    clear h hT
    go_enter Tryd.func34, Tryd.ntmps34
    go_wp2_with fail
    refine VD.out.mono ?_
    rintro e w' ⟨rfl, rfl⟩
    go_wp2_with fail
    go_ret
    exact ⟨_, rfl, E, Below.refl _ _⟩
  · rw [decide_eq_false ho] at VD
    have SM := hid (gsum_any g s w h)
    have ok := h.ok
    have rm := ok.room
    by_cases hne : s.P = s.N
    · have E := hid (Ga.is_zero (q := q) ho hne q0)
      have NT := hid (fun (wx : World) (hb : Below w.heap.size w wx) => nothing_any g s wx (h.on hb))
      rw [if_neg (by omega), decide_eq_false (by omega), show s.P - s.N = 0 by omega] at SM
      obtain ⟨V, hV⟩ : ∃ V, (if 0 < s.c ∧ s.z = s.c then (9223372036854775808 : Int) else 0) = V := ⟨_, rfl⟩
      rw [hV] at E NT
      clear h hT hV
      go_enter Tryd.func34, Tryd.ntmps34
      go_wp2_with fail
      refine VD.out.mono ?_
      rintro e w' ⟨rfl, rfl⟩
      go_wp2_with fail
      refine SM.out.mono ?_
      rintro e w1 ⟨r, os, rfl, A, hB⟩
      have l0 : os.length = 0 := by rw [← A.2.2.1]; exact (Nm.tsize_zero_iff A.2.1).2 A.2.2.2.1
      have l1 : (os.length : Int) = 0 := by omega
      have NT1 := hid (NT.out w1 hB)
      have HB := hid hB
      clear A hB NT
      go_wp2_with fail
      refine NT1.out.mono ?_
      rintro e w2 ⟨rfl, k, rfl⟩
      go_wp2_with fail
      go_ret
      exact ⟨_, rfl, E, ⟨HB.out.os, HB.out.tape, HB.out.output, HB.out.size, HB.out.block⟩⟩
    · have FU := hid (fun (wx : World) => fromUint_any q wx (by omega) (by omega))
      obtain ⟨neg, hneg⟩ : ∃ neg, decide (s.P < s.N) = neg := ⟨_, rfl⟩
      obtain ⟨V, hV⟩ : ∃ V, (if s.P < s.N then s.N - s.P else s.P - s.N) = V := ⟨_, rfl⟩
      have Vb : V ≠ 0 ∧ V < Nm.pw 67 := by
        have := ok.P0
        have := ok.N0
        rw [← hV]; split <;> omega
      have IR : Hid (∀ x, Ie.Rnd V q (-2148) false x → s.Is q (Ie.sg neg x)) := fun x hx => by
        rw [← hneg]
        exact Ga.is_round ho hne (by rw [hV]; exact hx)
      rw [hneg, hV] at SM
      have RR : Hid (∀ (wx : World) (p p' : Option Addr) (os os' : List Int), Below w.heap.size w wx → Ans w.heap.size wx p os V → Ans w.heap.size wx p' os' q → Calls Tryd.prog 60 #[.bool neg, .slice p os.length os.length, .slice p' os'.length os'.length, .int .i64 (-2148)] wx fun r w' => ∃ x, r = .returned (.tuple #[.int .u64 (Ie.sg neg x), .int .i64 0]) ∧ Ie.Rnd V q (-2148) false x ∧ Below wx.heap.size wx w') := by
        intro wx p p' os os' hb A A'
        have l1 : Nm.tsize os ≤ 67 := (Nm.tsize_le_iff A.2.1 67).2 (by rw [A.2.2.2.1]; exact Vb.2)
        have l2 : Nm.tsize os' ≤ 1 := (Nm.tsize_le_iff A'.2.1 1).2 (by rw [A'.2.2.2.1, Nm.pw_succ, Nm.pw]; omega)
        have l3 := A.2.2.1
        have l4 := A'.2.2.1
        exact roundRatio_any neg p p' _ _ _ _ os os' wx (A.arg (by omega)) (A'.arg (by omega)) (hT.below hb) (by omega) (by omega) V q (-2148) A.2.2.2.1 A'.2.2.2.1 q0
      have v0 := hid Vb.1
      clear h hT ok rm hneg hV Vb
      go_enter Tryd.func34, Tryd.ntmps34
      go_wp2_with fail
      refine VD.out.mono ?_
      rintro e w' ⟨rfl, rfl⟩
      go_wp2_with fail
      refine SM.out.mono ?_
      rintro e w1 ⟨r, os, rfl, A, hB⟩
      have l0 : ((os.length : Int) == 0) = false := by
        rw [beq_eq_false_iff_ne]
        intro hc
        apply v0.out
        rw [← A.2.2.2.1]
        exact (Nm.tsize_zero_iff A.2.1).1 (by rw [A.2.2.1]; omega)
      have HA := hid A
      have HB := hid hB
      clear A hB
      go_wp2_with fail
      refine (FU.out _).mono ?_
      rintro e w2 ⟨p', os', rfl, A', hB'⟩
      have HB2 := hid (HB.out.trans (hB'.mono HB.out.size))
      have R := hid (RR.out w2 r p' os os' HB2.out (HA.out.below hB' (Nat.le_refl _)) (A'.lower HB.out.size))
      clear A' hB' HA
      go_wp2_with fail
      refine R.out.mono ?_
      rintro e w3 ⟨x, rfl, hR, hB3⟩
      have E := hid (IR.out x hR)
      have HB3 := hid (HB2.out.trans (hB3.mono HB2.out.size))
      clear hR hB3
      go_wp2_with fail
      go_ret
      exact ⟨_, rfl, E, HB3.out⟩

set_option maxRecDepth 100000 in
theorem value_any (g : Nat) (s : Ga.St) (w : World) (h : AccAt w g s) (hT : Tab w) :
    Calls Tryd.prog 19 #[.pointer (some ⟨g, 0, none⟩)] w fun e w' => ∃ r, e = .returned (.int .u64 r) ∧ Hid (s.Is 1 r) ∧ Below w.heap.size w w' := by
  have O := hid (over_any g s w h hT 1 (by decide) (by decide))
  clear h hT
  go_enter Tryd.func19, Tryd.ntmps19
  go_wp2_with fail
  refine O.out.mono ?_
  rintro e w' ⟨r, rfl, E, hB⟩
  have HB := hid hB
  clear hB
  go_wp2_with fail
  go_ret
  exact ⟨r, rfl, E, HB.out⟩

end Go.Proofs.YtkmadibfiikleaaDoor
