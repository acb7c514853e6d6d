/-
  abacusref24: fields (mktrh.py).
-/
import Derived.Test.YthachcidfnjbaaaTrH
import Derived.Deep.CutRange
import Derived.Deep.CutBlock
import Derived.Deep.DeepCutAuto
namespace Go.Proofs.Ythachcidfnjbaaa
open Go Go.RowKit Go.Deep

namespace Tr
def ob (k : Int) : Int := if k = 10 ∨ k = 12 ∨ k = 17 then 6 else if k = 18 then 4 else if k = 19 then 13 else 0
def rf (k f : Int) : Int := if k = 5 ∨ k = 6 ∨ fi k f then 64 else if k = 3 then 256 else 1
def fok (x : Nd) : Prop := (if ob x.kind = 0 then x.op = 0 else 1 ≤ x.op ∧ x.op ≤ ob x.kind) ∧ 0 ≤ x.ref ∧ x.ref < rf x.kind x.op ∧ (x.kind = 1 ∨ x.num = 0) ∧ (x.kind = 2 ∨ x.str.toList = [])
instance (x : Nd) : Decidable (fok x) := by unfold fok; exact inferInstance
theorem ob_case (k : Int) : ob k = 0 ∨ 1 ≤ ob k := by
  unfold ob
  split
  · exact .inr (by decide)
  · split
    · exact .inr (by decide)
    · split
      · exact .inr (by decide)
      · exact .inl rfl
end Tr

set_option maxRecDepth 100000 in
set_option maxHeartbeats 8000000 in
theorem rfok_any (k p q n m : Int) (s : ByteArray) (w : World) : Calls Try.prog 17 #[.agg #[.int .i64 k, .int .i64 p, .int .i64 q, .int .i64 n, .int .u64 m, .string s]] w fun e w' => e = .returned (.bool (decide (Tr.fok ⟨k, p, q, n, m, s⟩))) ∧ Below w.heap.size w w' := by
  have FI := hid (rfi_any k p q n m s)
  have NB := hid (Bx.new w 34 #[.int .i64 k, .int .i64 p, .int .i64 q, .int .i64 n, .int .u64 m, .string s])
  have BB := hid (alloc_b w (.cells #[.int .i64 k, .int .i64 p, .int .i64 q, .int .i64 n, .int .u64 m, .string s] 34))
  have D : Hid (∀ z : Bool, (Tr.fok ⟨k, p, q, n, m, s⟩ ↔ z = true) → decide (Tr.fok ⟨k, p, q, n, m, s⟩) = z) := fun z hz => by
    cases z with
    | true => exact decide_eq_true (hz.2 rfl)
    | false => exact decide_eq_false (fun y => Bool.false_ne_true (hz.1 y))
  by_cases k1 : k = 1
  · subst k1
    have FO : Hid (Tr.fok ⟨1, p, q, n, m, s⟩ ↔ (p = 0 ∧ True ∧ 0 ≤ q ∧ q < 1 ∧ True ∧ s.toList = [])) := by rw [Hid]; simp [Tr.fok, Tr.ob, Tr.rf, Tr.fi]
    rw [decide_eq_false (show ¬ Tr.fi 1 p by simp [Tr.fi])] at FI
    by_cases hp : p = 0
    · subst hp
      by_cases q0 : 0 ≤ q
      · by_cases q1 : q < 1
        · have tt : True := trivial
          by_cases hs : s.toList = []
          · have NE2 : s.toList.isEmpty = true := by rw [hs]; rfl
            have e := D.out true (FO.out.trans ⟨fun _ => rfl, fun _ => ⟨rfl, trivial, q0, q1, trivial, hs⟩⟩)
            rw [e]
            clear e FO D 
            go_enter Try.func17, Try.ntmps17
            go_wp2_with (go_at_call 23; refine (FI.out _).mono ?_; rintro e w2 ⟨rfl, hB⟩; obtain ⟨⟨c0, c1, c2, c3, c4, c5⟩, -⟩ := bx6 (Bx.on NB.out hB); have B2 := hid (below_on BB.out hB); clear hB)
            go_ret
            first | exact ⟨rfl, B2.out⟩ | exact ⟨rfl, BB.out⟩
          · have NE2 : s.toList.isEmpty = false := by cases h : s.toList with | nil => exact absurd h hs | cons c l => rfl
            have e := D.out false (FO.out.trans ⟨fun y => absurd y.2.2.2.2.2 hs, fun y => by cases y⟩)
            rw [e]
            clear e FO D 
            go_enter Try.func17, Try.ntmps17
            go_wp2_with (go_at_call 23; refine (FI.out _).mono ?_; rintro e w2 ⟨rfl, hB⟩; obtain ⟨⟨c0, c1, c2, c3, c4, c5⟩, -⟩ := bx6 (Bx.on NB.out hB); have B2 := hid (below_on BB.out hB); clear hB)
            go_ret
            first | exact ⟨rfl, B2.out⟩ | exact ⟨rfl, BB.out⟩
        · have q2 : 1 ≤ q := by omega
          have e := D.out false (FO.out.trans ⟨fun y => absurd y.2.2.2.1 q1, fun y => by cases y⟩)
          rw [e]
          clear e FO D 
          go_enter Try.func17, Try.ntmps17
          go_wp2_with (go_at_call 23; refine (FI.out _).mono ?_; rintro e w2 ⟨rfl, hB⟩; obtain ⟨⟨c0, c1, c2, c3, c4, c5⟩, -⟩ := bx6 (Bx.on NB.out hB); have B2 := hid (below_on BB.out hB); clear hB)
          go_ret
          first | exact ⟨rfl, B2.out⟩ | exact ⟨rfl, BB.out⟩
      · have q2 : q < 0 := by omega
        have e := D.out false (FO.out.trans ⟨fun y => absurd y.2.2.1 q0, fun y => by cases y⟩)
        rw [e]
        clear e FO D 
        go_enter Try.func17, Try.ntmps17
        go_wp2_with (go_at_call 23; refine (FI.out _).mono ?_; rintro e w2 ⟨rfl, hB⟩; obtain ⟨⟨c0, c1, c2, c3, c4, c5⟩, -⟩ := bx6 (Bx.on NB.out hB); have B2 := hid (below_on BB.out hB); clear hB)
        go_ret
        first | exact ⟨rfl, B2.out⟩ | exact ⟨rfl, BB.out⟩
    · have bp := beq_false_of_ne hp
      have e := D.out false (FO.out.trans ⟨fun y => absurd y.1 hp, fun y => by cases y⟩)
      rw [e]
      clear e FO D 
      go_enter Try.func17, Try.ntmps17
      go_wp2_with (go_at_call 23; refine (FI.out _).mono ?_; rintro e w2 ⟨rfl, hB⟩; obtain ⟨⟨c0, c1, c2, c3, c4, c5⟩, -⟩ := bx6 (Bx.on NB.out hB); have B2 := hid (below_on BB.out hB); clear hB)
      go_ret
      first | exact ⟨rfl, B2.out⟩ | exact ⟨rfl, BB.out⟩
  by_cases k2 : k = 2
  · subst k2
    have FO : Hid (Tr.fok ⟨2, p, q, n, m, s⟩ ↔ (p = 0 ∧ True ∧ 0 ≤ q ∧ q < 1 ∧ m = 0 ∧ True)) := by rw [Hid]; simp [Tr.fok, Tr.ob, Tr.rf, Tr.fi]
    rw [decide_eq_false (show ¬ Tr.fi 2 p by simp [Tr.fi])] at FI
    by_cases hp : p = 0
    · subst hp
      by_cases q0 : 0 ≤ q
      · by_cases q1 : q < 1
        · by_cases hm : m = 0
          · subst hm
            have e := D.out true (FO.out.trans ⟨fun _ => rfl, fun _ => ⟨rfl, trivial, q0, q1, rfl, trivial⟩⟩)
            rw [e]
            clear e FO D 
            go_enter Try.func17, Try.ntmps17
            go_wp2_with (go_at_call 23; refine (FI.out _).mono ?_; rintro e w2 ⟨rfl, hB⟩; obtain ⟨⟨c0, c1, c2, c3, c4, c5⟩, -⟩ := bx6 (Bx.on NB.out hB); have B2 := hid (below_on BB.out hB); clear hB)
            go_ret
            first | exact ⟨rfl, B2.out⟩ | exact ⟨rfl, BB.out⟩
          · have bm := beq_false_of_ne hm
            have e := D.out false (FO.out.trans ⟨fun y => absurd y.2.2.2.2.1 hm, fun y => by cases y⟩)
            rw [e]
            clear e FO D 
            go_enter Try.func17, Try.ntmps17
            go_wp2_with (go_at_call 23; refine (FI.out _).mono ?_; rintro e w2 ⟨rfl, hB⟩; obtain ⟨⟨c0, c1, c2, c3, c4, c5⟩, -⟩ := bx6 (Bx.on NB.out hB); have B2 := hid (below_on BB.out hB); clear hB)
            go_ret
            first | exact ⟨rfl, B2.out⟩ | exact ⟨rfl, BB.out⟩
        · have q2 : 1 ≤ q := by omega
          have e := D.out false (FO.out.trans ⟨fun y => absurd y.2.2.2.1 q1, fun y => by cases y⟩)
          rw [e]
          clear e FO D 
          go_enter Try.func17, Try.ntmps17
          go_wp2_with (go_at_call 23; refine (FI.out _).mono ?_; rintro e w2 ⟨rfl, hB⟩; obtain ⟨⟨c0, c1, c2, c3, c4, c5⟩, -⟩ := bx6 (Bx.on NB.out hB); have B2 := hid (below_on BB.out hB); clear hB)
          go_ret
          first | exact ⟨rfl, B2.out⟩ | exact ⟨rfl, BB.out⟩
      · have q2 : q < 0 := by omega
        have e := D.out false (FO.out.trans ⟨fun y => absurd y.2.2.1 q0, fun y => by cases y⟩)
        rw [e]
        clear e FO D 
        go_enter Try.func17, Try.ntmps17
        go_wp2_with (go_at_call 23; refine (FI.out _).mono ?_; rintro e w2 ⟨rfl, hB⟩; obtain ⟨⟨c0, c1, c2, c3, c4, c5⟩, -⟩ := bx6 (Bx.on NB.out hB); have B2 := hid (below_on BB.out hB); clear hB)
        go_ret
        first | exact ⟨rfl, B2.out⟩ | exact ⟨rfl, BB.out⟩
    · have bp := beq_false_of_ne hp
      have e := D.out false (FO.out.trans ⟨fun y => absurd y.1 hp, fun y => by cases y⟩)
      rw [e]
      clear e FO D 
      go_enter Try.func17, Try.ntmps17
      go_wp2_with (go_at_call 23; refine (FI.out _).mono ?_; rintro e w2 ⟨rfl, hB⟩; obtain ⟨⟨c0, c1, c2, c3, c4, c5⟩, -⟩ := bx6 (Bx.on NB.out hB); have B2 := hid (below_on BB.out hB); clear hB)
      go_ret
      first | exact ⟨rfl, B2.out⟩ | exact ⟨rfl, BB.out⟩
  by_cases k3 : k = 3
  · subst k3
    have FO : Hid (Tr.fok ⟨3, p, q, n, m, s⟩ ↔ (p = 0 ∧ True ∧ 0 ≤ q ∧ q < 256 ∧ m = 0 ∧ s.toList = [])) := by rw [Hid]; simp [Tr.fok, Tr.ob, Tr.rf, Tr.fi]
    rw [decide_eq_false (show ¬ Tr.fi 3 p by simp [Tr.fi])] at FI
    by_cases hp : p = 0
    · subst hp
      by_cases q0 : 0 ≤ q
      · by_cases q1 : q < 256
        · by_cases hm : m = 0
          · subst hm
            by_cases hs : s.toList = []
            · have NE2 : s.toList.isEmpty = true := by rw [hs]; rfl
              have e := D.out true (FO.out.trans ⟨fun _ => rfl, fun _ => ⟨rfl, trivial, q0, q1, rfl, hs⟩⟩)
              rw [e]
              clear e FO D 
              go_enter Try.func17, Try.ntmps17
              go_wp2_with (go_at_call 23; refine (FI.out _).mono ?_; rintro e w2 ⟨rfl, hB⟩; obtain ⟨⟨c0, c1, c2, c3, c4, c5⟩, -⟩ := bx6 (Bx.on NB.out hB); have B2 := hid (below_on BB.out hB); clear hB)
              go_ret
              first | exact ⟨rfl, B2.out⟩ | exact ⟨rfl, BB.out⟩
            · have NE2 : s.toList.isEmpty = false := by cases h : s.toList with | nil => exact absurd h hs | cons c l => rfl
              have e := D.out false (FO.out.trans ⟨fun y => absurd y.2.2.2.2.2 hs, fun y => by cases y⟩)
              rw [e]
              clear e FO D 
              go_enter Try.func17, Try.ntmps17
              go_wp2_with (go_at_call 23; refine (FI.out _).mono ?_; rintro e w2 ⟨rfl, hB⟩; obtain ⟨⟨c0, c1, c2, c3, c4, c5⟩, -⟩ := bx6 (Bx.on NB.out hB); have B2 := hid (below_on BB.out hB); clear hB)
              go_ret
              first | exact ⟨rfl, B2.out⟩ | exact ⟨rfl, BB.out⟩
          · have bm := beq_false_of_ne hm
            have e := D.out false (FO.out.trans ⟨fun y => absurd y.2.2.2.2.1 hm, fun y => by cases y⟩)
            rw [e]
            clear e FO D 
            go_enter Try.func17, Try.ntmps17
            go_wp2_with (go_at_call 23; refine (FI.out _).mono ?_; rintro e w2 ⟨rfl, hB⟩; obtain ⟨⟨c0, c1, c2, c3, c4, c5⟩, -⟩ := bx6 (Bx.on NB.out hB); have B2 := hid (below_on BB.out hB); clear hB)
            go_ret
            first | exact ⟨rfl, B2.out⟩ | exact ⟨rfl, BB.out⟩
        · have q2 : 256 ≤ q := by omega
          have e := D.out false (FO.out.trans ⟨fun y => absurd y.2.2.2.1 q1, fun y => by cases y⟩)
          rw [e]
          clear e FO D 
          go_enter Try.func17, Try.ntmps17
          go_wp2_with (go_at_call 23; refine (FI.out _).mono ?_; rintro e w2 ⟨rfl, hB⟩; obtain ⟨⟨c0, c1, c2, c3, c4, c5⟩, -⟩ := bx6 (Bx.on NB.out hB); have B2 := hid (below_on BB.out hB); clear hB)
          go_ret
          first | exact ⟨rfl, B2.out⟩ | exact ⟨rfl, BB.out⟩
      · have q2 : q < 0 := by omega
        have e := D.out false (FO.out.trans ⟨fun y => absurd y.2.2.1 q0, fun y => by cases y⟩)
        rw [e]
        clear e FO D 
        go_enter Try.func17, Try.ntmps17
        go_wp2_with (go_at_call 23; refine (FI.out _).mono ?_; rintro e w2 ⟨rfl, hB⟩; obtain ⟨⟨c0, c1, c2, c3, c4, c5⟩, -⟩ := bx6 (Bx.on NB.out hB); have B2 := hid (below_on BB.out hB); clear hB)
        go_ret
        first | exact ⟨rfl, B2.out⟩ | exact ⟨rfl, BB.out⟩
    · have bp := beq_false_of_ne hp
      have e := D.out false (FO.out.trans ⟨fun y => absurd y.1 hp, fun y => by cases y⟩)
      rw [e]
      clear e FO D 
      go_enter Try.func17, Try.ntmps17
      go_wp2_with (go_at_call 23; refine (FI.out _).mono ?_; rintro e w2 ⟨rfl, hB⟩; obtain ⟨⟨c0, c1, c2, c3, c4, c5⟩, -⟩ := bx6 (Bx.on NB.out hB); have B2 := hid (below_on BB.out hB); clear hB)
      go_ret
      first | exact ⟨rfl, B2.out⟩ | exact ⟨rfl, BB.out⟩
  by_cases k5 : k = 5
  · subst k5
    have FO : Hid (Tr.fok ⟨5, p, q, n, m, s⟩ ↔ (p = 0 ∧ True ∧ 0 ≤ q ∧ q < 64 ∧ m = 0 ∧ s.toList = [])) := by rw [Hid]; simp [Tr.fok, Tr.ob, Tr.rf, Tr.fi]
    by_cases hp : p = 0
    · subst hp
      by_cases q0 : 0 ≤ q
      · by_cases q1 : q < 64
        · by_cases hm : m = 0
          · subst hm
            by_cases hs : s.toList = []
            · have NE2 : s.toList.isEmpty = true := by rw [hs]; rfl
              have e := D.out true (FO.out.trans ⟨fun _ => rfl, fun _ => ⟨rfl, trivial, q0, q1, rfl, hs⟩⟩)
              rw [e]
              clear e FO D 
              go_enter Try.func17, Try.ntmps17
              go_wp2_with (go_at_call 23; refine (FI.out _).mono ?_; rintro e w2 ⟨rfl, hB⟩; obtain ⟨⟨c0, c1, c2, c3, c4, c5⟩, -⟩ := bx6 (Bx.on NB.out hB); have B2 := hid (below_on BB.out hB); clear hB)
              go_ret
              first | exact ⟨rfl, B2.out⟩ | exact ⟨rfl, BB.out⟩
            · have NE2 : s.toList.isEmpty = false := by cases h : s.toList with | nil => exact absurd h hs | cons c l => rfl
              have e := D.out false (FO.out.trans ⟨fun y => absurd y.2.2.2.2.2 hs, fun y => by cases y⟩)
              rw [e]
              clear e FO D 
              go_enter Try.func17, Try.ntmps17
              go_wp2_with (go_at_call 23; refine (FI.out _).mono ?_; rintro e w2 ⟨rfl, hB⟩; obtain ⟨⟨c0, c1, c2, c3, c4, c5⟩, -⟩ := bx6 (Bx.on NB.out hB); have B2 := hid (below_on BB.out hB); clear hB)
              go_ret
              first | exact ⟨rfl, B2.out⟩ | exact ⟨rfl, BB.out⟩
          · have bm := beq_false_of_ne hm
            have e := D.out false (FO.out.trans ⟨fun y => absurd y.2.2.2.2.1 hm, fun y => by cases y⟩)
            rw [e]
            clear e FO D 
            go_enter Try.func17, Try.ntmps17
            go_wp2_with (go_at_call 23; refine (FI.out _).mono ?_; rintro e w2 ⟨rfl, hB⟩; obtain ⟨⟨c0, c1, c2, c3, c4, c5⟩, -⟩ := bx6 (Bx.on NB.out hB); have B2 := hid (below_on BB.out hB); clear hB)
            go_ret
            first | exact ⟨rfl, B2.out⟩ | exact ⟨rfl, BB.out⟩
        · have q2 : 64 ≤ q := by omega
          have e := D.out false (FO.out.trans ⟨fun y => absurd y.2.2.2.1 q1, fun y => by cases y⟩)
          rw [e]
          clear e FO D 
          go_enter Try.func17, Try.ntmps17
          go_wp2_with (go_at_call 23; refine (FI.out _).mono ?_; rintro e w2 ⟨rfl, hB⟩; obtain ⟨⟨c0, c1, c2, c3, c4, c5⟩, -⟩ := bx6 (Bx.on NB.out hB); have B2 := hid (below_on BB.out hB); clear hB)
          go_ret
          first | exact ⟨rfl, B2.out⟩ | exact ⟨rfl, BB.out⟩
      · have q2 : q < 0 := by omega
        have e := D.out false (FO.out.trans ⟨fun y => absurd y.2.2.1 q0, fun y => by cases y⟩)
        rw [e]
        clear e FO D 
        go_enter Try.func17, Try.ntmps17
        go_wp2_with (go_at_call 23; refine (FI.out _).mono ?_; rintro e w2 ⟨rfl, hB⟩; obtain ⟨⟨c0, c1, c2, c3, c4, c5⟩, -⟩ := bx6 (Bx.on NB.out hB); have B2 := hid (below_on BB.out hB); clear hB)
        go_ret
        first | exact ⟨rfl, B2.out⟩ | exact ⟨rfl, BB.out⟩
    · have bp := beq_false_of_ne hp
      have e := D.out false (FO.out.trans ⟨fun y => absurd y.1 hp, fun y => by cases y⟩)
      rw [e]
      clear e FO D 
      go_enter Try.func17, Try.ntmps17
      go_wp2_with (go_at_call 23; refine (FI.out _).mono ?_; rintro e w2 ⟨rfl, hB⟩; obtain ⟨⟨c0, c1, c2, c3, c4, c5⟩, -⟩ := bx6 (Bx.on NB.out hB); have B2 := hid (below_on BB.out hB); clear hB)
      go_ret
      first | exact ⟨rfl, B2.out⟩ | exact ⟨rfl, BB.out⟩
  by_cases k6 : k = 6
  · subst k6
    have FO : Hid (Tr.fok ⟨6, p, q, n, m, s⟩ ↔ (p = 0 ∧ True ∧ 0 ≤ q ∧ q < 64 ∧ m = 0 ∧ s.toList = [])) := by rw [Hid]; simp [Tr.fok, Tr.ob, Tr.rf, Tr.fi]
    by_cases hp : p = 0
    · subst hp
      by_cases q0 : 0 ≤ q
      · by_cases q1 : q < 64
        · by_cases hm : m = 0
          · subst hm
            by_cases hs : s.toList = []
            · have NE2 : s.toList.isEmpty = true := by rw [hs]; rfl
              have e := D.out true (FO.out.trans ⟨fun _ => rfl, fun _ => ⟨rfl, trivial, q0, q1, rfl, hs⟩⟩)
              rw [e]
              clear e FO D 
              go_enter Try.func17, Try.ntmps17
              go_wp2_with (go_at_call 23; refine (FI.out _).mono ?_; rintro e w2 ⟨rfl, hB⟩; obtain ⟨⟨c0, c1, c2, c3, c4, c5⟩, -⟩ := bx6 (Bx.on NB.out hB); have B2 := hid (below_on BB.out hB); clear hB)
              go_ret
              first | exact ⟨rfl, B2.out⟩ | exact ⟨rfl, BB.out⟩
            · have NE2 : s.toList.isEmpty = false := by cases h : s.toList with | nil => exact absurd h hs | cons c l => rfl
              have e := D.out false (FO.out.trans ⟨fun y => absurd y.2.2.2.2.2 hs, fun y => by cases y⟩)
              rw [e]
              clear e FO D 
              go_enter Try.func17, Try.ntmps17
              go_wp2_with (go_at_call 23; refine (FI.out _).mono ?_; rintro e w2 ⟨rfl, hB⟩; obtain ⟨⟨c0, c1, c2, c3, c4, c5⟩, -⟩ := bx6 (Bx.on NB.out hB); have B2 := hid (below_on BB.out hB); clear hB)
              go_ret
              first | exact ⟨rfl, B2.out⟩ | exact ⟨rfl, BB.out⟩
          · have bm := beq_false_of_ne hm
            have e := D.out false (FO.out.trans ⟨fun y => absurd y.2.2.2.2.1 hm, fun y => by cases y⟩)
            rw [e]
            clear e FO D 
            go_enter Try.func17, Try.ntmps17
            go_wp2_with (go_at_call 23; refine (FI.out _).mono ?_; rintro e w2 ⟨rfl, hB⟩; obtain ⟨⟨c0, c1, c2, c3, c4, c5⟩, -⟩ := bx6 (Bx.on NB.out hB); have B2 := hid (below_on BB.out hB); clear hB)
            go_ret
            first | exact ⟨rfl, B2.out⟩ | exact ⟨rfl, BB.out⟩
        · have q2 : 64 ≤ q := by omega
          have e := D.out false (FO.out.trans ⟨fun y => absurd y.2.2.2.1 q1, fun y => by cases y⟩)
          rw [e]
          clear e FO D 
          go_enter Try.func17, Try.ntmps17
          go_wp2_with (go_at_call 23; refine (FI.out _).mono ?_; rintro e w2 ⟨rfl, hB⟩; obtain ⟨⟨c0, c1, c2, c3, c4, c5⟩, -⟩ := bx6 (Bx.on NB.out hB); have B2 := hid (below_on BB.out hB); clear hB)
          go_ret
          first | exact ⟨rfl, B2.out⟩ | exact ⟨rfl, BB.out⟩
      · have q2 : q < 0 := by omega
        have e := D.out false (FO.out.trans ⟨fun y => absurd y.2.2.1 q0, fun y => by cases y⟩)
        rw [e]
        clear e FO D 
        go_enter Try.func17, Try.ntmps17
        go_wp2_with (go_at_call 23; refine (FI.out _).mono ?_; rintro e w2 ⟨rfl, hB⟩; obtain ⟨⟨c0, c1, c2, c3, c4, c5⟩, -⟩ := bx6 (Bx.on NB.out hB); have B2 := hid (below_on BB.out hB); clear hB)
        go_ret
        first | exact ⟨rfl, B2.out⟩ | exact ⟨rfl, BB.out⟩
    · have bp := beq_false_of_ne hp
      have e := D.out false (FO.out.trans ⟨fun y => absurd y.1 hp, fun y => by cases y⟩)
      rw [e]
      clear e FO D 
      go_enter Try.func17, Try.ntmps17
      go_wp2_with (go_at_call 23; refine (FI.out _).mono ?_; rintro e w2 ⟨rfl, hB⟩; obtain ⟨⟨c0, c1, c2, c3, c4, c5⟩, -⟩ := bx6 (Bx.on NB.out hB); have B2 := hid (below_on BB.out hB); clear hB)
      go_ret
      first | exact ⟨rfl, B2.out⟩ | exact ⟨rfl, BB.out⟩
  by_cases k10 : k = 10
  · subst k10
    have FO : Hid (Tr.fok ⟨10, p, q, n, m, s⟩ ↔ (1 ≤ p ∧ p ≤ 6 ∧ 0 ≤ q ∧ q < 1 ∧ m = 0 ∧ s.toList = [])) := by rw [Hid]; simp [Tr.fok, Tr.ob, Tr.rf, Tr.fi, and_assoc]
    rw [decide_eq_false (show ¬ Tr.fi 10 p by simp [Tr.fi])] at FI
    by_cases p1 : 1 ≤ p
    · by_cases p2 : p ≤ 6
      · have p3 : ¬ p < 1 := by omega
        have p4 : ¬ 6 < p := by omega
        by_cases q0 : 0 ≤ q
        · by_cases q1 : q < 1
          · by_cases hm : m = 0
            · subst hm
              by_cases hs : s.toList = []
              · have NE2 : s.toList.isEmpty = true := by rw [hs]; rfl
                have e := D.out true (FO.out.trans ⟨fun _ => rfl, fun _ => ⟨p1, p2, q0, q1, rfl, hs⟩⟩)
                rw [e]
                clear e FO D 
                go_enter Try.func17, Try.ntmps17
                go_wp2_with (go_at_call 23; refine (FI.out _).mono ?_; rintro e w2 ⟨rfl, hB⟩; obtain ⟨⟨c0, c1, c2, c3, c4, c5⟩, -⟩ := bx6 (Bx.on NB.out hB); have B2 := hid (below_on BB.out hB); clear hB)
                go_ret
                first | exact ⟨rfl, B2.out⟩ | exact ⟨rfl, BB.out⟩
              · have NE2 : s.toList.isEmpty = false := by cases h : s.toList with | nil => exact absurd h hs | cons c l => rfl
                have e := D.out false (FO.out.trans ⟨fun y => absurd y.2.2.2.2.2 hs, fun y => by cases y⟩)
                rw [e]
                clear e FO D 
                go_enter Try.func17, Try.ntmps17
                go_wp2_with (go_at_call 23; refine (FI.out _).mono ?_; rintro e w2 ⟨rfl, hB⟩; obtain ⟨⟨c0, c1, c2, c3, c4, c5⟩, -⟩ := bx6 (Bx.on NB.out hB); have B2 := hid (below_on BB.out hB); clear hB)
                go_ret
                first | exact ⟨rfl, B2.out⟩ | exact ⟨rfl, BB.out⟩
            · have bm := beq_false_of_ne hm
              have e := D.out false (FO.out.trans ⟨fun y => absurd y.2.2.2.2.1 hm, fun y => by cases y⟩)
              rw [e]
              clear e FO D 
              go_enter Try.func17, Try.ntmps17
              go_wp2_with (go_at_call 23; refine (FI.out _).mono ?_; rintro e w2 ⟨rfl, hB⟩; obtain ⟨⟨c0, c1, c2, c3, c4, c5⟩, -⟩ := bx6 (Bx.on NB.out hB); have B2 := hid (below_on BB.out hB); clear hB)
              go_ret
              first | exact ⟨rfl, B2.out⟩ | exact ⟨rfl, BB.out⟩
          · have q2 : 1 ≤ q := by omega
            have e := D.out false (FO.out.trans ⟨fun y => absurd y.2.2.2.1 q1, fun y => by cases y⟩)
            rw [e]
            clear e FO D 
            go_enter Try.func17, Try.ntmps17
            go_wp2_with (go_at_call 23; refine (FI.out _).mono ?_; rintro e w2 ⟨rfl, hB⟩; obtain ⟨⟨c0, c1, c2, c3, c4, c5⟩, -⟩ := bx6 (Bx.on NB.out hB); have B2 := hid (below_on BB.out hB); clear hB)
            go_ret
            first | exact ⟨rfl, B2.out⟩ | exact ⟨rfl, BB.out⟩
        · have q2 : q < 0 := by omega
          have e := D.out false (FO.out.trans ⟨fun y => absurd y.2.2.1 q0, fun y => by cases y⟩)
          rw [e]
          clear e FO D 
          go_enter Try.func17, Try.ntmps17
          go_wp2_with (go_at_call 23; refine (FI.out _).mono ?_; rintro e w2 ⟨rfl, hB⟩; obtain ⟨⟨c0, c1, c2, c3, c4, c5⟩, -⟩ := bx6 (Bx.on NB.out hB); have B2 := hid (below_on BB.out hB); clear hB)
          go_ret
          first | exact ⟨rfl, B2.out⟩ | exact ⟨rfl, BB.out⟩
      · have p4 : 6 < p := by omega
        have e := D.out false (FO.out.trans ⟨fun y => absurd y.2.1 p2, fun y => by cases y⟩)
        rw [e]
        clear e FO D 
        go_enter Try.func17, Try.ntmps17
        go_wp2_with (go_at_call 23; refine (FI.out _).mono ?_; rintro e w2 ⟨rfl, hB⟩; obtain ⟨⟨c0, c1, c2, c3, c4, c5⟩, -⟩ := bx6 (Bx.on NB.out hB); have B2 := hid (below_on BB.out hB); clear hB)
        go_ret
        first | exact ⟨rfl, B2.out⟩ | exact ⟨rfl, BB.out⟩
    · have p3 : p < 1 := by omega
      have e := D.out false (FO.out.trans ⟨fun y => absurd y.1 p1, fun y => by cases y⟩)
      rw [e]
      clear e FO D 
      go_enter Try.func17, Try.ntmps17
      go_wp2_with (go_at_call 23; refine (FI.out _).mono ?_; rintro e w2 ⟨rfl, hB⟩; obtain ⟨⟨c0, c1, c2, c3, c4, c5⟩, -⟩ := bx6 (Bx.on NB.out hB); have B2 := hid (below_on BB.out hB); clear hB)
      go_ret
      first | exact ⟨rfl, B2.out⟩ | exact ⟨rfl, BB.out⟩
  by_cases k12 : k = 12
  · subst k12
    have FO : Hid (Tr.fok ⟨12, p, q, n, m, s⟩ ↔ (1 ≤ p ∧ p ≤ 6 ∧ 0 ≤ q ∧ q < 1 ∧ m = 0 ∧ s.toList = [])) := by rw [Hid]; simp [Tr.fok, Tr.ob, Tr.rf, Tr.fi, and_assoc]
    rw [decide_eq_false (show ¬ Tr.fi 12 p by simp [Tr.fi])] at FI
    by_cases p1 : 1 ≤ p
    · by_cases p2 : p ≤ 6
      · have p3 : ¬ p < 1 := by omega
        have p4 : ¬ 6 < p := by omega
        by_cases q0 : 0 ≤ q
        · by_cases q1 : q < 1
          · by_cases hm : m = 0
            · subst hm
              by_cases hs : s.toList = []
              · have NE2 : s.toList.isEmpty = true := by rw [hs]; rfl
                have e := D.out true (FO.out.trans ⟨fun _ => rfl, fun _ => ⟨p1, p2, q0, q1, rfl, hs⟩⟩)
                rw [e]
                clear e FO D 
                go_enter Try.func17, Try.ntmps17
                go_wp2_with (go_at_call 23; refine (FI.out _).mono ?_; rintro e w2 ⟨rfl, hB⟩; obtain ⟨⟨c0, c1, c2, c3, c4, c5⟩, -⟩ := bx6 (Bx.on NB.out hB); have B2 := hid (below_on BB.out hB); clear hB)
                go_ret
                first | exact ⟨rfl, B2.out⟩ | exact ⟨rfl, BB.out⟩
              · have NE2 : s.toList.isEmpty = false := by cases h : s.toList with | nil => exact absurd h hs | cons c l => rfl
                have e := D.out false (FO.out.trans ⟨fun y => absurd y.2.2.2.2.2 hs, fun y => by cases y⟩)
                rw [e]
                clear e FO D 
                go_enter Try.func17, Try.ntmps17
                go_wp2_with (go_at_call 23; refine (FI.out _).mono ?_; rintro e w2 ⟨rfl, hB⟩; obtain ⟨⟨c0, c1, c2, c3, c4, c5⟩, -⟩ := bx6 (Bx.on NB.out hB); have B2 := hid (below_on BB.out hB); clear hB)
                go_ret
                first | exact ⟨rfl, B2.out⟩ | exact ⟨rfl, BB.out⟩
            · have bm := beq_false_of_ne hm
              have e := D.out false (FO.out.trans ⟨fun y => absurd y.2.2.2.2.1 hm, fun y => by cases y⟩)
              rw [e]
              clear e FO D 
              go_enter Try.func17, Try.ntmps17
              go_wp2_with (go_at_call 23; refine (FI.out _).mono ?_; rintro e w2 ⟨rfl, hB⟩; obtain ⟨⟨c0, c1, c2, c3, c4, c5⟩, -⟩ := bx6 (Bx.on NB.out hB); have B2 := hid (below_on BB.out hB); clear hB)
              go_ret
              first | exact ⟨rfl, B2.out⟩ | exact ⟨rfl, BB.out⟩
          · have q2 : 1 ≤ q := by omega
            have e := D.out false (FO.out.trans ⟨fun y => absurd y.2.2.2.1 q1, fun y => by cases y⟩)
            rw [e]
            clear e FO D 
            go_enter Try.func17, Try.ntmps17
            go_wp2_with (go_at_call 23; refine (FI.out _).mono ?_; rintro e w2 ⟨rfl, hB⟩; obtain ⟨⟨c0, c1, c2, c3, c4, c5⟩, -⟩ := bx6 (Bx.on NB.out hB); have B2 := hid (below_on BB.out hB); clear hB)
            go_ret
            first | exact ⟨rfl, B2.out⟩ | exact ⟨rfl, BB.out⟩
        · have q2 : q < 0 := by omega
          have e := D.out false (FO.out.trans ⟨fun y => absurd y.2.2.1 q0, fun y => by cases y⟩)
          rw [e]
          clear e FO D 
          go_enter Try.func17, Try.ntmps17
          go_wp2_with (go_at_call 23; refine (FI.out _).mono ?_; rintro e w2 ⟨rfl, hB⟩; obtain ⟨⟨c0, c1, c2, c3, c4, c5⟩, -⟩ := bx6 (Bx.on NB.out hB); have B2 := hid (below_on BB.out hB); clear hB)
          go_ret
          first | exact ⟨rfl, B2.out⟩ | exact ⟨rfl, BB.out⟩
      · have p4 : 6 < p := by omega
        have e := D.out false (FO.out.trans ⟨fun y => absurd y.2.1 p2, fun y => by cases y⟩)
        rw [e]
        clear e FO D 
        go_enter Try.func17, Try.ntmps17
        go_wp2_with (go_at_call 23; refine (FI.out _).mono ?_; rintro e w2 ⟨rfl, hB⟩; obtain ⟨⟨c0, c1, c2, c3, c4, c5⟩, -⟩ := bx6 (Bx.on NB.out hB); have B2 := hid (below_on BB.out hB); clear hB)
        go_ret
        first | exact ⟨rfl, B2.out⟩ | exact ⟨rfl, BB.out⟩
    · have p3 : p < 1 := by omega
      have e := D.out false (FO.out.trans ⟨fun y => absurd y.1 p1, fun y => by cases y⟩)
      rw [e]
      clear e FO D 
      go_enter Try.func17, Try.ntmps17
      go_wp2_with (go_at_call 23; refine (FI.out _).mono ?_; rintro e w2 ⟨rfl, hB⟩; obtain ⟨⟨c0, c1, c2, c3, c4, c5⟩, -⟩ := bx6 (Bx.on NB.out hB); have B2 := hid (below_on BB.out hB); clear hB)
      go_ret
      first | exact ⟨rfl, B2.out⟩ | exact ⟨rfl, BB.out⟩
  by_cases k17 : k = 17
  · subst k17
    have FO : Hid (Tr.fok ⟨17, p, q, n, m, s⟩ ↔ (1 ≤ p ∧ p ≤ 6 ∧ 0 ≤ q ∧ q < 1 ∧ m = 0 ∧ s.toList = [])) := by rw [Hid]; simp [Tr.fok, Tr.ob, Tr.rf, Tr.fi, and_assoc]
    rw [decide_eq_false (show ¬ Tr.fi 17 p by simp [Tr.fi])] at FI
    by_cases p1 : 1 ≤ p
    · by_cases p2 : p ≤ 6
      · have p3 : ¬ p < 1 := by omega
        have p4 : ¬ 6 < p := by omega
        by_cases q0 : 0 ≤ q
        · by_cases q1 : q < 1
          · by_cases hm : m = 0
            · subst hm
              by_cases hs : s.toList = []
              · have NE2 : s.toList.isEmpty = true := by rw [hs]; rfl
                have e := D.out true (FO.out.trans ⟨fun _ => rfl, fun _ => ⟨p1, p2, q0, q1, rfl, hs⟩⟩)
                rw [e]
                clear e FO D 
                go_enter Try.func17, Try.ntmps17
                go_wp2_with (go_at_call 23; refine (FI.out _).mono ?_; rintro e w2 ⟨rfl, hB⟩; obtain ⟨⟨c0, c1, c2, c3, c4, c5⟩, -⟩ := bx6 (Bx.on NB.out hB); have B2 := hid (below_on BB.out hB); clear hB)
                go_ret
                first | exact ⟨rfl, B2.out⟩ | exact ⟨rfl, BB.out⟩
              · have NE2 : s.toList.isEmpty = false := by cases h : s.toList with | nil => exact absurd h hs | cons c l => rfl
                have e := D.out false (FO.out.trans ⟨fun y => absurd y.2.2.2.2.2 hs, fun y => by cases y⟩)
                rw [e]
                clear e FO D 
                go_enter Try.func17, Try.ntmps17
                go_wp2_with (go_at_call 23; refine (FI.out _).mono ?_; rintro e w2 ⟨rfl, hB⟩; obtain ⟨⟨c0, c1, c2, c3, c4, c5⟩, -⟩ := bx6 (Bx.on NB.out hB); have B2 := hid (below_on BB.out hB); clear hB)
                go_ret
                first | exact ⟨rfl, B2.out⟩ | exact ⟨rfl, BB.out⟩
            · have bm := beq_false_of_ne hm
              have e := D.out false (FO.out.trans ⟨fun y => absurd y.2.2.2.2.1 hm, fun y => by cases y⟩)
              rw [e]
              clear e FO D 
              go_enter Try.func17, Try.ntmps17
              go_wp2_with (go_at_call 23; refine (FI.out _).mono ?_; rintro e w2 ⟨rfl, hB⟩; obtain ⟨⟨c0, c1, c2, c3, c4, c5⟩, -⟩ := bx6 (Bx.on NB.out hB); have B2 := hid (below_on BB.out hB); clear hB)
              go_ret
              first | exact ⟨rfl, B2.out⟩ | exact ⟨rfl, BB.out⟩
          · have q2 : 1 ≤ q := by omega
            have e := D.out false (FO.out.trans ⟨fun y => absurd y.2.2.2.1 q1, fun y => by cases y⟩)
            rw [e]
            clear e FO D 
            go_enter Try.func17, Try.ntmps17
            go_wp2_with (go_at_call 23; refine (FI.out _).mono ?_; rintro e w2 ⟨rfl, hB⟩; obtain ⟨⟨c0, c1, c2, c3, c4, c5⟩, -⟩ := bx6 (Bx.on NB.out hB); have B2 := hid (below_on BB.out hB); clear hB)
            go_ret
            first | exact ⟨rfl, B2.out⟩ | exact ⟨rfl, BB.out⟩
        · have q2 : q < 0 := by omega
          have e := D.out false (FO.out.trans ⟨fun y => absurd y.2.2.1 q0, fun y => by cases y⟩)
          rw [e]
          clear e FO D 
          go_enter Try.func17, Try.ntmps17
          go_wp2_with (go_at_call 23; refine (FI.out _).mono ?_; rintro e w2 ⟨rfl, hB⟩; obtain ⟨⟨c0, c1, c2, c3, c4, c5⟩, -⟩ := bx6 (Bx.on NB.out hB); have B2 := hid (below_on BB.out hB); clear hB)
          go_ret
          first | exact ⟨rfl, B2.out⟩ | exact ⟨rfl, BB.out⟩
      · have p4 : 6 < p := by omega
        have e := D.out false (FO.out.trans ⟨fun y => absurd y.2.1 p2, fun y => by cases y⟩)
        rw [e]
        clear e FO D 
        go_enter Try.func17, Try.ntmps17
        go_wp2_with (go_at_call 23; refine (FI.out _).mono ?_; rintro e w2 ⟨rfl, hB⟩; obtain ⟨⟨c0, c1, c2, c3, c4, c5⟩, -⟩ := bx6 (Bx.on NB.out hB); have B2 := hid (below_on BB.out hB); clear hB)
        go_ret
        first | exact ⟨rfl, B2.out⟩ | exact ⟨rfl, BB.out⟩
    · have p3 : p < 1 := by omega
      have e := D.out false (FO.out.trans ⟨fun y => absurd y.1 p1, fun y => by cases y⟩)
      rw [e]
      clear e FO D 
      go_enter Try.func17, Try.ntmps17
      go_wp2_with (go_at_call 23; refine (FI.out _).mono ?_; rintro e w2 ⟨rfl, hB⟩; obtain ⟨⟨c0, c1, c2, c3, c4, c5⟩, -⟩ := bx6 (Bx.on NB.out hB); have B2 := hid (below_on BB.out hB); clear hB)
      go_ret
      first | exact ⟨rfl, B2.out⟩ | exact ⟨rfl, BB.out⟩
  by_cases k18 : k = 18
  · subst k18
    have FO : Hid (Tr.fok ⟨18, p, q, n, m, s⟩ ↔ (1 ≤ p ∧ p ≤ 4 ∧ 0 ≤ q ∧ q < 1 ∧ m = 0 ∧ s.toList = [])) := by rw [Hid]; simp [Tr.fok, Tr.ob, Tr.rf, Tr.fi, and_assoc]
    rw [decide_eq_false (show ¬ Tr.fi 18 p by simp [Tr.fi])] at FI
    by_cases p1 : 1 ≤ p
    · by_cases p2 : p ≤ 4
      · have p3 : ¬ p < 1 := by omega
        have p4 : ¬ 4 < p := by omega
        by_cases q0 : 0 ≤ q
        · by_cases q1 : q < 1
          · by_cases hm : m = 0
            · subst hm
              by_cases hs : s.toList = []
              · have NE2 : s.toList.isEmpty = true := by rw [hs]; rfl
                have e := D.out true (FO.out.trans ⟨fun _ => rfl, fun _ => ⟨p1, p2, q0, q1, rfl, hs⟩⟩)
                rw [e]
                clear e FO D 
                go_enter Try.func17, Try.ntmps17
                go_wp2_with (go_at_call 23; refine (FI.out _).mono ?_; rintro e w2 ⟨rfl, hB⟩; obtain ⟨⟨c0, c1, c2, c3, c4, c5⟩, -⟩ := bx6 (Bx.on NB.out hB); have B2 := hid (below_on BB.out hB); clear hB)
                go_ret
                first | exact ⟨rfl, B2.out⟩ | exact ⟨rfl, BB.out⟩
              · have NE2 : s.toList.isEmpty = false := by cases h : s.toList with | nil => exact absurd h hs | cons c l => rfl
                have e := D.out false (FO.out.trans ⟨fun y => absurd y.2.2.2.2.2 hs, fun y => by cases y⟩)
                rw [e]
                clear e FO D 
                go_enter Try.func17, Try.ntmps17
                go_wp2_with (go_at_call 23; refine (FI.out _).mono ?_; rintro e w2 ⟨rfl, hB⟩; obtain ⟨⟨c0, c1, c2, c3, c4, c5⟩, -⟩ := bx6 (Bx.on NB.out hB); have B2 := hid (below_on BB.out hB); clear hB)
                go_ret
                first | exact ⟨rfl, B2.out⟩ | exact ⟨rfl, BB.out⟩
            · have bm := beq_false_of_ne hm
              have e := D.out false (FO.out.trans ⟨fun y => absurd y.2.2.2.2.1 hm, fun y => by cases y⟩)
              rw [e]
              clear e FO D 
              go_enter Try.func17, Try.ntmps17
              go_wp2_with (go_at_call 23; refine (FI.out _).mono ?_; rintro e w2 ⟨rfl, hB⟩; obtain ⟨⟨c0, c1, c2, c3, c4, c5⟩, -⟩ := bx6 (Bx.on NB.out hB); have B2 := hid (below_on BB.out hB); clear hB)
              go_ret
              first | exact ⟨rfl, B2.out⟩ | exact ⟨rfl, BB.out⟩
          · have q2 : 1 ≤ q := by omega
            have e := D.out false (FO.out.trans ⟨fun y => absurd y.2.2.2.1 q1, fun y => by cases y⟩)
            rw [e]
            clear e FO D 
            go_enter Try.func17, Try.ntmps17
            go_wp2_with (go_at_call 23; refine (FI.out _).mono ?_; rintro e w2 ⟨rfl, hB⟩; obtain ⟨⟨c0, c1, c2, c3, c4, c5⟩, -⟩ := bx6 (Bx.on NB.out hB); have B2 := hid (below_on BB.out hB); clear hB)
            go_ret
            first | exact ⟨rfl, B2.out⟩ | exact ⟨rfl, BB.out⟩
        · have q2 : q < 0 := by omega
          have e := D.out false (FO.out.trans ⟨fun y => absurd y.2.2.1 q0, fun y => by cases y⟩)
          rw [e]
          clear e FO D 
          go_enter Try.func17, Try.ntmps17
          go_wp2_with (go_at_call 23; refine (FI.out _).mono ?_; rintro e w2 ⟨rfl, hB⟩; obtain ⟨⟨c0, c1, c2, c3, c4, c5⟩, -⟩ := bx6 (Bx.on NB.out hB); have B2 := hid (below_on BB.out hB); clear hB)
          go_ret
          first | exact ⟨rfl, B2.out⟩ | exact ⟨rfl, BB.out⟩
      · have p4 : 4 < p := by omega
        have e := D.out false (FO.out.trans ⟨fun y => absurd y.2.1 p2, fun y => by cases y⟩)
        rw [e]
        clear e FO D 
        go_enter Try.func17, Try.ntmps17
        go_wp2_with (go_at_call 23; refine (FI.out _).mono ?_; rintro e w2 ⟨rfl, hB⟩; obtain ⟨⟨c0, c1, c2, c3, c4, c5⟩, -⟩ := bx6 (Bx.on NB.out hB); have B2 := hid (below_on BB.out hB); clear hB)
        go_ret
        first | exact ⟨rfl, B2.out⟩ | exact ⟨rfl, BB.out⟩
    · have p3 : p < 1 := by omega
      have e := D.out false (FO.out.trans ⟨fun y => absurd y.1 p1, fun y => by cases y⟩)
      rw [e]
      clear e FO D 
      go_enter Try.func17, Try.ntmps17
      go_wp2_with (go_at_call 23; refine (FI.out _).mono ?_; rintro e w2 ⟨rfl, hB⟩; obtain ⟨⟨c0, c1, c2, c3, c4, c5⟩, -⟩ := bx6 (Bx.on NB.out hB); have B2 := hid (below_on BB.out hB); clear hB)
      go_ret
      first | exact ⟨rfl, B2.out⟩ | exact ⟨rfl, BB.out⟩
  by_cases k19 : k = 19
  · subst k19
    by_cases p5 : p = 5
    · subst p5
      have FO : Hid (Tr.fok ⟨19, 5, q, n, m, s⟩ ↔ (True ∧ True ∧ 0 ≤ q ∧ q < 64 ∧ m = 0 ∧ s.toList = [])) := by rw [Hid]; simp [Tr.fok, Tr.ob, Tr.rf, Tr.fi]
      rw [decide_eq_true (show Tr.fi 19 5 by simp [Tr.fi])] at FI
      by_cases q0 : 0 ≤ q
      · by_cases q1 : q < 64
        · by_cases hm : m = 0
          · subst hm
            by_cases hs : s.toList = []
            · have NE2 : s.toList.isEmpty = true := by rw [hs]; rfl
              have e := D.out true (FO.out.trans ⟨fun _ => rfl, fun _ => ⟨trivial, trivial, q0, q1, rfl, hs⟩⟩)
              rw [e]
              clear e FO D 
              go_enter Try.func17, Try.ntmps17
              go_wp2_with (go_at_call 23; refine (FI.out _).mono ?_; rintro e w2 ⟨rfl, hB⟩; obtain ⟨⟨c0, c1, c2, c3, c4, c5⟩, -⟩ := bx6 (Bx.on NB.out hB); have B2 := hid (below_on BB.out hB); clear hB)
              go_ret
              first | exact ⟨rfl, B2.out⟩ | exact ⟨rfl, BB.out⟩
            · have NE2 : s.toList.isEmpty = false := by cases h : s.toList with | nil => exact absurd h hs | cons c l => rfl
              have e := D.out false (FO.out.trans ⟨fun y => absurd y.2.2.2.2.2 hs, fun y => by cases y⟩)
              rw [e]
              clear e FO D 
              go_enter Try.func17, Try.ntmps17
              go_wp2_with (go_at_call 23; refine (FI.out _).mono ?_; rintro e w2 ⟨rfl, hB⟩; obtain ⟨⟨c0, c1, c2, c3, c4, c5⟩, -⟩ := bx6 (Bx.on NB.out hB); have B2 := hid (below_on BB.out hB); clear hB)
              go_ret
              first | exact ⟨rfl, B2.out⟩ | exact ⟨rfl, BB.out⟩
          · have bm := beq_false_of_ne hm
            have e := D.out false (FO.out.trans ⟨fun y => absurd y.2.2.2.2.1 hm, fun y => by cases y⟩)
            rw [e]
            clear e FO D 
            go_enter Try.func17, Try.ntmps17
            go_wp2_with (go_at_call 23; refine (FI.out _).mono ?_; rintro e w2 ⟨rfl, hB⟩; obtain ⟨⟨c0, c1, c2, c3, c4, c5⟩, -⟩ := bx6 (Bx.on NB.out hB); have B2 := hid (below_on BB.out hB); clear hB)
            go_ret
            first | exact ⟨rfl, B2.out⟩ | exact ⟨rfl, BB.out⟩
        · have q2 : 64 ≤ q := by omega
          have e := D.out false (FO.out.trans ⟨fun y => absurd y.2.2.2.1 q1, fun y => by cases y⟩)
          rw [e]
          clear e FO D 
          go_enter Try.func17, Try.ntmps17
          go_wp2_with (go_at_call 23; refine (FI.out _).mono ?_; rintro e w2 ⟨rfl, hB⟩; obtain ⟨⟨c0, c1, c2, c3, c4, c5⟩, -⟩ := bx6 (Bx.on NB.out hB); have B2 := hid (below_on BB.out hB); clear hB)
          go_ret
          first | exact ⟨rfl, B2.out⟩ | exact ⟨rfl, BB.out⟩
      · have q2 : q < 0 := by omega
        have e := D.out false (FO.out.trans ⟨fun y => absurd y.2.2.1 q0, fun y => by cases y⟩)
        rw [e]
        clear e FO D 
        go_enter Try.func17, Try.ntmps17
        go_wp2_with (go_at_call 23; refine (FI.out _).mono ?_; rintro e w2 ⟨rfl, hB⟩; obtain ⟨⟨c0, c1, c2, c3, c4, c5⟩, -⟩ := bx6 (Bx.on NB.out hB); have B2 := hid (below_on BB.out hB); clear hB)
        go_ret
        first | exact ⟨rfl, B2.out⟩ | exact ⟨rfl, BB.out⟩
    by_cases p13 : p = 13
    · subst p13
      have FO : Hid (Tr.fok ⟨19, 13, q, n, m, s⟩ ↔ (True ∧ True ∧ 0 ≤ q ∧ q < 64 ∧ m = 0 ∧ s.toList = [])) := by rw [Hid]; simp [Tr.fok, Tr.ob, Tr.rf, Tr.fi]
      rw [decide_eq_true (show Tr.fi 19 13 by simp [Tr.fi])] at FI
      by_cases q0 : 0 ≤ q
      · by_cases q1 : q < 64
        · by_cases hm : m = 0
          · subst hm
            by_cases hs : s.toList = []
            · have NE2 : s.toList.isEmpty = true := by rw [hs]; rfl
              have e := D.out true (FO.out.trans ⟨fun _ => rfl, fun _ => ⟨trivial, trivial, q0, q1, rfl, hs⟩⟩)
              rw [e]
              clear e FO D 
              go_enter Try.func17, Try.ntmps17
              go_wp2_with (go_at_call 23; refine (FI.out _).mono ?_; rintro e w2 ⟨rfl, hB⟩; obtain ⟨⟨c0, c1, c2, c3, c4, c5⟩, -⟩ := bx6 (Bx.on NB.out hB); have B2 := hid (below_on BB.out hB); clear hB)
              go_ret
              first | exact ⟨rfl, B2.out⟩ | exact ⟨rfl, BB.out⟩
            · have NE2 : s.toList.isEmpty = false := by cases h : s.toList with | nil => exact absurd h hs | cons c l => rfl
              have e := D.out false (FO.out.trans ⟨fun y => absurd y.2.2.2.2.2 hs, fun y => by cases y⟩)
              rw [e]
              clear e FO D 
              go_enter Try.func17, Try.ntmps17
              go_wp2_with (go_at_call 23; refine (FI.out _).mono ?_; rintro e w2 ⟨rfl, hB⟩; obtain ⟨⟨c0, c1, c2, c3, c4, c5⟩, -⟩ := bx6 (Bx.on NB.out hB); have B2 := hid (below_on BB.out hB); clear hB)
              go_ret
              first | exact ⟨rfl, B2.out⟩ | exact ⟨rfl, BB.out⟩
          · have bm := beq_false_of_ne hm
            have e := D.out false (FO.out.trans ⟨fun y => absurd y.2.2.2.2.1 hm, fun y => by cases y⟩)
            rw [e]
            clear e FO D 
            go_enter Try.func17, Try.ntmps17
            go_wp2_with (go_at_call 23; refine (FI.out _).mono ?_; rintro e w2 ⟨rfl, hB⟩; obtain ⟨⟨c0, c1, c2, c3, c4, c5⟩, -⟩ := bx6 (Bx.on NB.out hB); have B2 := hid (below_on BB.out hB); clear hB)
            go_ret
            first | exact ⟨rfl, B2.out⟩ | exact ⟨rfl, BB.out⟩
        · have q2 : 64 ≤ q := by omega
          have e := D.out false (FO.out.trans ⟨fun y => absurd y.2.2.2.1 q1, fun y => by cases y⟩)
          rw [e]
          clear e FO D 
          go_enter Try.func17, Try.ntmps17
          go_wp2_with (go_at_call 23; refine (FI.out _).mono ?_; rintro e w2 ⟨rfl, hB⟩; obtain ⟨⟨c0, c1, c2, c3, c4, c5⟩, -⟩ := bx6 (Bx.on NB.out hB); have B2 := hid (below_on BB.out hB); clear hB)
          go_ret
          first | exact ⟨rfl, B2.out⟩ | exact ⟨rfl, BB.out⟩
      · have q2 : q < 0 := by omega
        have e := D.out false (FO.out.trans ⟨fun y => absurd y.2.2.1 q0, fun y => by cases y⟩)
        rw [e]
        clear e FO D 
        go_enter Try.func17, Try.ntmps17
        go_wp2_with (go_at_call 23; refine (FI.out _).mono ?_; rintro e w2 ⟨rfl, hB⟩; obtain ⟨⟨c0, c1, c2, c3, c4, c5⟩, -⟩ := bx6 (Bx.on NB.out hB); have B2 := hid (below_on BB.out hB); clear hB)
        go_ret
        first | exact ⟨rfl, B2.out⟩ | exact ⟨rfl, BB.out⟩
    have p5i := p5
    have FO : Hid (Tr.fok ⟨19, p, q, n, m, s⟩ ↔ (1 ≤ p ∧ p ≤ 13 ∧ 0 ≤ q ∧ q < 1 ∧ m = 0 ∧ s.toList = [])) := by rw [Hid]; simp [Tr.fok, Tr.ob, Tr.rf, Tr.fi, and_assoc, p5, p13]
    rw [decide_eq_false (show ¬ Tr.fi 19 p by simp [Tr.fi, p5, p13])] at FI
    have bp5 := beq_false_of_ne p5
    have bp13 := beq_false_of_ne p13
    by_cases p1 : 1 ≤ p
    · by_cases p2 : p ≤ 13
      · have p3 : ¬ p < 1 := by omega
        have p4 : ¬ 13 < p := by omega
        by_cases q0 : 0 ≤ q
        · by_cases q1 : q < 1
          · by_cases hm : m = 0
            · subst hm
              by_cases hs : s.toList = []
              · have NE2 : s.toList.isEmpty = true := by rw [hs]; rfl
                have e := D.out true (FO.out.trans ⟨fun _ => rfl, fun _ => ⟨p1, p2, q0, q1, rfl, hs⟩⟩)
                rw [e]
                clear e FO D 
                go_enter Try.func17, Try.ntmps17
                go_wp2_with (go_at_call 23; refine (FI.out _).mono ?_; rintro e w2 ⟨rfl, hB⟩; obtain ⟨⟨c0, c1, c2, c3, c4, c5⟩, -⟩ := bx6 (Bx.on NB.out hB); have B2 := hid (below_on BB.out hB); clear hB)
                go_ret
                first | exact ⟨rfl, B2.out⟩ | exact ⟨rfl, BB.out⟩
              · have NE2 : s.toList.isEmpty = false := by cases h : s.toList with | nil => exact absurd h hs | cons c l => rfl
                have e := D.out false (FO.out.trans ⟨fun y => absurd y.2.2.2.2.2 hs, fun y => by cases y⟩)
                rw [e]
                clear e FO D 
                go_enter Try.func17, Try.ntmps17
                go_wp2_with (go_at_call 23; refine (FI.out _).mono ?_; rintro e w2 ⟨rfl, hB⟩; obtain ⟨⟨c0, c1, c2, c3, c4, c5⟩, -⟩ := bx6 (Bx.on NB.out hB); have B2 := hid (below_on BB.out hB); clear hB)
                go_ret
                first | exact ⟨rfl, B2.out⟩ | exact ⟨rfl, BB.out⟩
            · have bm := beq_false_of_ne hm
              have e := D.out false (FO.out.trans ⟨fun y => absurd y.2.2.2.2.1 hm, fun y => by cases y⟩)
              rw [e]
              clear e FO D 
              go_enter Try.func17, Try.ntmps17
              go_wp2_with (go_at_call 23; refine (FI.out _).mono ?_; rintro e w2 ⟨rfl, hB⟩; obtain ⟨⟨c0, c1, c2, c3, c4, c5⟩, -⟩ := bx6 (Bx.on NB.out hB); have B2 := hid (below_on BB.out hB); clear hB)
              go_ret
              first | exact ⟨rfl, B2.out⟩ | exact ⟨rfl, BB.out⟩
          · have q2 : 1 ≤ q := by omega
            have e := D.out false (FO.out.trans ⟨fun y => absurd y.2.2.2.1 q1, fun y => by cases y⟩)
            rw [e]
            clear e FO D 
            go_enter Try.func17, Try.ntmps17
            go_wp2_with (go_at_call 23; refine (FI.out _).mono ?_; rintro e w2 ⟨rfl, hB⟩; obtain ⟨⟨c0, c1, c2, c3, c4, c5⟩, -⟩ := bx6 (Bx.on NB.out hB); have B2 := hid (below_on BB.out hB); clear hB)
            go_ret
            first | exact ⟨rfl, B2.out⟩ | exact ⟨rfl, BB.out⟩
        · have q2 : q < 0 := by omega
          have e := D.out false (FO.out.trans ⟨fun y => absurd y.2.2.1 q0, fun y => by cases y⟩)
          rw [e]
          clear e FO D 
          go_enter Try.func17, Try.ntmps17
          go_wp2_with (go_at_call 23; refine (FI.out _).mono ?_; rintro e w2 ⟨rfl, hB⟩; obtain ⟨⟨c0, c1, c2, c3, c4, c5⟩, -⟩ := bx6 (Bx.on NB.out hB); have B2 := hid (below_on BB.out hB); clear hB)
          go_ret
          first | exact ⟨rfl, B2.out⟩ | exact ⟨rfl, BB.out⟩
      · have p4 : 13 < p := by omega
        have e := D.out false (FO.out.trans ⟨fun y => absurd y.2.1 p2, fun y => by cases y⟩)
        rw [e]
        clear e FO D 
        go_enter Try.func17, Try.ntmps17
        go_wp2_with (go_at_call 23; refine (FI.out _).mono ?_; rintro e w2 ⟨rfl, hB⟩; obtain ⟨⟨c0, c1, c2, c3, c4, c5⟩, -⟩ := bx6 (Bx.on NB.out hB); have B2 := hid (below_on BB.out hB); clear hB)
        go_ret
        first | exact ⟨rfl, B2.out⟩ | exact ⟨rfl, BB.out⟩
    · have p3 : p < 1 := by omega
      have e := D.out false (FO.out.trans ⟨fun y => absurd y.1 p1, fun y => by cases y⟩)
      rw [e]
      clear e FO D 
      go_enter Try.func17, Try.ntmps17
      go_wp2_with (go_at_call 23; refine (FI.out _).mono ?_; rintro e w2 ⟨rfl, hB⟩; obtain ⟨⟨c0, c1, c2, c3, c4, c5⟩, -⟩ := bx6 (Bx.on NB.out hB); have B2 := hid (below_on BB.out hB); clear hB)
      go_ret
      first | exact ⟨rfl, B2.out⟩ | exact ⟨rfl, BB.out⟩
  have FO : Hid (Tr.fok ⟨k, p, q, n, m, s⟩ ↔ (p = 0 ∧ True ∧ 0 ≤ q ∧ q < 1 ∧ m = 0 ∧ s.toList = [])) := by rw [Hid]; simp [Tr.fok, Tr.ob, Tr.rf, Tr.fi, k1, k2, k3, k5, k6, k10, k12, k17, k18, k19]
  rw [decide_eq_false (show ¬ Tr.fi k p by simp [Tr.fi, k19])] at FI
  have bk1 := beq_false_of_ne k1
  have bk2 := beq_false_of_ne k2
  have bk3 := beq_false_of_ne k3
  have bk5 := beq_false_of_ne k5
  have bk6 := beq_false_of_ne k6
  have bk10 := beq_false_of_ne k10
  have bk12 := beq_false_of_ne k12
  have bk17 := beq_false_of_ne k17
  have bk18 := beq_false_of_ne k18
  have bk19 := beq_false_of_ne k19
  by_cases hp : p = 0
  · subst hp
    by_cases q0 : 0 ≤ q
    · by_cases q1 : q < 1
      · by_cases hm : m = 0
        · subst hm
          by_cases hs : s.toList = []
          · have NE2 : s.toList.isEmpty = true := by rw [hs]; rfl
            have e := D.out true (FO.out.trans ⟨fun _ => rfl, fun _ => ⟨rfl, trivial, q0, q1, rfl, hs⟩⟩)
            rw [e]
            clear e FO D 
            go_enter Try.func17, Try.ntmps17
            go_wp2_with (go_at_call 23; refine (FI.out _).mono ?_; rintro e w2 ⟨rfl, hB⟩; obtain ⟨⟨c0, c1, c2, c3, c4, c5⟩, -⟩ := bx6 (Bx.on NB.out hB); have B2 := hid (below_on BB.out hB); clear hB)
            go_ret
            first | exact ⟨rfl, B2.out⟩ | exact ⟨rfl, BB.out⟩
          · have NE2 : s.toList.isEmpty = false := by cases h : s.toList with | nil => exact absurd h hs | cons c l => rfl
            have e := D.out false (FO.out.trans ⟨fun y => absurd y.2.2.2.2.2 hs, fun y => by cases y⟩)
            rw [e]
            clear e FO D 
            go_enter Try.func17, Try.ntmps17
            go_wp2_with (go_at_call 23; refine (FI.out _).mono ?_; rintro e w2 ⟨rfl, hB⟩; obtain ⟨⟨c0, c1, c2, c3, c4, c5⟩, -⟩ := bx6 (Bx.on NB.out hB); have B2 := hid (below_on BB.out hB); clear hB)
            go_ret
            first | exact ⟨rfl, B2.out⟩ | exact ⟨rfl, BB.out⟩
        · have bm := beq_false_of_ne hm
          have e := D.out false (FO.out.trans ⟨fun y => absurd y.2.2.2.2.1 hm, fun y => by cases y⟩)
          rw [e]
          clear e FO D 
          go_enter Try.func17, Try.ntmps17
          go_wp2_with (go_at_call 23; refine (FI.out _).mono ?_; rintro e w2 ⟨rfl, hB⟩; obtain ⟨⟨c0, c1, c2, c3, c4, c5⟩, -⟩ := bx6 (Bx.on NB.out hB); have B2 := hid (below_on BB.out hB); clear hB)
          go_ret
          first | exact ⟨rfl, B2.out⟩ | exact ⟨rfl, BB.out⟩
      · have q2 : 1 ≤ q := by omega
        have e := D.out false (FO.out.trans ⟨fun y => absurd y.2.2.2.1 q1, fun y => by cases y⟩)
        rw [e]
        clear e FO D 
        go_enter Try.func17, Try.ntmps17
        go_wp2_with (go_at_call 23; refine (FI.out _).mono ?_; rintro e w2 ⟨rfl, hB⟩; obtain ⟨⟨c0, c1, c2, c3, c4, c5⟩, -⟩ := bx6 (Bx.on NB.out hB); have B2 := hid (below_on BB.out hB); clear hB)
        go_ret
        first | exact ⟨rfl, B2.out⟩ | exact ⟨rfl, BB.out⟩
    · have q2 : q < 0 := by omega
      have e := D.out false (FO.out.trans ⟨fun y => absurd y.2.2.1 q0, fun y => by cases y⟩)
      rw [e]
      clear e FO D 
      go_enter Try.func17, Try.ntmps17
      go_wp2_with (go_at_call 23; refine (FI.out _).mono ?_; rintro e w2 ⟨rfl, hB⟩; obtain ⟨⟨c0, c1, c2, c3, c4, c5⟩, -⟩ := bx6 (Bx.on NB.out hB); have B2 := hid (below_on BB.out hB); clear hB)
      go_ret
      first | exact ⟨rfl, B2.out⟩ | exact ⟨rfl, BB.out⟩
  · have bp := beq_false_of_ne hp
    have e := D.out false (FO.out.trans ⟨fun y => absurd y.1 hp, fun y => by cases y⟩)
    rw [e]
    clear e FO D 
    go_enter Try.func17, Try.ntmps17
    go_wp2_with (go_at_call 23; refine (FI.out _).mono ?_; rintro e w2 ⟨rfl, hB⟩; obtain ⟨⟨c0, c1, c2, c3, c4, c5⟩, -⟩ := bx6 (Bx.on NB.out hB); have B2 := hid (below_on BB.out hB); clear hB)
    go_ret
    first | exact ⟨rfl, B2.out⟩ | exact ⟨rfl, BB.out⟩
end Go.Proofs.Ythachcidfnjbaaa
