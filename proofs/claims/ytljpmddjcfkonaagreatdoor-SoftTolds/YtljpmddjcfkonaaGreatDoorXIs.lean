import Derived.Test.YtljpmddjcfkonaaGreatDoorXWalk1
import Derived.Test.YtljpmddjcfkonaaGreatDoorTrailW
import Derived.Test.YtljpmddjcfkonaaGreatDoorXNum
import Derived.BigQuiet
/-
  soft: is.
-/
namespace Go.Proofs.YtljpmddjcfkonaaGreatDoor
open Go Go.RowKit Go.Deep

theorem trl_ex : ∀ (n : Nat) (V : Int), 0 < V → V < 2 ^ n → ∃ t : Nat, t < n ∧ Nm.Trl V t
  | 0, V, h0, h1 => by rw [Int.pow_zero] at h1; omega
  | n + 1, V, h0, h1 => by
    rw [Nm.two_succ] at h1
    rcases (show V % 2 = 1 ∨ V % 2 = 0 by omega) with h | h
    · exact ⟨0, by omega, .inr ⟨V / 2, by rw [Int.pow_zero]; omega⟩⟩
    · obtain ⟨t, ht, g⟩ := trl_ex n (V / 2) (by omega) (by omega)
      rcases g with ⟨g, _⟩ | ⟨m, g⟩
      · omega
      · refine ⟨t + 1, by omega, .inr ⟨m, ?_⟩⟩
        rw [Nm.two_succ, Int.mul_assoc, ← g]
        omega

/-- What is answers: t the zeros at the end of V. -/
def Ie.isx (V e : Int) (more : Bool) (d : Int) (t : Nat) : Bool := decide (V = 0) || (!more && (!Ie.isi d && decide (Ie.de d ≤ e + t)))

theorem below_a {w : World} {A : Obj} {w' : World} (h : Below (w.alloc A).heap.size (w.alloc A) w') : Below w.heap.size w w' := (alloc_b w A).trans (h.mono (alloc_b w A).size)

set_option maxRecDepth 100000 in
set_option maxHeartbeats 4000000 in
theorem is_any (neg more : Bool) (p : Option Addr) (l c : Nat) (zs : List Int) (e V d : Int) (t : Nat) (w : World) (ha : Arg w p l c zs) (hT : Tab w) (hV : Nm.val zs = V) (hl : l = 0 ↔ V = 0) (ht : Nm.Trl V t) (tb : t ≤ 10000) (q1 : -10000 ≤ e) (q2 : e ≤ 10000) (d0 : 0 ≤ d) (d1 : d < 18446744073709551616) :
    Calls Tryz.prog 73 #[exactOf neg p l c e more, .int .u64 d] w fun r w' => r = .returned (.bool (Ie.isx V e more d t)) ∧ Below w.heap.size w w' := by
  have R0 := Row4.new w 54 (.bool neg) (.slice p l c) (.int .i64 e) (.bool more)
  obtain ⟨⟨r0, r1, r2, r3⟩, -⟩ := R0.cells
  simp only [exactOf]
  by_cases hz : V = 0
  · have l0 : l = 0 := hl.2 hz
    subst l0
    have E : Hid (Ie.isx V e more d t = true) := by rw [Hid, Ie.isx, decide_eq_true hz, Bool.true_or]
    clear ha hT hV hl ht tb q1 q2
    go_enter Tryz.func73, Tryz.ntmps73
    go_wp2_with fail
    go_ret
    exact ⟨by rw [E.out]; rfl, alloc_b w _⟩
  · have l0 : ((l : Int) == 0) = false := by rw [beq_eq_false_iff_ne]; omega
    have lb : (l : Int) ≤ 17592186044416 := by have := ha.2.1; have := ha.2.2.1; omega
    cases more
    · have IN := hid (fun (wx : World) => infinite_any d wx d0 d1)
      cases hi : Ie.isi d
      · rw [hi] at IN
        obtain ⟨x, hx⟩ : ∃ x, Ie.de d = x := ⟨_, rfl⟩
        have xb : -1074 ≤ x ∧ x ≤ 2047 := by
          rw [← hx, Ie.de]
          have := Ie.fld_bd d
          split
          · rename_i h
            have : Ie.fld d ≠ 0 := by
              intro h0
              rw [Ie.cls, if_pos h0] at h
              split at h <;> omega
            omega
          · split <;> omega
        obtain ⟨xb0, xb1⟩ := xb
        have DC := hid (fun (wx : World) => decode_any d wx d0 d1)
        rw [hx] at DC
        have TR : Hid (∀ wx : World, Below w.heap.size w wx → Calls Tryz.prog 104 #[.slice p l c] wx fun e w' => e = .returned (.int .i64 (t : Int)) ∧ w' = wx) := by
          intro wx hxx
          refine (trail_any p l c zs wx (ha.below hxx (Nat.le_refl _)) (hT.below hxx)).mono ?_
          rintro e w' ⟨t', rfl, g, rfl⟩
          rw [hV] at g
          rw [g.unique ht]
          exact ⟨rfl, rfl⟩
        have E : Hid (Ie.isx V e false d t = decide (x ≤ e + t)) := by rw [Hid, Ie.isx, decide_eq_false hz, hi, hx]; simp
        have tb' : (t : Int) ≤ 10000 := by omega
        have CA : Hid (∀ w2 : World, Below (w.alloc (.cells #[.bool neg, .slice p l c, .int .i64 e, .bool false] 54)).drew.heap.size (w.alloc (.cells #[.bool neg, .slice p l c, .int .i64 e, .bool false] 54)).drew w2 → Below w.heap.size w w2 ∧ Row4 w2 w.heap.size 54 (.bool neg) (.slice p l c) (.int .i64 e) (.bool false)) := by
          intro w2 hB
          have h1 := drew_b (alloc_b w (.cells #[.bool neg, .slice p l c, .int .i64 e, .bool false] 54))
          exact ⟨h1.trans (hB.mono h1.size), (R0.heap (w' := (w.alloc (.cells #[.bool neg, .slice p l c, .int .i64 e, .bool false] 54)).drew) rfl).below hB R0.lt⟩
        have D0 := hid (drew_b (alloc_b w (.cells #[.bool neg, .slice p l c, .int .i64 e, .bool false] 54)))
        simp only [partsOf] at DC
        generalize decide (9223372036854775808 ≤ d) = sgn at DC
        generalize Ie.cls d = cl at DC
        generalize Ie.dm d = mm at DC
        have FD : ∀ wx : World, (Instr.field 64 (.agg #[.bool sgn, .int .i64 cl, .int .u64 mm, .int .i64 x]) 3).run Tryz.prog wx = .ok (.int .i64 x) wx := fun _ => by kernel_rfl
        have WR : IntKind.i64.wrap (e + (t : Int)) = e + (t : Int) := by rw [IntKind.wrap_i64]; omega
        clear ha hT hV hl ht tb hz hi hx R0
        go_enter Tryz.func73, Tryz.ntmps73
        go_wp2_with fail
        generalize w.alloc (.cells #[.bool neg, .slice p l c, .int .i64 e, .bool false] 54) = wA at *
        go_region_with (first | (go_at_call 30; refine (IN.out _).mono ?_; rintro e w2 ⟨rfl, rfl⟩) | (go_at_call 104; refine (TR.out _ (by first | exact D0.out | exact HB2.out)).mono ?_; rintro e w3 ⟨rfl, rfl⟩) | (go_at_call 65; refine (DC.out _).mono ?_; rintro e w2 ⟨rfl, hB⟩; have HB2 := hid (CA.out w2 hB).1; obtain ⟨⟨s0, s1, s2, s3⟩, -⟩ := (CA.out w2 hB).2.cells; clear hB))
        all_goals (go_wp2_with fail; go_ret; exact ⟨by rw [E.out]; rfl, by first | exact HB2.out | exact D0.out⟩)
      · rw [hi] at IN
        have E : Hid (Ie.isx V e false d t = false) := by rw [Hid, Ie.isx, decide_eq_false hz, hi]; rfl
        have D0 := hid (alloc_b w (.cells #[.bool neg, .slice p l c, .int .i64 e, .bool false] 54))
        clear ha hT hV hl ht tb hz hi R0
        go_enter Tryz.func73, Tryz.ntmps73
        go_wp2_with fail
        generalize w.alloc (.cells #[.bool neg, .slice p l c, .int .i64 e, .bool false] 54) = wA at *
        go_quiet (with_reducible exact Calls.quiet_of_same (IN.out _))
        go_wp2_with fail
        go_ret
        exact ⟨by rw [E.out]; rfl, below_drewN D0.out _⟩
    · have E : Hid (Ie.isx V e true d t = false) := by rw [Hid, Ie.isx, decide_eq_false hz]; rfl
      have D0 := hid (alloc_b w (.cells #[.bool neg, .slice p l c, .int .i64 e, .bool true] 54))
      clear ha hT hV hl ht tb hz R0
      go_enter Tryz.func73, Tryz.ntmps73
      go_wp2_with fail
      generalize w.alloc (.cells #[.bool neg, .slice p l c, .int .i64 e, .bool true] 54) = wA at *
      go_quiet (fail)
      go_wp2_with fail
      go_ret
      exact ⟨by rw [E.out]; rfl, below_drewN D0.out _⟩
end Go.Proofs.YtljpmddjcfkonaaGreatDoor
