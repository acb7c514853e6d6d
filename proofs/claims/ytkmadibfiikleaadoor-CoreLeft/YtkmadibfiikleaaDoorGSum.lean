/-
  sum of package gather: the exact sum's sign and size.
-/
import Derived.Test.YtkmadibfiikleaaDoorGX
import Derived.Test.YtkmadibfiikleaaDoorWalk5
import Derived.Test.YtkmadibfiikleaaDoorNSub
namespace Go.Proofs.YtkmadibfiikleaaDoor
open Go.RowKit Go.Deep

theorem Lies.heap {w w' : World} {p : Option Addr} {zs : List Int} (h : Lies w p zs) (e : w'.heap = w.heap) : Lies w' p zs := by
  rcases h with h | ⟨b, off, hp, h⟩
  · exact .inl h
  · exact .inr ⟨b, off, hp, fun i hi => by have := h i hi; simp only [World.cell?] at this ⊢; rw [e]; exact this⟩

theorem Arg.heap {w w' : World} {p : Option Addr} {n cap : Nat} {zs : List Int} (h : Arg w p n cap zs) (e : w'.heap = w.heap) : Arg w' p n cap zs := ⟨h.1, h.2.1, h.2.2.1, h.2.2.2.1.heap e, h.2.2.2.2⟩

theorem Below.heap {B : Nat} {w w' w2 : World} (h : Below B w' w2) (e1 : w'.heap = w.heap) (e2 : w'.os = w.os) (e3 : w'.tape = w.tape) (e4 : w'.output = w.output) : Below B w w2 :=
  ⟨h.os.trans e2, h.tape.trans e3, h.output.trans e4, by rw [← e1]; exact h.size, fun k hk => by rw [h.block k hk, e1]⟩

theorem gbel_drew {B : Nat} {w w' : World} (h : Below B w w') : Below B w w'.drew := ⟨h.os, h.tape, h.output, h.size, h.block⟩

theorem Ans.lower {B B' : Nat} {w : World} {p : Option Addr} {ys : List Int} {n : Int} (h : Ans B w p ys n) (hB : B' ≤ B) : Ans B' w p ys n :=
  ⟨h.1, h.2.1, h.2.2.1, h.2.2.2.1, fun a ha => Nat.le_trans hB (h.2.2.2.2 a ha)⟩

set_option maxRecDepth 100000 in
set_option maxHeartbeats 4000000 in
theorem gsum_any (g : Nat) (s : Ga.St) (w : World) (h : AccAt w g s) :
    Calls Tryd.prog 58 #[.pointer (some ⟨g, 0, none⟩)] w fun e w' => ∃ r os, e = .returned (.tuple #[.bool (decide (s.P < s.N)), .slice r (List.length os) (List.length os)]) ∧ Ans w.heap.size w' r os (if s.P < s.N then s.N - s.P else s.P - s.N) ∧ Below w.heap.size w w' := by
  obtain ⟨aa, bb, A1, A2, v1, v2⟩ := h.args
  have ta := Nm.tsize_le aa
  have tb := Nm.tsize_le bb
  rw [A1.1] at ta
  rw [A2.1] at tb
  have SD := hid (fun (b : Bool) (wx : World) => side_any g b wx)
  by_cases hlt : s.P < s.N
  · have CM : Hid (∀ wx : World, wx.heap = w.heap → Calls Tryd.prog 42 #[.slice (some ⟨g, 5, none⟩) 67 67, .slice (some ⟨g, 72, none⟩) 67 67] wx fun e w' => e = .returned (.int .i64 (-1)) ∧ Below wx.heap.size wx w') := fun wx hx => by
      have := cmp_any _ _ _ _ _ _ aa bb wx (A1.heap hx) (A2.heap hx)
      rwa [show cmpI (Nm.val aa) (Nm.val bb) = (-1) by rw [v1, v2]; rw [cmpI, if_pos hlt]] at this
    have SB : Hid (∀ wx : World, Below w.heap.size w wx → Calls Tryd.prog 43 #[.slice (some ⟨g, 72, none⟩) 67 67, .slice (some ⟨g, 5, none⟩) 67 67] wx fun e w' => ∃ r os, e = .returned (.tuple #[.slice r (List.length os) (List.length os), .int .i64 0]) ∧ Ans w.heap.size w' r os (s.N - s.P) ∧ Below w.heap.size w w') := fun wx hx => by
      refine (sub_ok _ _ _ _ _ _ bb aa wx (A2.below hx (Nat.le_refl _)) (A1.below hx (Nat.le_refl _)) (by omega) (by rw [v1, v2]; omega)).mono ?_
      rintro e w' ⟨r, os, he, hA, hB⟩
      rw [v1, v2] at hA
      exact ⟨r, os, he, hA.lower hx.size, hx.trans (hB.mono hx.size)⟩
    rw [if_pos hlt, decide_eq_true hlt]
    clear h A1 A2
    go_enter Tryd.func58, Tryd.ntmps58
    go_wp2
    go_region_with (go_at_call 42; refine (CM.out w.drew rfl).mono ?_; rintro e w1 ⟨rfl, hB1⟩; have HB : Hid (Below w.heap.size w w1) := Below.heap hB1 rfl rfl rfl rfl; clear hB1)
    go_wp2
    go_region_with (first | (go_at_call 55; refine (SD.out _ _).mono ?_; rintro e w2 ⟨rfl, rfl⟩) | (go_at_call 43; refine (SB.out w1.drew (gbel_drew HB.out)).mono ?_; rintro e w2 ⟨r, os, rfl, hA, hB⟩; have HA := hid hA; have HB2 := hid hB; clear hA hB))
    go_wp2
    go_ret2
    exact ⟨r, os, rfl, HA.out, HB2.out⟩
  · obtain ⟨k, hk, k0⟩ : ∃ k, cmpI s.P s.N = k ∧ (k = 0 ∨ k = 1) := ⟨_, rfl, by rw [cmpI, if_neg hlt]; split <;> simp⟩
    have k1 : decide (k < 0) = false := by simp; omega
    clear k0
    have CM : Hid (∀ wx : World, wx.heap = w.heap → Calls Tryd.prog 42 #[.slice (some ⟨g, 5, none⟩) 67 67, .slice (some ⟨g, 72, none⟩) 67 67] wx fun e w' => e = .returned (.int .i64 k) ∧ Below wx.heap.size wx w') := fun wx hx => by
      have := cmp_any _ _ _ _ _ _ aa bb wx (A1.heap hx) (A2.heap hx)
      rwa [show cmpI (Nm.val aa) (Nm.val bb) = k by rw [v1, v2]; exact hk] at this
    have SB : Hid (∀ wx : World, Below w.heap.size w wx → Calls Tryd.prog 43 #[.slice (some ⟨g, 5, none⟩) 67 67, .slice (some ⟨g, 72, none⟩) 67 67] wx fun e w' => ∃ r os, e = .returned (.tuple #[.slice r (List.length os) (List.length os), .int .i64 0]) ∧ Ans w.heap.size w' r os (s.P - s.N) ∧ Below w.heap.size w w') := fun wx hx => by
      refine (sub_ok _ _ _ _ _ _ aa bb wx (A1.below hx (Nat.le_refl _)) (A2.below hx (Nat.le_refl _)) (by omega) (by rw [v1, v2]; omega)).mono ?_
      rintro e w' ⟨r, os, he, hA, hB⟩
      rw [v1, v2] at hA
      exact ⟨r, os, he, hA.lower hx.size, hx.trans (hB.mono hx.size)⟩
    rw [if_neg hlt, decide_eq_false hlt]
    clear h A1 A2
    go_enter Tryd.func58, Tryd.ntmps58
    go_wp2
    go_region_with (go_at_call 42; refine (CM.out w.drew rfl).mono ?_; rintro e w1 ⟨rfl, hB1⟩; have HB : Hid (Below w.heap.size w w1) := Below.heap hB1 rfl rfl rfl rfl; clear hB1)
    go_wp2
    go_region_with (first | (go_at_call 55; refine (SD.out _ _).mono ?_; rintro e w2 ⟨rfl, rfl⟩) | (go_at_call 43; refine (SB.out w1.drew (gbel_drew HB.out)).mono ?_; rintro e w2 ⟨r, os, rfl, hA, hB⟩; have HA := hid hA; have HB2 := hid hB; clear hA hB))
    go_wp2
    go_ret2
    exact ⟨r, os, rfl, HA.out, HB2.out⟩
end Go.Proofs.YtkmadibfiikleaaDoor
