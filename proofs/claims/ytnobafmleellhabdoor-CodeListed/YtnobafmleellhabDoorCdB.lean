/-
  code: fits, effect, Effect.
-/
import Derived.Test.YtnobafmleellhabDoorCdA
import Derived.Test.YtnobafmleellhabDoorCdW
import Derived.Deep.CutRange
import Derived.Deep.CutBlock
import Derived.Deep.DeepCutAuto
import Derived.Deep.QuietTactic
import Derived.BigQuiet
namespace Go.Proofs.YtnobafmleellhabDoor
open Go Go.RowKit Go.Deep

theorem cd_new2 (w : World) (A B : Obj) : ((w.alloc A).alloc B).heap[w.heap.size + 1]? = some B := by
  have := heap_alloc_new (w.alloc A) B
  rwa [World.size_alloc] at this
theorem cd_b2 (w : World) (A B : Obj) : Below w.heap.size w ((w.alloc A).alloc B) := below_on (alloc_b w A) (alloc_b _ B)
theorem bx3 {w : World} {b t : Nat} {v0 v1 v2 : Value} (h : Bx w b t #[v0, v1, v2]) : w.cell? ⟨b, 0, none⟩ = some v0 ∧ w.cell? ⟨b, 1, none⟩ = some v1 ∧ w.cell? ⟨b, 2, none⟩ = some v2 := by
  simp only [Bx] at h
  refine ⟨?_, ?_, ?_⟩ <;> simp [World.cell?, h]
theorem bx5 {w : World} {b t : Nat} {v0 v1 v2 v3 v4 : Value} (h : Bx w b t #[v0, v1, v2, v3, v4]) : w.cell? ⟨b, 0, none⟩ = some v0 ∧ w.cell? ⟨b, 1, none⟩ = some v1 ∧ w.cell? ⟨b, 2, none⟩ = some v2 ∧ w.cell? ⟨b, 3, none⟩ = some v3 ∧ w.cell? ⟨b, 4, none⟩ = some v4 := by
  simp only [Bx] at h
  refine ⟨?_, ?_, ?_, ?_, ?_⟩ <;> simp [World.cell?, h]
set_option maxRecDepth 100000 in
set_option maxHeartbeats 4000000 in
theorem cfits_any (r : Cd.Rw) (x : Cd.In) (w : World) : Calls Tryd.prog 26 #[.agg #[.string r.name, .int .i64 r.a, .int .i64 r.b, .int .i64 r.takes, .int .i64 r.puts], .agg #[.int .i64 x.w, .int .i64 x.a, .int .i64 x.b]] w fun e w' => e = .returned (.bool (Cd.ft r x.a x.b)) ∧ Below w.heap.size w w' := by
  obtain ⟨nm, ra, rb, rt, rp⟩ := r
  obtain ⟨k, a, b⟩ := x
  have BB := hid (cd_b2 w (.cells #[.string nm, .int .i64 ra, .int .i64 rb, .int .i64 rt, .int .i64 rp] 53) (.cells #[.int .i64 k, .int .i64 a, .int .i64 b] 28))
  by_cases h : ra = 10
  · subst h
    have e : Cd.ft ⟨nm, 10, rb, rt, rp⟩ a b = decide ((Cd.args a).1 ≤ b ∧ b ≤ (Cd.args a).2) := by simp [Cd.ft]
    rw [e]
    have AR := hid (fun W => cargs_any a W)
    have WI := hid (fun W => cwith_any b (Cd.args a).1 (Cd.args a).2 W)
    generalize decide ((Cd.args a).1 ≤ b ∧ b ≤ (Cd.args a).2) = z at *
    generalize (Cd.args a).1 = q1 at *
    generalize (Cd.args a).2 = q2 at *
    clear e
    go_enter Tryd.func26, Tryd.ntmps26
    go_wp2_with (first
      | (go_at_call 36; refine (AR.out _).mono ?_; rintro e w2 ⟨rfl, rfl⟩)
      | (go_at_call 27; refine (WI.out _).mono ?_; rintro e w2 ⟨rfl, rfl⟩))
    go_ret
    exact ⟨rfl, BB.out⟩
  · have e : Cd.ft ⟨nm, ra, rb, rt, rp⟩ a b = (Cd.hd ra a && Cd.hd rb b) := by simp [Cd.ft, h]
    rw [e]
    have H1 := hid (fun W => chold_any ra a W)
    have H2 := hid (fun W => chold_any rb b W)
    generalize Cd.hd ra a = p at *
    generalize Cd.hd rb b = q at *
    clear e
    cases p with
    | true =>
      go_enter Tryd.func26, Tryd.ntmps26
      go_wp2_with (go_at_call 37; first
        | (with_reducible refine (H1.out _).mono ?_; rintro e w2 ⟨rfl, rfl⟩)
        | (with_reducible refine (H2.out _).mono ?_; rintro e w2 ⟨rfl, rfl⟩))
      go_ret
      exact ⟨rfl, BB.out⟩
    | false =>
      go_enter Tryd.func26, Tryd.ntmps26
      go_wp2_with (go_at_call 37; with_reducible refine (H1.out _).mono ?_; rintro e w2 ⟨rfl, rfl⟩)
      go_ret
      exact ⟨rfl, BB.out⟩
end Go.Proofs.YtnobafmleellhabDoor
