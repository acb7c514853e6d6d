/-
  code: fields.
-/
import Derived.Test.YtnobafmleellhabDoorCdK
import Derived.Test.YtnobafmleellhabDoorTrO
namespace Go.Proofs.YtnobafmleellhabDoor
open Go Go.RowKit Go.Deep Go.Shelf

namespace Cd
def ei (a : Int) : List Value := [.int .i64 a]
theorem ei_len (a : Int) : (ei a).length = 1 := rfl
theorem ei_one (x : Int) : ∀ v ∈ ei x, v.oneCell' = true := fun v hv => by
  simp only [ei, List.mem_cons, List.not_mem_nil, or_false] at hv
  rw [hv]; rfl
/-- The fields that a row has. -/
def fs (r : Rw) (A B : Int) : List Int := (if r.a = 0 then [] else [A]) ++ (if r.b = 0 then [] else [B])
theorem Ow_off {w : World} {base : Nat} {mv : Value} {D : List Int} (h : Re.Ow ei 3 1 base w mv D) {b t : Nat} {c : Array Value} (hx : Bx w b t c) (ht : t ≠ 3) : some b ≠ mv.ownBlock := by
  intro e
  rcases h.2 with ⟨rfl, _⟩ | ⟨g', cap, cur, rfl, hb, hgg, _⟩
  · cases e
  · obtain rfl : b = g' := by injection e
    unfold Bx at hx
    rw [hgg] at hx
    injection hx with hx
    injection hx with e1 e2
    exact ht e2.symm
theorem Ow_push {w : World} {base : Nat} {mv : Value} {D : List Int} (h : Re.Ow ei 3 1 base w mv D) (x : Int) (hn : D.length ≤ 1000000) (hb : base ≤ w.heap.size) :
    ∃ mv' w', (Builtin.append_ #[39, 39] 39 #[mv, .slice (some ⟨w.heap.size, 0, none⟩) 1 1]).run Tryd.prog (w.alloc (.cells #[.int .i64 x] 3)) = .ok mv' w' ∧ Re.Ow ei 3 1 base w' mv' (D ++ [x]) ∧ Below base w w' ∧ ∀ b t c, t ≠ 3 → Bx w b t c → Bx w' b t c := by
  obtain ⟨mv', w', e1, e2, e3, e4, e5⟩ := h.push ei_len ei_one (by omega) (P := Tryd.prog) 39 Tryd.underlying39 (z := .int .i64 0) (bytes := 8) cd_infoint (by omega) rfl x (by omega) hb
  refine ⟨mv', w', e1, e2, e4, fun b t c ht hx => ?_⟩
  rw [Bx, e5 b hx.lt (Ow_off h hx ht)]
  exact hx
theorem Ow_made (w : World) (base : Nat) (hb : base ≤ w.heap.size) : Re.Ow ei 3 1 base (w.alloc (.cells (madeCells #[.int .i64 0] 2) 3)) (.slice (some ⟨w.heap.size, 0, none⟩) 0 2) [] := by
  refine ⟨rfl, .inr ⟨w.heap.size, 2, _, rfl, hb, heap_alloc_new w _, by simp, by simp only [maxLen]; omega, ?_, ?_⟩⟩
  · rw [cd_made]; simp
  · simp [Re.fl]
/-- What fields tells. -/
def FL (w : World) (p : Option Addr) (l : List Int) : Prop := ∀ (j : Nat) v, l[j]? = some v → ∃ g cur, p = some ⟨g, 0, none⟩ ∧ Bx w g 3 cur ∧ cur[j]? = some (.int .i64 v)
theorem FL.cell {w : World} {p : Option Addr} {l : List Int} (h : FL w p l) {j : Nat} {v : Int} (hv : l[j]? = some v) : ∃ g, p = some ⟨g, 0, none⟩ ∧ w.cell? ⟨g, j, none⟩ = some (.int .i64 v) := by
  obtain ⟨g, cur, rfl, hx, hc⟩ := h j v hv
  exact ⟨g, rfl, hx.cell j _ hc⟩
theorem Ow_fl {w : World} {base : Nat} {mv : Value} {D : List Int} (h : Re.Ow ei 3 1 base w mv D) : ∃ p cap, mv = .slice p D.length cap ∧ FL w p D := by
  rcases h.2 with ⟨rfl, h0⟩ | ⟨g, cap, cur, rfl, hb, hgg, h1, h2, h3, h4⟩
  · exact ⟨none, 0, by rw [h0], fun j v hv => by rw [List.eq_nil_of_length_eq_zero h0] at hv; simp at hv⟩
  · refine ⟨_, cap, rfl, fun j v hv => ⟨g, cur, rfl, hgg, ?_⟩⟩
    have jl := (List.getElem?_eq_some_iff.1 hv).1
    have e := Re.fl_at ei_len hv 0 (by omega)
    rw [Nat.mul_one, Nat.add_zero, ← h4, List.getElem?_take, if_pos (by omega)] at e
    rw [← Array.getElem?_toList]
    exact e
theorem fl_fk {wb : Nat} {w w' : World} {p : Option Addr} {l : List Int} (h : FL w p l) (k : Fk wb w w') (hp : ∀ g, p = some ⟨g, 0, none⟩ → g ≠ wb) : FL w' p l := fun j v hv => by
  obtain ⟨g, cur, rfl, hx, hc⟩ := h j v hv
  exact ⟨g, cur, rfl, k.bx _ _ _ (by decide) (hp g rfl) hx, hc⟩
end Cd
theorem cd_make2 (w : World) : (Instr.makeSlice 39 (.int .i64 0) (.int .i64 2)).run Tryd.prog w = .ok (.slice (some ⟨w.heap.size, 0, none⟩) 0 2) (w.alloc (.cells (madeCells #[.int .i64 0] 2) 3)) := by
  obtain ⟨i, hi, hz⟩ := Option.map_eq_some_iff.1 cd_infoint
  simp only [Prod.mk.injEq] at hz
  obtain ⟨z1, z2, z3⟩ := hz
  have hr := run_make (P := Tryd.prog) w 39 3 i (.int .i64 0) Tryd.underlying39 hi z1 .i64 .i64 0 2 (by omega) (by omega) (by rw [z3]; omega) (by omega)
  simp only [z2, Nat.mul_one] at hr
  exact hr
theorem bx_two (w : World) (A B : Array Value) (s t : Nat) : Bx ((w.alloc (.cells A s)).alloc (.cells B t)) w.heap.size s A ∧ Bx ((w.alloc (.cells A s)).alloc (.cells B t)) (w.heap.size + 1) t B :=
  ⟨(Bx.new w s A).on (alloc_b _ _), cd_new2 w _ _⟩
set_option maxRecDepth 100000 in
set_option maxHeartbeats 4000000 in
theorem cflds_any (r : Cd.Rw) (x : Cd.In) (w : World) : Calls Tryd.prog 32 #[.agg #[.string r.name, .int .i64 r.a, .int .i64 r.b, .int .i64 r.takes, .int .i64 r.puts], .agg #[.int .i64 x.w, .int .i64 x.a, .int .i64 x.b]] w fun e w' => ∃ p cap, e = .returned (.slice p (Cd.fs r x.a x.b).length cap) ∧ Cd.FL w' p (Cd.fs r x.a x.b) ∧ (∀ g, p = some ⟨g, 0, none⟩ → w.heap.size ≤ g) ∧ Below w.heap.size w w' := by
  obtain ⟨nm, ra, rb, rt, rp⟩ := r
  obtain ⟨k, a, b⟩ := x
  have BB := hid (cd_b2 w (.cells #[.string nm, .int .i64 ra, .int .i64 rb, .int .i64 rt, .int .i64 rp] 53) (.cells #[.int .i64 k, .int .i64 a, .int .i64 b] 28))
  obtain ⟨x1, x2⟩ := bx_two w #[.string nm, .int .i64 ra, .int .i64 rb, .int .i64 rt, .int .i64 rp] #[.int .i64 k, .int .i64 a, .int .i64 b] 53 28
  have X1 := hid x1
  have X2 := hid x2
  clear x1 x2
  have FIN : Hid (∀ (D : List Int) mv W, Cd.fs ⟨nm, ra, rb, rt, rp⟩ a b = D → Re.Ow Cd.ei 3 1 w.heap.size W mv D → Below w.heap.size w W → ∃ p cap, Ending.returned mv = .returned (.slice p (Cd.fs ⟨nm, ra, rb, rt, rp⟩ a b).length cap) ∧ Cd.FL W p (Cd.fs ⟨nm, ra, rb, rt, rp⟩ a b) ∧ (∀ g, p = some ⟨g, 0, none⟩ → w.heap.size ≤ g) ∧ Below w.heap.size w W) := fun D mv W hD hO hB => by
    rw [hD]
    obtain ⟨p, cap, rfl, hf⟩ := Cd.Ow_fl hO
    refine ⟨p, cap, rfl, hf, fun g hg => ?_, hB⟩
    exact (World.ownsRow.lt hO g (by rw [hg]; rfl)).1
  simp only
  go_enter Tryd.func32, Tryd.ntmps32
  go_upto_region 1 with fail
  have sz := BB.out.size
  generalize (w.alloc (.cells #[.string nm, .int .i64 ra, .int .i64 rb, .int .i64 rt, .int .i64 rp] 53)).alloc (.cells #[.int .i64 k, .int .i64 a, .int .i64 b] 28) = w1 at *
  have MK := cd_make2 w1
  have O0 := hid (Cd.Ow_made w1 w.heap.size sz)
  have A1 := hid (alloc_b w1 (.cells (madeCells #[.int .i64 0] 2) 3))
  have Y1 := hid (X1.out.on A1.out)
  have Y2 := hid (X2.out.on A1.out)
  have B1 := hid (below_on BB.out A1.out)
  clear BB X1 X2
  go_upto_region 2 with fail
  generalize w1.alloc (.cells (madeCells #[.int .i64 0] 2) 3) = w2 at *
  generalize w1.heap.size = g1 at *
  obtain ⟨c0, c1, c2, c3, c4⟩ := bx5 Y1.out
  obtain ⟨d0, d1, d2⟩ := bx3 Y2.out
  clear MK A1 sz
  by_cases ha : ra = 0
  · subst ha
    by_cases hb : rb = 0
    · subst hb
      have F := hid (FIN.out [] _ w2 (by simp [Cd.fs]) O0.out B1.out)
      clear FIN O0 B1
      go_wp2_with fail
      go_ret
      exact F.out
    · obtain ⟨mv', w3, ap, g1, g2, g3⟩ := Cd.Ow_push O0.out b (by simp) B1.out.size
      have hb2 := beq_false_of_ne hb
      have F := hid (FIN.out [b] _ w3 (by simp [Cd.fs, hb]) g1 (B1.out.trans g2))
      have AP := hid ap
      clear FIN O0 B1 ap g1 g2 g3
      go_wp2_with (at_builtin; refine wpList_append_c rfl _ _ rfl AP.out (by rfl) (by rfl) ?_; clear AP)
      go_ret
      exact F.out
  · have ha2 := beq_false_of_ne ha
    obtain ⟨mv', w3, ap, g1, g2, g3⟩ := Cd.Ow_push O0.out a (by simp) B1.out.size
    have AP := hid ap
    have O3 := hid g1
    have B3 := hid (B1.out.trans g2)
    have e3 := g3 _ _ _ (by decide) Y1.out
    have e4 := g3 _ _ _ (by decide) Y2.out
    obtain ⟨p0, p1, p2, p3, p4⟩ := bx5 e3
    obtain ⟨q0, q1, q2⟩ := bx3 e4
    clear ap g1 g2 g3 e3 e4 O0 B1 Y1 Y2
    by_cases hb : rb = 0
    · subst hb
      have F := hid (FIN.out [a] _ w3 (by simp [Cd.fs, ha]) O3.out B3.out)
      clear FIN O3 B3
      go_wp2_with (at_builtin; refine wpList_append_c rfl _ _ rfl AP.out (by rfl) (by rfl) ?_; clear AP)
      go_ret
      exact F.out
    · obtain ⟨mv2, w4, ap, g1, g2, g3⟩ := Cd.Ow_push O3.out b (by simp) B3.out.size
      have hb2 := beq_false_of_ne hb
      have F := hid (FIN.out [a, b] _ w4 (by simp [Cd.fs, ha, hb]) g1 (B3.out.trans g2))
      have AQ := hid ap
      clear FIN O3 B3 ap g1 g2 g3
      go_wp2_with (at_builtin; first
        | (refine wpList_append_c rfl _ _ rfl AP.out (by rfl) (by rfl) ?_; clear AP)
        | (refine wpList_append_c rfl _ _ rfl AQ.out (by rfl) (by rfl) ?_; clear AQ))
      go_ret
      exact F.out
end Go.Proofs.YtnobafmleellhabDoor
