/-
  code: the writer: add, text.
-/
import Derived.Test.YtnobafmleellhabDoorCdI
namespace Go.Proofs.YtnobafmleellhabDoor
open Go Go.RowKit Go.Deep Go.Shelf

set_option maxRecDepth 100000 in
set_option maxHeartbeats 20000000 in
theorem cadd_any {w : World} {wb : Nat} {L : Ch.L8} (h : WS w wb L) {b : Nat} (xs : Ch.L8) (k : Nat) (hk : k = xs.length) (hsrc : Bx w b 5 (Lib.byteCells xs).toArray) (hne : b ≠ wb) (hl : k ≤ 1000000) :
    Calls Tryd.prog 31 #[.pointer (some ⟨wb, 0, none⟩), .slice (some ⟨b, 0, none⟩) k k] w fun e w' => e = .returned (.tuple #[]) ∧ WS w' wb (L ++ xs) ∧ Fk wb w w' := by
  obtain ⟨mv, M, hx, h1, h2, h3⟩ := h.ex
  have RO := hid (croom_any k (by omega) hx h1 h3)
  have wl := hx.lt
  have hli : (k : Int) ≤ 1000000 := by omega
  by_cases hf : L.length + k ≤ 16777216
  · obtain rfl := h3 (by omega)
    rw [decide_eq_true hf, decide_eq_false (show ¬ 16777216 < M.length + k by omega)] at RO
    have x1 : Bx (w.setCell ⟨wb, 1, none⟩ (.bool false)) wb 61 #[mv, .bool false] := hx.set 1 (.bool false)
    have r1 := h1.setb wb 1 (.bool false) (by omega)
    obtain ⟨mv', w2, ap, g1, g2⟩ := r1.adds xs (hsrc.far (c := wb) (o := 1) (v := .bool false) (fun e => hne e.symm)) (by omega) (by simp [World.setCell]; omega)
    obtain ⟨p', cp', e', -⟩ := g1.slice
    obtain ⟨N', hN'⟩ : ∃ N', (M ++ xs).length = N' := ⟨_, rfl⟩
    rw [hN'] at e'
    subst e'
    obtain ⟨x2, g3, g4⟩ := WS.put x1 r1 g1 g2 (by rw [List.length_append]; exact (decide_eq_false (by omega)).symm) (by rw [List.length_append]; omega)
    have F := hid (And.intro g3 ((⟨Below.setCell (p := ⟨wb, 1, none⟩) (Below.refl _ _) (Nat.le_refl _) _, fun b t c ht hb hx => hx.far (fun e => hb e.symm)⟩ : Fk wb w (w.setCell ⟨wb, 1, none⟩ (.bool false))).trans g4))
    rw [← hk] at ap
    have AP := hid ap
    obtain ⟨c0, c1, f0, f1⟩ := bx2w x1
    obtain ⟨d0, d1, e0, e1⟩ := bx2w x2
    clear hx h1 h2 h3 x1 r1 ap g1 g2 x2 g3 g4 hsrc h hk
    go_enter Tryd.func31, Tryd.ntmps31
    go_wp2_with (first
      | (go_at_call 29; refine RO.out.mono ?_; rintro e w1 ⟨rfl, rfl⟩)
      | (at_builtin; refine wpList_append_d rfl _ _ rfl AP.out (by rfl) (by rfl) ?_; clear AP))
    go_end0
    exact ⟨rfl, F.out⟩
  · have G := hid (WS.more (xs := xs) hx h1 h2 (by omega) k hk)
    rw [decide_eq_false hf] at RO
    obtain ⟨w2, hw2⟩ : ∃ w2, (w.setCell ⟨wb, 1, none⟩ (.bool (decide (16777216 < L.length + k)))) = w2 := ⟨_, rfl⟩
    rw [hw2] at RO G
    clear hw2 hf
    clear hx h1 h2 h3 hsrc h hk
    go_enter Tryd.func31, Tryd.ntmps31
    go_wp2_with (go_at_call 29; refine RO.out.mono ?_; rintro e w1 ⟨rfl, rfl⟩)
    go_end0
    exact ⟨rfl, G.out⟩
set_option maxRecDepth 100000 in
set_option maxHeartbeats 20000000 in
theorem ctext_any {w : World} {wb : Nat} {L : Ch.L8} (h : WS w wb L) (s : ByteArray) (hs : s.size ≤ 9223372036854775807) :
    Calls Tryd.prog 20 #[.pointer (some ⟨wb, 0, none⟩), .string s] w fun e w' => e = .returned (.tuple #[]) ∧ WS w' wb (L ++ s.data.toList) ∧ Fk wb w w' := by
  obtain ⟨mv, M, hx, h1, h2, h3⟩ := h.ex
  have RO := hid (croom_any s.size hs hx h1 h3)
  have wl := hx.lt
  have hli : (s.size : Int) ≤ 9223372036854775807 := by omega
  have hk : s.size = s.data.toList.length := (Ch.size_len s).symm
  by_cases hf : L.length + s.size ≤ 16777216
  · obtain rfl := h3 (by omega)
    rw [decide_eq_true hf, decide_eq_false (show ¬ 16777216 < M.length + s.size by omega)] at RO
    have x1 : Bx (w.setCell ⟨wb, 1, none⟩ (.bool false)) wb 61 #[mv, .bool false] := hx.set 1 (.bool false)
    have r1 := h1.setb wb 1 (.bool false) (by omega)
    obtain ⟨mv', w2, ap, g1, g2⟩ := r1.catz s (by omega) (by simp [World.setCell]; omega)
    obtain ⟨p', cp', e', -⟩ := g1.slice
    obtain ⟨N', hN'⟩ : ∃ N', (M ++ s.data.toList).length = N' := ⟨_, rfl⟩
    rw [hN'] at e'
    subst e'
    obtain ⟨x2, g3, g4⟩ := WS.put x1 r1 g1 g2 (by rw [List.length_append]; exact (decide_eq_false (by omega)).symm) (by rw [List.length_append]; omega)
    have F := hid (And.intro g3 ((⟨Below.setCell (p := ⟨wb, 1, none⟩) (Below.refl _ _) (Nat.le_refl _) _, fun b t c ht hb hx => hx.far (fun e => hb e.symm)⟩ : Fk wb w (w.setCell ⟨wb, 1, none⟩ (.bool false))).trans g4))
    have AP := hid ap
    obtain ⟨c0, c1, f0, f1⟩ := bx2w x1
    obtain ⟨d0, d1, e0, e1⟩ := bx2w x2
    clear hx h1 h2 h3 x1 r1 ap g1 g2 x2 g3 g4 h hk
    go_enter Tryd.func20, Tryd.ntmps20
    go_wp2_with (first
      | (go_at_call 29; refine RO.out.mono ?_; rintro e w1 ⟨rfl, rfl⟩)
      | (at_builtin; refine wpList_append_d rfl _ _ rfl AP.out (by rfl) (by rfl) ?_; clear AP))
    go_end0
    exact ⟨rfl, F.out⟩
  · have G := hid (WS.more (xs := s.data.toList) hx h1 h2 (by omega) s.size hk)
    rw [decide_eq_false hf] at RO
    obtain ⟨w2, hw2⟩ : ∃ w2, (w.setCell ⟨wb, 1, none⟩ (.bool (decide (16777216 < L.length + s.size)))) = w2 := ⟨_, rfl⟩
    rw [hw2] at RO G
    clear hw2 hf
    clear hx h1 h2 h3 h hk
    go_enter Tryd.func20, Tryd.ntmps20
    go_wp2_with (go_at_call 29; refine RO.out.mono ?_; rintro e w1 ⟨rfl, rfl⟩)
    go_end0
    exact ⟨rfl, G.out⟩
end Go.Proofs.YtnobafmleellhabDoor
