/-
  code: unreached, give.
-/
import Derived.Test.YtnobafmleellhabDoorCdC
namespace Go.Proofs.YtnobafmleellhabDoor
open Go Go.RowKit Go.Deep

theorem cd_infoint : (Tryd.prog.info? 3).map (fun i => (i.zero, i.size, i.bytes)) = some (some (.int .i64 0), 1, 8) := by kernel_rfl
theorem cd_make (n : Nat) (h : n ≤ 35184372088832) (w : World) :
    (Instr.makeSlice 39 (.int .i64 (n : Int)) (.int .i64 (n : Int))).run Tryd.prog w = .ok (.slice (some ⟨w.heap.size, 0, none⟩) n n) (w.alloc (.cells (madeCells #[.int .i64 0] n) 3)) :=
  run_make_row' 39 3 (.int .i64 0) 8 Tryd.underlying39 cd_infoint rfl .i64 .i64 n (by omega) (by omega) w
theorem cd_made (n : Nat) : madeCells #[Value.int .i64 0] n = ((List.replicate n (0 : Int)).map (Value.int .i64)).toArray := by
  apply Array.toList_inj.1
  rw [toList_madeCells_one]
  simp
def Cd.ur (n k : Nat) : List Int := List.replicate k (-1) ++ List.replicate (n - k) 0
theorem Cd.ur_len (n k : Nat) (h : k ≤ n) : (Cd.ur n k).length = n := by simp [Cd.ur]; omega
theorem Cd.ur_set (n k : Nat) (h : k < n) : (Cd.ur n k).set k (-1) = Cd.ur n (k + 1) := by
  obtain ⟨d, rfl⟩ : ∃ d, n = k + 1 + d := ⟨n - (k + 1), by omega⟩
  unfold Cd.ur
  rw [List.set_append_right _ _ (by simp), List.length_replicate, Nat.sub_self, show k + 1 + d - k = d + 1 by omega, show k + 1 + d - (k + 1) = d by omega, List.replicate_succ, List.set_cons_zero, List.replicate_succ', List.append_assoc]
  rfl
theorem Cd.ur_end (n : Nat) : Cd.ur n n = List.replicate n (-1) := by simp [Cd.ur]
set_option maxRecDepth 100000 in
set_option maxHeartbeats 2000000 in
theorem cunr_any (n : Nat) (w : World) (hn : n ≤ 1000000) : Calls Tryd.prog 18 #[.int .i64 (n : Int)] w fun e w' => e = .returned (.slice (some ⟨w.heap.size, 0, none⟩) n n) ∧ Cd.HB w' w.heap.size (List.replicate n (-1)) ∧ Below w.heap.size w w' := by
  have hni : (n : Int) ≤ 1000000 := by omega
  have MK := cd_make n (by omega) w
  have H0 : Hid (Cd.HB (w.alloc (.cells (madeCells #[.int .i64 0] n) 3)) w.heap.size (Cd.ur n 0) ∧ Below w.heap.size w (w.alloc (.cells (madeCells #[.int .i64 0] n) 3))) := by
    refine ⟨?_, alloc_b w _⟩
    rw [cd_made]
    exact Bx.new w _ _
  go_enter Tryd.func18, Tryd.ntmps18
  go_wp2_with fail
  go_loopg [9] n (fun m iv wr => ∃ k : Nat, k + m = n ∧ iv = .int .i64 (k : Int) ∧ Hid (Cd.HB wr w.heap.size (Cd.ur n k) ∧ Below w.heap.size w wr))
  case atStart => exact ⟨0, by omega, rfl, H0⟩
  case round =>
    obtain ⟨k, hk, rfl, J⟩ := hrel
    clear H0 MK
    by_cases kl : k < n
    · have kli : (k : Int) < (n : Int) := by omega
      have c0 := J.out.1.cell k (by rw [Cd.ur_len n k (by omega)]; exact kl)
      have f0 := J.out.1.free k
      have F : Hid (Cd.HB (wr.setCell ⟨w.heap.size, k, none⟩ (.int .i64 (-1))) w.heap.size (Cd.ur n (k + 1)) ∧ Below w.heap.size w (wr.setCell ⟨w.heap.size, k, none⟩ (.int .i64 (-1)))) := by
        refine ⟨?_, J.out.2.setCell (p := ⟨w.heap.size, k, none⟩) (Nat.le_refl _) _⟩
        have := J.out.1.put k (-1)
        rwa [Cd.ur_set n k kl] at this
      clear J
      go_wp2_with fail
      go_roundg (n - (k + 1))
      case measure => omega
      case rel => exact ⟨k + 1, by omega, by go_num, F⟩
    · have kli : ¬ (k : Int) < (n : Int) := by omega
      have kn : k = n := by omega
      subst kn
      rw [Cd.ur_end] at J
      go_wp2_with fail
      go_ret
      exact ⟨rfl, J.out.1, J.out.2⟩

theorem Cd.HB.kp {S : Nat → Prop} {w w' : World} {b : Nat} {hs : List Int} (h : Cd.HB w b hs) (k : Re.Kp S w w') (hs' : ¬ S b) : Cd.HB w' b hs := Bx.kp h k hs'
theorem cgive_some (hs hs' : List Int) (n cap pl : Nat) (h : Int) (w : World) (g : Nat) (hH : Cd.HB w g hs) (hn : hs.length = n) (hp : pl < n) (hb : n ≤ 1000000) (he : Cd.gv hs pl h = some hs') :
    Calls Tryd.prog 28 #[.slice (some ⟨g, 0, none⟩) n cap, .int .i64 (pl : Int), .int .i64 h] w fun e w' => e = .returned (.bool true) ∧ Cd.HB w' g hs' ∧ Re.Kp (fun b => b = g) w w' := by
  have c0 := hH.cell pl (by omega)
  have f0 := hH.free pl
  have pli : (pl : Int) < (n : Int) := by omega
  have hbi : (n : Int) ≤ 1000000 := by omega
  unfold Cd.gv at he
  by_cases hz : hs.getD pl 0 < 0
  · rw [if_pos hz] at he
    have e := Option.some.inj he
    have F : Hid (Cd.HB (w.setCell ⟨g, pl, none⟩ (.int .i64 h)) g hs' ∧ Re.Kp (fun b => b = g) w (w.setCell ⟨g, pl, none⟩ (.int .i64 h))) := ⟨by rw [← e]; exact hH.put pl h, Re.Kp.set (S := fun b => b = g) (Re.Kp.refl _ w) rfl pl _⟩
    generalize hs.getD pl 0 = z at *
    clear hH he e hn hb hp
    go_enter Tryd.func28, Tryd.ntmps28
    go_wp2_with fail
    go_ret
    exact ⟨rfl, F.out⟩
  · rw [if_neg hz] at he
    by_cases hy : hs.getD pl 0 = h
    · rw [if_pos hy] at he
      have e := Option.some.inj he
      subst e
      have F := hid hH
      rw [hy] at c0 hz
      clear hH he hn hb hp hy
      go_enter Tryd.func28, Tryd.ntmps28
      go_wp2_with fail
      go_ret
      exact ⟨rfl, F.out, Re.Kp.refl _ _⟩
    · rw [if_neg hy] at he
      cases he
theorem cgive_none (hs : List Int) (n cap pl : Nat) (h : Int) (w : World) (g : Nat) (hH : Cd.HB w g hs) (hn : hs.length = n) (hp : pl < n) (hb : n ≤ 1000000) (he : Cd.gv hs pl h = none) :
    Calls Tryd.prog 28 #[.slice (some ⟨g, 0, none⟩) n cap, .int .i64 (pl : Int), .int .i64 h] w fun e w' => e = .returned (.bool false) ∧ w' = w := by
  have c0 := hH.cell pl (by omega)
  have pli : (pl : Int) < (n : Int) := by omega
  have hbi : (n : Int) ≤ 1000000 := by omega
  unfold Cd.gv at he
  by_cases hz : hs.getD pl 0 < 0
  · rw [if_pos hz] at he
    cases he
  · rw [if_neg hz] at he
    by_cases hy : hs.getD pl 0 = h
    · rw [if_pos hy] at he
      cases he
    · have hy2 := beq_false_of_ne hy
      generalize hs.getD pl 0 = z at *
      clear hH he hn hb hp
      go_enter Tryd.func28, Tryd.ntmps28
      go_wp2_with fail
      go_ret
      exact ⟨rfl, rfl⟩
end Go.Proofs.YtnobafmleellhabDoor
