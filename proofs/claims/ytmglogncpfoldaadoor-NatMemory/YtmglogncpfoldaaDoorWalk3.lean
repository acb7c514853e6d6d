/-
  THE WALKS OF Add AND Mul.
-/
import Derived.Test.YtmglogncpfoldaaDoorWalk2
namespace Go.Proofs.YtmglogncpfoldaaDoor
open Go.RowKit Go.Deep

/-- Room for a sum: one limb more than the longer of both. -/
theorem sum_room {zs ys : List Int} (hz : Nm.Limbs zs) (hy : Nm.Limbs ys) (h : Nm.tsize ys ≤ Nm.tsize zs) : Nm.val (Nm.trim zs ++ List.replicate 1 0) + Nm.val (Nm.trim ys) < Nm.pw (Nm.tsize zs + 1) ∧ Nm.val (Nm.trim zs ++ List.replicate 1 0) + Nm.val (Nm.trim ys) = Nm.val zs + Nm.val ys := by
  have h1 := Nm.val_lt_tsize hz
  have h2 := Nm.val_lt_tsize hy
  have h3 := Nm.pw_mono h
  have h4 := Nm.pw_pos (Nm.tsize zs)
  rw [Nm.val_append, Nm.val_replicate, Int.mul_zero, Int.add_zero, Nm.val_trim, Nm.val_trim, Nm.pw_succ]
  exact ⟨by omega, rfl⟩

set_option maxHeartbeats 1000000 in
theorem add_ok (p q : Option Addr) (n cap m cap' : Nat) (zs ys : List Int) (w : World) (ha : Arg w p n cap zs) (hb : Arg w q m cap' ys) (hs : Nm.val zs + Nm.val ys < Nm.pw 4096) :
    Calls Tryd.prog 13 #[.slice p n cap, .slice q m cap'] w fun e w' => ∃ r os, e = .returned (.tuple #[.slice r (List.length os) (List.length os), .int .i64 0]) ∧ Ans w.heap.size w' r os (Nm.val zs + Nm.val ys) ∧ Below w.heap.size w w' := by
  have z0 := (Nm.val_bd zs ha.2.2.2.2).1
  have y0 := (Nm.val_bd ys hb.2.2.2.2).1
  have tz := ha.small (by omega)
  have ty := hb.small (by omega)
  obtain ⟨a1, a2, a3, a4, a5⟩ := ha
  obtain ⟨b1, b2, b3, b4, b5⟩ := hb
  have HS : Hid (Nm.val zs + Nm.val ys < Nm.pw 4096) := hs
  clear hs z0 y0
  by_cases hlt : Nm.tsize zs < Nm.tsize ys
  · have hlt' : (Nm.tsize zs : Int) < (Nm.tsize ys : Int) := by omega
    have R := hid (sum_room b5 a5 (by omega))
    go_enter Tryd.func13, Tryd.ntmps13
    go_wp2_with fail
    refine (pair_ok p q n cap m cap' zs ys _ a1 a2 (by omega) a4 tz b1 b2 (by omega) b4 ty).mono ?_
    rintro e w' ⟨rfl, rfl⟩
    go_wp2_with fail
    refine (widened_any q (Nm.tsize ys) (Nm.tsize ys) 1 1 (Nm.trim ys) _ rfl (Nm.trim_length ys) (by omega) (b4.take _)).mono ?_
    rintro e w1 ⟨rfl, ho, hb1, hz1⟩
    have HO := hid ho
    have HB := hid hb1
    have HZ := hid hz1
    clear ho hb1 hz1
    go_wp2_with fail
    refine (addTo_any w'.heap.size (Nm.tsize ys + 1) (Nm.trim ys ++ List.replicate 1 0) p (Nm.tsize zs) (Nm.tsize zs) (Nm.trim zs) _ (by simp [Nm.trim_length]) (by omega) HO.out ((b5.take _).append (Nm.Limbs.replicate _)) (Nm.trim_length zs) (by omega) ((a4.take _).below HB.out (Nat.le_refl _)) (a5.take _) (fun h0 => (a4.take _).lt h0) R.out.1).mono ?_
    rintro e w2 ⟨rfl, hw⟩
    obtain ⟨os, o1, o2, o3, o4, o5, o6⟩ := hw
    have HO := hid o1
    have O4 := hid o4
    have HB2 := hid o5
    clear o1 o4 o5 o6
    go_wp2_with fail
    refine (limited_own w'.heap.size (Nm.tsize ys + 1) os _ o2 (by omega) HO.out o3 w'.heap.size (Nat.le_refl _) (by rw [O4.out, R.out.2, Int.add_comm]; exact HS.out)).mono ?_
    rintro e w3 ⟨r, xs, rfl, hans, rfl⟩
    rw [O4.out, R.out.2, Int.add_comm] at hans
    have HA := hid hans
    clear hans
    go_wp2_with fail
    go_ret2
    exact ⟨r, xs, rfl, HA.out, HB.out.trans HB2.out⟩
  · have hlt' : (Nm.tsize ys : Int) ≤ (Nm.tsize zs : Int) := by omega
    have R := hid (sum_room a5 b5 (by omega))
    go_enter Tryd.func13, Tryd.ntmps13
    go_wp2_with fail
    refine (pair_ok p q n cap m cap' zs ys _ a1 a2 (by omega) a4 tz b1 b2 (by omega) b4 ty).mono ?_
    rintro e w' ⟨rfl, rfl⟩
    go_wp2_with fail
    refine (widened_any p (Nm.tsize zs) (Nm.tsize zs) 1 1 (Nm.trim zs) _ rfl (Nm.trim_length zs) (by omega) (a4.take _)).mono ?_
    rintro e w1 ⟨rfl, ho, hb1, hz1⟩
    have HO := hid ho
    have HB := hid hb1
    have HZ := hid hz1
    clear ho hb1 hz1
    go_wp2_with fail
    refine (addTo_any w'.heap.size (Nm.tsize zs + 1) (Nm.trim zs ++ List.replicate 1 0) q (Nm.tsize ys) (Nm.tsize ys) (Nm.trim ys) _ (by simp [Nm.trim_length]) (by omega) HO.out ((a5.take _).append (Nm.Limbs.replicate _)) (Nm.trim_length ys) (by omega) ((b4.take _).below HB.out (Nat.le_refl _)) (b5.take _) (fun h0 => (b4.take _).lt h0) R.out.1).mono ?_
    rintro e w2 ⟨rfl, hw⟩
    obtain ⟨os, o1, o2, o3, o4, o5, o6⟩ := hw
    have HO := hid o1
    have O4 := hid o4
    have HB2 := hid o5
    clear o1 o4 o5 o6
    go_wp2_with fail
    refine (limited_own w'.heap.size (Nm.tsize zs + 1) os _ o2 (by omega) HO.out o3 w'.heap.size (Nat.le_refl _) (by rw [O4.out, R.out.2]; exact HS.out)).mono ?_
    rintro e w3 ⟨r, xs, rfl, hans, rfl⟩
    rw [O4.out, R.out.2] at hans
    have HA := hid hans
    clear hans
    go_wp2_with fail
    go_ret2
    exact ⟨r, xs, rfl, HA.out, HB.out.trans HB2.out⟩
end Go.Proofs.YtmglogncpfoldaaDoor
