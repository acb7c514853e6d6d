/-
  Add AND Mul, WHERE THE ANSWER IS TOO BIG.
-/
import Derived.Test.YtffkopijfelacaaDoorMulOver
import Derived.Test.YtffkopijfelacaaDoorWalk3
namespace Go.Proofs.YtffkopijfelacaaDoor
open Go.RowKit Go.Deep

set_option maxHeartbeats 1000000 in
theorem add_over (p q : Option Addr) (n cap m cap' : Nat) (zs ys : List Int) (w : World) (ha : Arg w p n cap zs) (hb : Arg w q m cap' ys) (tz : Nm.tsize zs ≤ 4096) (ty : Nm.tsize ys ≤ 4096) (hs : Nm.pw 4096 ≤ Nm.val zs + Nm.val ys) :
    Calls Tryd.prog 9 #[.slice p n cap, .slice q m cap'] w fun e w' => e = .returned (.tuple #[.slice none 0 0, .int .i64 2]) ∧ Below w.heap.size w w' := by
  obtain ⟨a1, a2, a3, a4, a5⟩ := ha
  obtain ⟨b1, b2, b3, b4, b5⟩ := hb
  have HS := hid hs
  clear hs
  by_cases hlt : Nm.tsize zs < Nm.tsize ys
  · have hlt' : (Nm.tsize zs : Int) < (Nm.tsize ys : Int) := by omega
    have R := hid (sum_room b5 a5 (by omega))
    go_enter Tryd.func9, Tryd.ntmps9
    go_wp2_with fail
    refine (pair_ok p q n cap m cap' zs ys _ a1 a2 (by omega) a4 tz b1 b2 (by omega) b4 ty).mono ?_
    rintro e w' ⟨rfl, rfl⟩
    go_wp2_with fail
    refine (widened_any q (Nm.tsize ys) (Nm.tsize ys) 1 1 (Nm.trim ys) _ rfl (Nm.trim_length ys) (by omega) (b4.take _)).mono ?_
    rintro e w1 ⟨rfl, ho, hb1, hz1⟩
    have HO := hid ho
    have HB := hid hb1
    have HZ := hid hz1
    clear ho hb1 hz1
    go_wp2_with fail
    refine (addTo_any w'.heap.size (Nm.tsize ys + 1) (Nm.trim ys ++ List.replicate 1 0) p (Nm.tsize zs) (Nm.tsize zs) (Nm.trim zs) _ (by simp [Nm.trim_length]) (by omega) HO.out ((b5.take _).append (Nm.Limbs.replicate _)) (Nm.trim_length zs) (by omega) ((a4.take _).below HB.out (Nat.le_refl _)) (a5.take _) (fun h0 => (a4.take _).lt h0) R.out.1).mono ?_
    rintro e w2 ⟨rfl, hw⟩
    obtain ⟨os, o1, o2, o3, o4, o5, o6⟩ := hw
    have HO := hid o1
    have O4 := hid o4
    have HB2 := hid o5
    clear o1 o4 o5 o6
    go_wp2_with fail
    refine (limited_own_big w'.heap.size (Nm.tsize ys + 1) os _ o2 (by omega) HO.out o3 (by rw [O4.out, R.out.2, Int.add_comm]; exact HS.out)).mono ?_
    rintro e w3 ⟨rfl, rfl⟩
    go_wp2_with fail
    go_ret2
    exact ⟨rfl, HB.out.trans HB2.out⟩
  · have hlt' : (Nm.tsize ys : Int) ≤ (Nm.tsize zs : Int) := by omega
    have R := hid (sum_room a5 b5 (by omega))
    go_enter Tryd.func9, Tryd.ntmps9
    go_wp2_with fail
    refine (pair_ok p q n cap m cap' zs ys _ a1 a2 (by omega) a4 tz b1 b2 (by omega) b4 ty).mono ?_
    rintro e w' ⟨rfl, rfl⟩
    go_wp2_with fail
    refine (widened_any p (Nm.tsize zs) (Nm.tsize zs) 1 1 (Nm.trim zs) _ rfl (Nm.trim_length zs) (by omega) (a4.take _)).mono ?_
    rintro e w1 ⟨rfl, ho, hb1, hz1⟩
    have HO := hid ho
    have HB := hid hb1
    have HZ := hid hz1
    clear ho hb1 hz1
    go_wp2_with fail
    refine (addTo_any w'.heap.size (Nm.tsize zs + 1) (Nm.trim zs ++ List.replicate 1 0) q (Nm.tsize ys) (Nm.tsize ys) (Nm.trim ys) _ (by simp [Nm.trim_length]) (by omega) HO.out ((a5.take _).append (Nm.Limbs.replicate _)) (Nm.trim_length ys) (by omega) ((b4.take _).below HB.out (Nat.le_refl _)) (b5.take _) (fun h0 => (b4.take _).lt h0) R.out.1).mono ?_
    rintro e w2 ⟨rfl, hw⟩
    obtain ⟨os, o1, o2, o3, o4, o5, o6⟩ := hw
    have HO := hid o1
    have O4 := hid o4
    have HB2 := hid o5
    clear o1 o4 o5 o6
    go_wp2_with fail
    refine (limited_own_big w'.heap.size (Nm.tsize zs + 1) os _ o2 (by omega) HO.out o3 (by rw [O4.out, R.out.2]; exact HS.out)).mono ?_
    rintro e w3 ⟨rfl, rfl⟩
    go_wp2_with fail
    go_ret2
    exact ⟨rfl, HB.out.trans HB2.out⟩
end Go.Proofs.YtffkopijfelacaaDoor
