import Derived.Test.YtpnjafacoeinnaaDoorIAwake
import Derived.Test.YtpnjafacoeinnaaDoorWalk4
import Derived.Test.YtpnjafacoeinnaaDoorTrimW
import Derived.Test.YtpnjafacoeinnaaDoorSmall
/-
  held: how m * 2^k lies against n / d * 2^exp.
-/
namespace Go.Proofs.YtpnjafacoeinnaaDoor
open Go Go.RowKit Go.Deep

theorem alloc_below (w : World) (A : Obj) : Below w.heap.size w (w.alloc A) := Below.alloc (Below.refl _ _) (Nat.le_refl _) A

theorem lit_small {D m : Int} {L s : Nat} (hD : 0 ≤ D) (h1 : D < Nm.pw L) (m0 : 0 ≤ m) (h2 : m < 18446744073709551616) (hs : 64 * L + 64 + s ≤ 262144) : D * m * 2 ^ s < Nm.pw 4096 ∧ D * m < Nm.pw 4096 := by
  have e64 : (2 : Int) ^ 64 = 18446744073709551616 := by decide
  rw [Nm.pw_two] at h1
  have p0 := Nm.two_pos s
  have g1 : D * m ≤ D * 2 ^ 64 := Int.mul_le_mul_of_nonneg_left (by omega) hD
  have g2 : D * 2 ^ 64 < 2 ^ (64 * L) * 2 ^ 64 := Int.mul_lt_mul_of_pos_right h1 (by omega)
  rw [← Nm.two_add] at g2
  have g3 : D * m < 2 ^ (64 * L + 64) := by omega
  have g4 : D * m * 2 ^ s < 2 ^ (64 * L + 64) * 2 ^ s := Int.mul_lt_mul_of_pos_right g3 p0
  rw [← Nm.two_add] at g4
  rw [Nm.pw_two]
  have g5 := Nm.two_mono (show 64 * L + 64 + s ≤ 64 * 4096 by omega)
  have g6 := Nm.two_mono (show 64 * L + 64 ≤ 64 * 4096 by omega)
  omega

theorem shl_room {V : Int} {L t : Nat} (h1 : V < Nm.pw L) (ht : 64 * L + t ≤ 262144) : V * 2 ^ t < Nm.pw 4096 := by
  rw [Nm.pw_two] at h1
  have g1 : V * 2 ^ t < 2 ^ (64 * L) * 2 ^ t := Int.mul_lt_mul_of_pos_right h1 (Nm.two_pos t)
  rw [← Nm.two_add] at g1
  have g2 := Nm.two_mono (show 64 * L + t ≤ 64 * 4096 by omega)
  rw [Nm.pw_two]
  omega

set_option maxRecDepth 100000 in
set_option maxHeartbeats 4000000 in
theorem held_any (m k e : Int) (p q : Option Addr) (n cap n' cap' : Nat) (zs ys : List Int) (w : World) (ha : Arg w p n cap zs) (hb : Arg w q n' cap' ys) (hn : n ≤ 60) (hn' : n' ≤ 60) (m0 : 0 ≤ m) (m1 : m < 18446744073709551616)
    (k0 : -2000 ≤ k) (k1 : k ≤ 2000) (e0 : -9000 ≤ e) (e1 : e ≤ 9000) (V D : Int) (hV : Nm.val zs = V) (hD : Nm.val ys = D) (s t : Nat) (hst : (s : Int) - t = k - e) (h0 : s = 0 ∨ t = 0) :
    Calls Tryd.prog 22 #[.int .u64 m, .int .i64 k, .slice p n cap, .slice q n' cap', .int .i64 e] w fun r w' => r = .returned (.tuple #[.int .i64 (cmpI (D * m * 2 ^ s) (V * 2 ^ t)), .bool true]) ∧ Below w.heap.size w w' := by
  have v0 : 0 ≤ V := by rw [← hV]; exact (Nm.val_bd zs ha.2.2.2.2).1
  have d0 : 0 ≤ D := by rw [← hD]; exact (Nm.val_bd ys hb.2.2.2.2).1
  have tz : Nm.tsize zs ≤ 60 := by have := ha.tl; omega
  have ty : Nm.tsize ys ≤ 60 := by have := hb.tl; omega
  have v1 : V < Nm.pw 60 := by rw [← hV]; exact (Nm.tsize_le_iff ha.2.2.2.2 60).1 tz
  have d1 : D < Nm.pw 60 := by rw [← hD]; exact (Nm.tsize_le_iff hb.2.2.2.2 60).1 ty
  have R1 := lit_small (s := s) d0 d1 m0 m1 (by omega)
  have R2 := shl_room (t := t) v1 (by omega)
  have R3 := shl_room (t := 0) v1 (by omega)
  rw [Int.pow_zero, Int.mul_one] at R3
  have MU : Hid (∀ g : Obj, g = .cells #[.int .u64 m] 22 → Calls Tryd.prog 33 #[.slice q n' cap', .slice (some ⟨w.heap.size, 0, none⟩) 1 1] (w.alloc g) fun e w' => ∃ r os, e = .returned (.tuple #[.slice r (List.length os) (List.length os), .int .i64 0]) ∧ Ans w.heap.size w' r os (D * m) ∧ Below w.heap.size w w') := by
    intro g hg
    subst hg
    have hB := alloc_below w (.cells #[.int .u64 m] 22)
    have hm : Nm.val [m] = m := by simp [Nm.val]
    have := mul_ok q (some ⟨w.heap.size, 0, none⟩) n' cap' 1 1 ys [m] _ (hb.below hB (Nat.le_refl _)) (arg_lit (heap_alloc_new w _) m0 m1) (by omega) (by have := Nm.tsize_le [m]; simp at this; omega) (by rw [hD, hm]; exact R1.2)
    rw [hD, hm] at this
    refine this.mono ?_
    rintro e w' ⟨r, os, rfl, A, hB2⟩
    have hs := hB.size
    exact ⟨r, os, rfl, ⟨A.1, A.2.1, A.2.2.1, A.2.2.2.1, fun a h => by have := A.2.2.2.2 a h; omega⟩, hB.trans (hB2.mono hB.size)⟩
  have TR : Hid (∀ wx : World, Below w.heap.size w wx → Calls Tryd.prog 34 #[.slice p n cap] wx fun e w' => ∃ r os, e = .returned (.slice r (List.length os) (List.length os)) ∧ Ans wx.heap.size w' r os V ∧ Below wx.heap.size wx w') := by
    intro wx hx
    have := trim_any p n cap zs wx (ha.below hx (Nat.le_refl _))
    rw [hV] at this
    refine this.mono ?_
    rintro e w' ⟨r, os, h1, -, h2, h3⟩
    exact ⟨r, os, h1, h2, h3⟩
  have KK := hid k0
  have KK1 := hid k1
  clear ha hb hV hD v0 d0 tz ty v1 d1 hn hn' m0 m1
  have RR1 := hid R1
  have RR2 := hid R2
  have RR3 := hid R3
  clear R1 R2 R3
  rcases (show e ≤ k ∨ k < e by omega) with hk | hk
  · have hz : t = 0 := by omega
    subst hz
    have KS := hid (show k - e = (s : Int) by omega)
    rw [Int.pow_zero, Int.mul_one]
    have hk1 : ¬ k < e := by omega
    clear hst h0
    go_enter Tryd.func22, Tryd.ntmps22
    go_wp2_with fail
    refine (MU.out _ rfl).mono ?_
    rintro e' w1 ⟨r, os, rfl, A, hB1⟩
    have AA := hid A
    have HB1 := hid hB1
    have T1 := hid (TR.out w1 hB1)
    clear A hB1 MU TR
    go_wp2_with fail
    refine T1.out.mono ?_
    rintro e' w2 ⟨r2, os2, rfl, A2, hB2⟩
    have A := AA.out.below hB2 (Nat.le_refl _)
    have R1 := RR1.out
    have R2 := RR2.out
    have R3 := RR3.out
    rw [Int.pow_zero, Int.mul_one] at R2
    have l1 := ans_small A 4096 R1.2
    have l2 := ans_small A2 4096 R3
    have hB12 := HB1.out.trans (hB2.mono HB1.out.size)
    have CC : Hid (∀ sh : Int, sh = k - e → Calls Tryd.prog 35 #[.slice r os.length os.length, .int .i64 sh] w2 fun x w' => ∃ (r3 : Option Addr) (os3 : List Int), x = .returned (.tuple #[.slice r3 (List.length os3) (List.length os3), .int .i64 0]) ∧ Below w.heap.size w w' ∧
        (∀ c, c = cmpI (D * m * 2 ^ s) V → Calls Tryd.prog 36 #[.slice r3 (List.length os3) (List.length os3), .slice r2 os2.length os2.length] w' fun y w'' => y = .returned (.int .i64 c) ∧ Below w.heap.size w w'')) := by
      intro sh hsh
      refine (shl_any r _ _ os sh s w2 (A.arg (by omega)) (by rw [A.2.2.1]; omega) (by have := KS.out; omega) (by rw [A.2.2.2.1]; exact R1.1)).mono ?_
      rintro e' w3 ⟨r3, os3, rfl, A3, hB3⟩
      rw [A.2.2.2.1] at A3
      have l3 := ans_small A3 4096 R1.1
      have A2' := A2.below hB3 (Nat.le_refl _)
      have C := cmp_any r3 r2 _ _ _ _ os3 os2 w3 (A3.arg (by omega)) (A2'.arg (by omega))
      rw [A3.2.2.2.1, A2.2.2.2.1] at C
      have ch := hB12.trans (hB3.mono hB12.size)
      refine ⟨r3, os3, rfl, ch, fun c hc => ?_⟩
      subst hc
      refine C.mono ?_
      rintro y w4 ⟨rfl, hB4⟩
      exact ⟨rfl, ch.trans (hB4.mono ch.size)⟩
    clear A A2 hB2 l1 l2 hB12 R1 R2 R3 AA HB1 T1
    go_wp2_with fail
    refine (CC.out _ rfl).mono ?_
    rintro e' w3 ⟨r3, os3, rfl, hB3, hC⟩
    have HC := hid hC
    clear hB3 hC CC
    go_wp2_with fail
    refine (HC.out _ rfl).mono ?_
    rintro e' w4 ⟨rfl, hB4⟩
    have HB4 := hid hB4
    clear hB4
    go_wp2_with fail
    go_ret2
    exact ⟨rfl, HB4.out⟩
  · have hz : s = 0 := by omega
    subst hz
    have KS := hid (show e - k = (t : Int) by omega)
    rw [Int.pow_zero, Int.mul_one]
    have hk1 : ¬ e ≤ k := by omega
    clear hst h0
    go_enter Tryd.func22, Tryd.ntmps22
    go_wp2_with fail
    refine (MU.out _ rfl).mono ?_
    rintro e' w1 ⟨r, os, rfl, A, hB1⟩
    have AA := hid A
    have HB1 := hid hB1
    have T1 := hid (TR.out w1 hB1)
    clear A hB1 MU TR
    go_wp2_with fail
    refine T1.out.mono ?_
    rintro e' w2 ⟨r2, os2, rfl, A2, hB2⟩
    have A := AA.out.below hB2 (Nat.le_refl _)
    have R1 := RR1.out
    have R2 := RR2.out
    have R3 := RR3.out
    rw [Int.pow_zero, Int.mul_one] at R1
    have l1 := ans_small A 4096 R1.2
    have l2 := ans_small A2 4096 R3
    have hB12 := HB1.out.trans (hB2.mono HB1.out.size)
    have CC : Hid (∀ sh : Int, sh = e - k → Calls Tryd.prog 35 #[.slice r2 os2.length os2.length, .int .i64 sh] w2 fun x w' => ∃ (r3 : Option Addr) (os3 : List Int), x = .returned (.tuple #[.slice r3 (List.length os3) (List.length os3), .int .i64 0]) ∧ Below w.heap.size w w' ∧
        (∀ c, c = cmpI (D * m) (V * 2 ^ t) → Calls Tryd.prog 36 #[.slice r os.length os.length, .slice r3 (List.length os3) (List.length os3)] w' fun y w'' => y = .returned (.int .i64 c) ∧ Below w.heap.size w w'')) := by
      intro sh hsh
      refine (shl_any r2 _ _ os2 sh t w2 (A2.arg (by omega)) (by rw [A2.2.2.1]; omega) (by have := KS.out; omega) (by rw [A2.2.2.2.1]; exact R2)).mono ?_
      rintro e' w3 ⟨r3, os3, rfl, A3, hB3⟩
      rw [A2.2.2.2.1] at A3
      have l3 := ans_small A3 4096 R2
      have A' := A.below hB3 (Nat.le_refl _)
      have C := cmp_any r r3 _ _ _ _ os os3 w3 (A'.arg (by omega)) (A3.arg (by omega))
      rw [A3.2.2.2.1, A.2.2.2.1] at C
      have ch := hB12.trans (hB3.mono hB12.size)
      refine ⟨r3, os3, rfl, ch, fun c hc => ?_⟩
      subst hc
      refine C.mono ?_
      rintro y w4 ⟨rfl, hB4⟩
      exact ⟨rfl, ch.trans (hB4.mono ch.size)⟩
    clear A A2 hB2 l1 l2 hB12 R1 R2 R3 AA HB1 T1
    go_wp2_with fail
    refine (CC.out _ rfl).mono ?_
    rintro e' w3 ⟨r3, os3, rfl, hB3, hC⟩
    have HC := hid hC
    clear hB3 hC CC
    go_wp2_with fail
    refine (HC.out _ rfl).mono ?_
    rintro e' w4 ⟨rfl, hB4⟩
    have HB4 := hid hB4
    clear hB4
    go_wp2_with fail
    go_ret2
    exact ⟨rfl, HB4.out⟩
end Go.Proofs.YtpnjafacoeinnaaDoor
