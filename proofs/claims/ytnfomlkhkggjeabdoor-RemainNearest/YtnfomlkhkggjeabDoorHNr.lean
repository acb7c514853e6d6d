/-
  Texts put together: HNear, HNear2, HNear3, HPow, HNearA, HNearP, HNearE, HNearO, HNearest.
-/
import Derived.Test.YtnfomlkhkggjeabDoorMPw
import Derived.Test.YtnfomlkhkggjeabDoorMLft
import Derived.BigRegion
import Derived.Test.YtnfomlkhkggjeabDoorMNum
/-
  law06: middle, against, nearest.
-/
namespace Go.Proofs.YtnfomlkhkggjeabDoor
open Go Go.RowKit Go.Deep

theorem ans_lit {w : World} {g B : Nat} {x : Int} (h : w.heap[g]? = some (.cells #[.int .u64 x] 22 (0, 0))) (h0 : 0 < x) (h1 : x < 18446744073709551616) (hB : B ≤ g) : Ans B w (some ⟨g, 0, none⟩) [x] x := by
  refine ⟨.inr ⟨g, 0, rfl, fun i hi => ?_⟩, Nm.Limbs.mk (by omega) h1 Nm.Limbs.nil, ?_, by simp [Nm.val], fun a ha => ?_⟩
  · obtain rfl : i = 0 := by simpa using hi
    simp [World.cell?, h]
  · have h3 := Nm.tsize_zero_iff (Nm.Limbs.mk (by omega) h1 Nm.Limbs.nil : Nm.Limbs [x])
    have h4 : Nm.val [x] = x := by simp [Nm.val]
    rw [h4] at h3
    have h2 := Nm.tsize_le [x]
    simp at h2 ⊢
    omega
  · cases ha; exact hB

theorem a_mul {B B' : Nat} {w : World} {p q : Option Addr} {os qs : List Int} {u v : Int} (A : Ans B w p os u) (A' : Ans B' w q qs v) (hu : u < Nm.pw 4096) (hv : v < Nm.pw 4096) (h : u * v < Nm.pw 4096) :
    Calls Tryd.prog 66 #[.slice p os.length os.length, .slice q qs.length qs.length] w fun e w' => ∃ r os, e = .returned (.tuple #[.slice r (List.length os) (List.length os), .int .i64 0]) ∧ Ans w.heap.size w' r os (u * v) ∧ Below w.heap.size w w' := by
  have := mul_ok p q _ _ _ _ os qs w (A.argT hu) (A'.argT hv) (A.tsT hu) (A'.tsT hv) (by rw [A.2.2.2.1, A'.2.2.2.1]; exact h)
  rw [A.2.2.2.1, A'.2.2.2.1] at this
  exact this

/-- What middle tells. -/
def MidTold (a : Int) (w : World) (e : Ending) (w' : World) : Prop :=
  ∃ (p : Option Addr) (os : List Int), e = .returned (.tuple #[.slice p (List.length os) (List.length os), .int .i64 ((Ie.ex a : Int) - 1075)]) ∧ Ans w.heap.size w' p os (2 * Ie.man a + 1) ∧ Below w.heap.size w w'

set_option maxRecDepth 100000 in
set_option maxHeartbeats 4000000 in
theorem middle_any (a : Int) (w : World) (a0 : 0 ≤ a) (a1 : a < 9218868437227405312) :
    Calls Tryd.prog 41 #[.int .u64 a] w fun e w' => MidTold a w e w' := by
  have D := hid (fun (wx : World) => decode_any a wx a0 (by omega))
  have ka : Ie.ab a = a := by rw [Ie.ab]; omega
  rcases (show a = 0 ∨ 0 < a by omega) with z | z
  · subst z
    have WT : Hid (∀ wx : World, Below w.heap.size w wx → MidTold 0 w (.returned (.tuple #[.slice (some ⟨wx.heap.size, 0, none⟩) 1 1, .int .i64 (-1075)])) (wx.alloc (.cells #[.int .u64 1] 22))) := by
      intro wx hB
      have hb := alloc_b wx (.cells #[.int .u64 1] 22)
      exact ⟨_, [1], rfl, ans_lit (heap_alloc_new wx _) (by omega) (by omega) hB.size, hB.trans (hb.mono hB.size)⟩
    rw [show Ie.cls 0 = 0 by decide] at D
    simp only [partsOf] at D
    generalize Ie.dm 0 = m at *
    generalize Ie.de 0 = x at *
    generalize decide ((9223372036854775808 : Int) ≤ 0) = neg at *
    go_enter Tryd.func41, Tryd.ntmps41
    go_wp2_with fail
    refine (D.out _).mono ?_
    rintro e w1 ⟨rfl, hB1⟩
    have hb := hB1.trans ((alloc_b w1 (.cells #[.bool neg, .int .i64 0, .int .u64 m, .int .i64 x] 34)).mono hB1.size)
    have KK := hid (WT.out _ hb)
    clear hB1 hb WT D
    go_upto_region 2 with fail
    have P := Row4.new w1 34 (.bool neg) (.int .i64 0) (.int .u64 m) (.int .i64 x)
    obtain ⟨⟨-, p1, p2, p3⟩, -⟩ := P.cells
    clear P
    generalize w1.alloc (.cells #[.bool neg, .int .i64 0, .int .u64 m, .int .i64 x] 34) = wA at *
    go_wp2_with fail
    go_ret2
    exact KK.out
  · obtain ⟨q1, q2⟩ : Ie.dm a = Ie.man a ∧ Ie.de a = (Ie.ex a : Int) - 1074 ∧ (Ie.cls a == 0) = false := by
      rcases Ie.dec_kinds a _ rfl with ⟨c, m, x, k1⟩ | ⟨c, m, x, k1, k2⟩ | ⟨c, m, x, k1, k2⟩ | ⟨c, m, x, k1⟩ | ⟨c, m, x, k1, k2⟩
      · omega
      · refine ⟨?_, ?_, by rw [c]; rfl⟩
        · rw [m, Ie.man, if_pos (by omega)]; omega
        · rw [x, Ie.ex]; omega
      · have e : a % 9223372036854775808 = a := by omega
        rw [e] at m x
        exact ⟨m, x, by rw [c]; rfl⟩
      · omega
      · omega
    obtain ⟨q2, q3⟩ := q2
    have mb := Ie.man_nn a a0
    have eb : (Ie.ex a : Int) ≤ 2045 := by simp only [Ie.ex]; omega
    rw [q1, q2] at D
    have WT : Hid (∀ (wx : World), Below w.heap.size w wx → MidTold a w (.returned (.tuple #[.slice (some ⟨wx.heap.size, 0, none⟩) 1 1, .int .i64 ((Ie.ex a : Int) - 1075)])) (wx.alloc (.cells #[.int .u64 (2 * Ie.man a + 1)] 22))) := by
      intro wx hB
      have hb := alloc_b wx (.cells #[.int .u64 (2 * Ie.man a + 1)] 22)
      exact ⟨_, [2 * Ie.man a + 1], rfl, ans_lit (heap_alloc_new wx _) (by omega) (by omega) hB.size, hB.trans (hb.mono hB.size)⟩
    simp only [partsOf] at D
    obtain ⟨m0, m1⟩ := mb
    obtain ⟨x, hx⟩ : ∃ x, (Ie.ex a : Int) = x := ⟨_, rfl⟩
    rw [hx] at D WT eb
    have x0 : 0 ≤ x := by omega
    generalize Ie.man a = m at *
    generalize Ie.cls a = c at *
    generalize decide ((9223372036854775808 : Int) ≤ a) = neg at *
    clear hx q1 q2 ka
    go_enter Tryd.func41, Tryd.ntmps41
    go_wp2_with fail
    refine (D.out _).mono ?_
    rintro e w1 ⟨rfl, hB1⟩
    have hb := hB1.trans ((alloc_b w1 (.cells #[.bool neg, .int .i64 c, .int .u64 m, .int .i64 (x - 1074)] 34)).mono hB1.size)
    have hb2 := hb.trans ((drew_nil (w1.alloc (.cells #[.bool neg, .int .i64 c, .int .u64 m, .int .i64 (x - 1074)] 34))).mono hb.size)
    have KK := hid (WT.out _ hb2)
    clear hB1 hb hb2 WT D
    go_upto_region 2 with fail
    have P := Row4.new w1 34 (.bool neg) (.int .i64 c) (.int .u64 m) (.int .i64 (x - 1074))
    obtain ⟨⟨-, p1, p2, p3⟩, -⟩ := P.cells
    have HP := hid P.cells.1
    have lt := P.lt
    clear P
    generalize w1.alloc (.cells #[.bool neg, .int .i64 c, .int .u64 m, .int .i64 (x - 1074)] 34) = wA at *
    go_upto_region 4 with fail
    have xe : x - 1074 - 1 = x - 1075 := by omega
    go_region
    all_goals (go_wp2_with fail; go_ret2; exact KK.out)
end Go.Proofs.YtnfomlkhkggjeabDoor

/-
  law06: against, nearest (made by mkhnear.py).
-/
namespace Go.Proofs.YtnfomlkhkggjeabDoor
open Go Go.RowKit Go.Deep

set_option maxRecDepth 100000 in
set_option maxHeartbeats 2000000 in
theorem against_up {B1 B2 B3 : Nat} {w : World} {pn pd pm : Option Addr} {on od om : List Int} {N D M : Int} (s : Nat) (A1 : Ans B1 w pn on N) (A2 : Ans B2 w pd od D) (A3 : Ans B3 w pm om M) (b1 : N < Nm.pw 4096) (b2 : D < Nm.pw 4096) (b3 : M < Nm.pw 4096) (b4 : M * D < Nm.pw 4096) (b5 : M * D * 2 ^ s < Nm.pw 4096) :
    Calls Tryd.prog 42 #[.slice pn on.length on.length, .slice pd od.length od.length, .slice pm om.length om.length, .int .i64 (s : Int)] w fun e w' => e = .returned (.int .i64 (cmpI N (M * D * 2 ^ s))) ∧ Below w.heap.size w w' := by
  have MU := hid (a_mul A3 A2 b3 b2 b4)
  have HA := hid A1
  have SH := hid (fun (wx : World) (p : Option Addr) (os : List Int) (B : Nat) (A : Ans B wx p os (M * D)) => a_shl s A b5)
  have CM := hid (fun (wx : World) (p q : Option Addr) (os qs : List Int) (B B' : Nat) (A : Ans B wx p os N) (A' : Ans B' wx q qs (M * D * 2 ^ s)) => a_cmp A A' b1 b5)
  have s0 : ¬ (s : Int) < 0 := by omega
  clear A1 A2 A3 b1 b2 b3 b4 b5
  generalize M * D * 2 ^ s = R at *
  generalize M * D = T at *
  go_enter Tryd.func42, Tryd.ntmps42
  go_wp2_with fail
  refine MU.out.mono ?_
  rintro e w1 ⟨p1, o1, rfl, A, hB⟩
  have HB1 := hid hB
  have HA1 := hid (HA.out.below hB (Nat.le_refl _))
  have S1 := hid (SH.out w1 p1 o1 _ A)
  clear A hB MU HA SH
  go_wp2_with fail
  refine S1.out.mono ?_
  rintro e w2 ⟨p2, o2, rfl, A, hB⟩
  have HB2 := hid (HB1.out.trans (hB.mono HB1.out.size))
  have C1 := hid (CM.out w2 _ _ _ _ _ _ (HA1.out.below hB (Nat.le_refl _)) A)
  clear A hB S1 HA1 CM HB1
  go_wp2_with fail
  refine C1.out.mono ?_
  rintro e w3 ⟨rfl, hB⟩
  have HB3 := hid (HB2.out.trans (hB.mono HB2.out.size))
  clear hB C1 HB2
  go_wp2_with fail
  go_ret
  exact ⟨rfl, HB3.out⟩

set_option maxRecDepth 100000 in
set_option maxHeartbeats 2000000 in
theorem against_dn {B1 B2 B3 : Nat} {w : World} {pn pd pm : Option Addr} {on od om : List Int} {N D M x : Int} (t : Nat) (ht : 0 < t) (hx : x = -(t : Int)) (ht2 : t ≤ 4000) (A1 : Ans B1 w pn on N) (A2 : Ans B2 w pd od D) (A3 : Ans B3 w pm om M) (b1 : N * 2 ^ t < Nm.pw 4096) (b2 : D < Nm.pw 4096) (b3 : M < Nm.pw 4096) (b4 : M * D < Nm.pw 4096) :
    Calls Tryd.prog 42 #[.slice pn on.length on.length, .slice pd od.length od.length, .slice pm om.length om.length, .int .i64 x] w fun e w' => e = .returned (.int .i64 (cmpI (N * 2 ^ t) (M * D))) ∧ Below w.heap.size w w' := by
  have MU := hid (a_mul A3 A2 b3 b2 b4)
  have HA := hid A1
  have SH := hid (fun (wx : World) (A : Ans B1 wx pn on N) => a_shl t A b1)
  have CM := hid (fun (wx : World) (p q : Option Addr) (os qs : List Int) (B B' : Nat) (A : Ans B wx p os (N * 2 ^ t)) (A' : Ans B' wx q qs (M * D)) => a_cmp A A' b1 b4)
  have WK : IntKind.i64.wrap (t : Int) = (t : Int) := by rw [IntKind.wrap_i64]; omega
  have x0 : -(t : Int) < 0 := by omega
  subst hx
  clear A1 A2 A3 b1 b2 b3 b4 ht
  generalize N * 2 ^ t = R at *
  generalize M * D = T at *
  go_enter Tryd.func42, Tryd.ntmps42
  go_wp2_with fail
  refine MU.out.mono ?_
  rintro e w1 ⟨p1, o1, rfl, A, hB⟩
  have HB1 := hid hB
  have S1 := hid (SH.out w1 (HA.out.below hB (Nat.le_refl _)))
  have HA1 := hid A
  clear A hB MU HA SH
  go_wp2_with fail
  refine S1.out.mono ?_
  rintro e w2 ⟨p2, o2, rfl, A, hB⟩
  have HB2 := hid (HB1.out.trans (hB.mono HB1.out.size))
  have C1 := hid (CM.out w2 _ _ _ _ _ _ A (HA1.out.below hB (Nat.le_refl _)))
  clear A hB S1 HA1 CM HB1
  go_wp2_with fail
  refine C1.out.mono ?_
  rintro e w3 ⟨rfl, hB⟩
  have HB3 := hid (HB2.out.trans (hB.mono HB2.out.size))
  clear hB C1 HB2
  go_wp2_with fail
  go_ret
  exact ⟨rfl, HB3.out⟩

/-- Against the middle above the double a. -/
theorem against_mid {B1 B2 B3 : Nat} {w : World} {pn pd pm : Option Addr} {on od om : List Int} {N D : Int} (a : Int) (a0 : 0 ≤ a) (a1 : a < 9218868437227405312) (A1 : Ans B1 w pn on N) (A2 : Ans B2 w pd od D) (A3 : Ans B3 w pm om (2 * Ie.man a + 1)) (K : Nat) (hK : K ≤ 160000) (b1 : N < 2 ^ K) (b2 : D < 2 ^ K) :
    ∃ s t : Nat, (s : Int) - t = (Ie.ex a : Int) - 1075 ∧ Calls Tryd.prog 42 #[.slice pn on.length on.length, .slice pd od.length od.length, .slice pm om.length om.length, .int .i64 ((Ie.ex a : Int) - 1075)] w fun e w' => e = .returned (.int .i64 (cmpI (N * 2 ^ t) ((2 * Ie.man a + 1) * D * 2 ^ s))) ∧ Below w.heap.size w w' := by
  have mb := Ie.man_nn a a0
  have eb : (Ie.ex a : Int) ≤ 2045 := by simp only [Ie.ex]; omega
  have e54 : (2 : Int) ^ 54 = 18014398509481984 := by decide
  have D0 : 0 ≤ D := by rw [← A2.2.2.2.1]; exact (Nm.val_bd od A2.2.1).1
  have k1 : 2 * Ie.man a + 1 < 2 ^ 54 := by omega
  have b4 : (2 * Ie.man a + 1) * D < 2 ^ (54 + K) := by
    have h1 : (2 * Ie.man a + 1) * D ≤ 2 ^ 54 * D := Int.mul_le_mul_of_nonneg_right (by omega) D0
    have h2 : (2 : Int) ^ 54 * D < 2 ^ 54 * 2 ^ K := Int.mul_lt_mul_of_pos_left b2 (Nm.two_pos 54)
    rw [← Nm.two_add] at h2
    exact Int.lt_of_le_of_lt h1 h2
  rcases (show (1075 : Int) ≤ Ie.ex a ∨ (Ie.ex a : Int) < 1075 by omega) with h | h
  · obtain ⟨s, hs⟩ : ∃ s : Nat, (s : Int) = (Ie.ex a : Int) - 1075 := ⟨((Ie.ex a : Int) - 1075).toNat, by omega⟩
    refine ⟨s, 0, by omega, ?_⟩
    rw [← hs, Int.pow_zero, Int.mul_one]
    exact against_up s A1 A2 A3 (pw_room (by omega) b1) (pw_room (by omega) b2) (pw_room (k := 54) (by omega) k1) (pw_room (by omega) b4) (sh_room b4 (by omega))
  · obtain ⟨t, ht⟩ : ∃ t : Nat, (t : Int) = 1075 - (Ie.ex a : Int) := ⟨(1075 - (Ie.ex a : Int)).toNat, by omega⟩
    refine ⟨0, t, by omega, ?_⟩
    rw [Int.pow_zero, Int.mul_one]
    exact against_dn t (by omega) (by omega) (by omega) A1 A2 A3 (sh_room b1 (by omega)) (pw_room (by omega) b2) (pw_room (k := 54) (by omega) k1) (pw_room (by omega) b4)

end Go.Proofs.YtnfomlkhkggjeabDoor

/-
  law06: nearest (made by mkhnear.py).
-/
namespace Go.Proofs.YtnfomlkhkggjeabDoor
open Go Go.RowKit Go.Deep

set_option maxRecDepth 100000 in
set_option maxHeartbeats 4000000 in
theorem nearest6_any {B1 B2 : Nat} {w : World} {pn pd : Option Addr} {on od : List Int} {N D : Int} (r : Int) (A1 : Ans B1 w pn on N) (A2 : Ans B2 w pd od D) (K : Nat) (hK : K ≤ 160000) (b1 : N < 2 ^ K) (b2 : D < 2 ^ K) (hR : Ie.Rnd N D 0 false r) :
    Calls Tryd.prog 18 #[.slice pn on.length on.length, .slice pd od.length od.length, .int .u64 r] w fun e w' => e = .returned (.bool true) ∧ Below w.heap.size w w' := by
  have rb := hR.bd
  -- what is told of the middle above a
  have UP : Hid (r < 9218868437227405312 → ∀ (wx : World) (pm : Option Addr) (om : List Int) (B3 : Nat), Below w.heap.size w wx → Ans B3 wx pm om (2 * Ie.man r + 1) → ∃ c : Int, (c = -1 ∨ (c = 0 ∧ r % 2 = 0)) ∧ Calls Tryd.prog 42 #[.slice pn on.length on.length, .slice pd od.length od.length, .slice pm om.length om.length, .int .i64 ((Ie.ex r : Int) - 1075)] wx fun e w' => e = .returned (.int .i64 c) ∧ Below wx.heap.size wx w') := by
    intro hr wx pm om B3 hx A3
    obtain ⟨s, t, hst, C⟩ := against_mid r rb.1 hr (A1.below hx (Nat.le_refl _)) (A2.below hx (Nat.le_refl _)) A3 K hK b1 b2
    refine ⟨_, ?_, C⟩
    rcases hR.hi hr (M := 2 * Ie.man r + 1) (E := Ie.ex r) (s := s) (t := t) rfl (by omega) with g | ⟨g, g'⟩
    · exact .inl (cmpI_lt g)
    · exact .inr ⟨cmpI_eq g, g'⟩
  have DN : Hid (0 < r → ∀ (wx : World) (pm : Option Addr) (om : List Int) (B3 : Nat), Below w.heap.size w wx → Ans B3 wx pm om (2 * Ie.man (r - 1) + 1) → ∃ c : Int, (c = 1 ∨ (c = 0 ∧ r % 2 = 0)) ∧ Calls Tryd.prog 42 #[.slice pn on.length on.length, .slice pd od.length od.length, .slice pm om.length om.length, .int .i64 ((Ie.ex (r - 1) : Int) - 1075)] wx fun e w' => e = .returned (.int .i64 c) ∧ Below wx.heap.size wx w') := by
    intro hr wx pm om B3 hx A3
    obtain ⟨s, t, hst, C⟩ := against_mid (r - 1) (by omega) (by omega) (A1.below hx (Nat.le_refl _)) (A2.below hx (Nat.le_refl _)) A3 K hK b1 b2
    refine ⟨_, ?_, C⟩
    rcases hR.lo hr (M := 2 * Ie.man (r - 1) + 1) (E := Ie.ex (r - 1)) (s := s) (t := t) rfl (by omega) with g | ⟨g, g'⟩
    · exact .inl (cmpI_gt g)
    · exact .inr ⟨cmpI_eq g.symm, g'⟩
  have MU := hid (fun (wx : World) (hr : r < 9218868437227405312) => middle_any r wx rb.1 hr)
  have MD := hid (fun (wx : World) (hr : 0 < r) => middle_any (r - 1) wx (by omega) (by omega))
  obtain ⟨r0, r1⟩ := rb
  clear hR A1 A2 b1 b2 hK
  simp only [MidTold] at MU MD
  generalize (Ie.ex r : Int) - 1075 = x1 at *
  generalize (Ie.ex (r - 1) : Int) - 1075 = x2 at *
  rcases (show r = 0 ∨ (0 < r ∧ r < 9218868437227405312) ∨ r = 9218868437227405312 by omega) with z | ⟨lo, hi⟩ | hi
  · subst z
    have hi : (0 : Int) < 9218868437227405312 := by omega
    have HB0 := hid (Below.refl w.heap.size w)
    clear DN MD
    go_enter Tryd.func18, Tryd.ntmps18
    go_wp2_with fail
    refine (MU.out _ hi).mono ?_
    rintro e w3 ⟨p3, o3, rfl, A, hB⟩
    have HB3 := hid (HB0.out.trans (hB.mono HB0.out.size))
    obtain ⟨c, hc, C⟩ := UP.out hi w3 p3 o3 _ HB3.out A
    have HC := hid C
    clear A hB C UP MU HB0
    go_wp2_with fail
    refine HC.out.mono ?_
    rintro e w4 ⟨rfl, hB⟩
    have HB4 := hid (HB3.out.trans (hB.mono HB3.out.size))
    clear hB HC HB3
    rcases hc with rfl | ⟨rfl, ev⟩
    · go_wp2_with fail
      go_ret
      exact ⟨rfl, HB4.out⟩
    · go_wp2_with fail
      go_ret
      exact ⟨rfl, HB4.out⟩
  · go_enter Tryd.func18, Tryd.ntmps18
    go_wp2_with fail
    refine (MD.out _ lo).mono ?_
    rintro e w1 ⟨p1, o1, rfl, A, hB⟩
    have HB1 := hid hB
    obtain ⟨c, hc, C⟩ := DN.out lo w1 p1 o1 _ HB1.out A
    have HC := hid C
    clear A hB C DN MD
    go_wp2_with fail
    refine HC.out.mono ?_
    rintro e w2 ⟨rfl, hB⟩
    have HB2 := hid (HB1.out.trans (hB.mono HB1.out.size))
    clear hB HC HB1
    rcases hc with rfl | ⟨rfl, ev⟩
    · go_wp2_with fail
      refine (MU.out _ hi).mono ?_
      rintro e w3 ⟨p3, o3, rfl, A, hB⟩
      have HB3 := hid (HB2.out.trans (hB.mono HB2.out.size))
      obtain ⟨c, hc, C⟩ := UP.out hi w3 p3 o3 _ HB3.out A
      have HC := hid C
      clear A hB C UP MU HB2
      go_wp2_with fail
      refine HC.out.mono ?_
      rintro e w4 ⟨rfl, hB⟩
      have HB4 := hid (HB3.out.trans (hB.mono HB3.out.size))
      clear hB HC HB3
      rcases hc with rfl | ⟨rfl, ev⟩
      · go_wp2_with fail
        go_ret
        exact ⟨rfl, HB4.out⟩
      · go_wp2_with fail
        go_ret
        exact ⟨rfl, HB4.out⟩
    · go_wp2_with fail
      refine (MU.out _ hi).mono ?_
      rintro e w3 ⟨p3, o3, rfl, A, hB⟩
      have HB3 := hid (HB2.out.trans (hB.mono HB2.out.size))
      obtain ⟨c, hc, C⟩ := UP.out hi w3 p3 o3 _ HB3.out A
      have HC := hid C
      clear A hB C UP MU HB2
      go_wp2_with fail
      refine HC.out.mono ?_
      rintro e w4 ⟨rfl, hB⟩
      have HB4 := hid (HB3.out.trans (hB.mono HB3.out.size))
      clear hB HC HB3
      rcases hc with rfl | ⟨rfl, ev⟩
      · go_wp2_with fail
        go_ret
        exact ⟨rfl, HB4.out⟩
      · go_wp2_with fail
        go_ret
        exact ⟨rfl, HB4.out⟩
  · have lo : 0 < r := by omega
    have ge : ¬ r < 9218868437227405312 := by omega
    have HI := hid hi
    clear UP MU hi r0
    go_enter Tryd.func18, Tryd.ntmps18
    go_wp2_with fail
    refine (MD.out _ lo).mono ?_
    rintro e w1 ⟨p1, o1, rfl, A, hB⟩
    have HB1 := hid hB
    obtain ⟨c, hc, C⟩ := DN.out lo w1 p1 o1 _ HB1.out A
    have HC := hid C
    clear A hB C DN MD
    go_wp2_with fail
    refine HC.out.mono ?_
    rintro e w2 ⟨rfl, hB⟩
    have HB2 := hid (HB1.out.trans (hB.mono HB1.out.size))
    clear hB HC HB1
    rcases hc with rfl | ⟨rfl, ev⟩
    · go_wp2_with fail
      go_ret
      exact ⟨by simp [HI.out], HB2.out⟩
    · go_wp2_with fail
      go_ret
      exact ⟨by simp [HI.out], HB2.out⟩
end Go.Proofs.YtnfomlkhkggjeabDoor

/-
  RemainNearest in numbers.
-/
namespace Go.Proofs.YtnfomlkhkggjeabDoor
namespace Ie

/-- All that RemainNearest asks of the power. -/
structure PowFacts (P n E y : Int) : Prop where
  far1 : 0 < n → 100000 < E → y = 9218868437227405312
  far2 : 0 < n → E < -100000 → y = 0
  far3 : n < 0 → 100000 < E → y = 0
  far4 : n < 0 → E < -100000 → y = 9218868437227405312
  near1 : 0 < n → ∀ s : Nat, (s : Int) = E → Rnd (P * 2 ^ s) 1 0 false y
  near2 : 0 < n → ∀ s : Nat, (s : Int) = -E → Rnd P (1 * 2 ^ s) 0 false y
  near3 : n < 0 → ∀ s : Nat, (s : Int) = E → Rnd 1 (P * 2 ^ s) 0 false y
  near4 : n < 0 → ∀ s : Nat, (s : Int) = -E → Rnd (1 * 2 ^ s) P 0 false y

theorem pow_facts {m o x n y E : Int} {t k : Nat} (hm : m = o * 2 ^ t) (o0 : 0 < o) (o1 : o < 9007199254740992) (k1 : k ≤ 1024) (hk : max n (-n) = (k : Int)) (hE : (x + (t : Int)) * (k : Int) = E) (h : PowIs m x n y) : PowFacts (o ^ k) n E y := by
  obtain ⟨K, hK, p0, p1⟩ : ∃ K : Nat, K ≤ 54272 ∧ 0 < o ^ k ∧ o ^ k ≤ 2 ^ K := ⟨53 * k, by omega, pow_pos' o0 k, pow_le' o0 o1 k⟩
  obtain ⟨h1, h2⟩ := h.odd hm
  have a1 : 0 < n → Rnd (o ^ k) 1 E false y := by
    intro hn
    have e : n = (k : Int) := by omega
    have := h1 k e
    rw [e, hE] at this
    exact this
  have a2 : n < 0 → Rnd 1 (o ^ k) (-E) false y := by
    intro hn
    have e : n = -(k : Int) := by omega
    have := h2 k e
    rw [e, Int.mul_neg, hE] at this
    exact this
  have q0 : (2 : Int) ^ 0 = 1 := rfl
  have q1 : (2 : Int) ^ 1 = 2 := rfl
  have hlt : o ^ k < 2 ^ (K + 1) := by have := Nm.two_succ K; have := Nm.two_pos K; omega
  refine ⟨fun hn he => ?_, fun hn he => ?_, fun hn he => ?_, fun hn he => ?_, fun hn s hs => ?_, fun hn s hs => ?_, fun hn s hs => ?_, fun hn s hs => ?_⟩
  · exact (a1 hn).one (by decide) (by decide) (rnd_inf (o ^ k) 1 E 0 0 false (by omega) (by omega) (by omega)) (a := 0) (a' := 0) (by omega) rfl
  · exact (a1 hn).one (by decide) (by decide) (rnd_small (o ^ k) 1 E (K + 1) 0 false hlt (by omega) (by omega)) (a := 0) (a' := 0) (by omega) rfl
  · exact (a2 hn).one p0 p0 (rnd_small 1 (o ^ k) (-E) 1 0 false (by omega) (by omega) (by omega)) (a := 0) (a' := 0) (by omega) rfl
  · exact (a2 hn).one p0 p0 (rnd_inf 1 (o ^ k) (-E) 0 K false (by omega) p1 (by omega)) (a := 0) (a' := 0) (by omega) rfl
  · have := (a1 hn).up s
    rw [show E - (s : Int) = 0 by omega] at this
    exact this
  · have := (a1 hn).dup s
    rw [show E + (s : Int) = 0 by omega] at this
    exact this
  · have := (a2 hn).dup s
    rw [show -E + (s : Int) = 0 by omega] at this
    exact this
  · have := (a2 hn).up s
    rw [show -E - (s : Int) = 0 by omega] at this
    exact this

theorem pow_sh {P : Int} {K s : Nat} (h : P ≤ 2 ^ K) (hK : K ≤ 54272) (hs : s ≤ 100000) : ∃ J : Nat, J ≤ 160000 ∧ P * 2 ^ s < 2 ^ J ∧ P < 2 ^ J ∧ (1 : Int) * 2 ^ s < 2 ^ J ∧ 1 < (2 : Int) ^ J := by
  have hp := Nm.two_pos s
  have hk := Nm.two_pos K
  have e1 : (2 : Int) ^ (K + s + 1) = 2 * (2 ^ K * 2 ^ s) := by rw [Nm.two_succ, Nm.two_add]
  have g1 : P * 2 ^ s ≤ 2 ^ K * 2 ^ s := Int.mul_le_mul_of_nonneg_right h (by omega)
  have g2 : (2 : Int) ^ K * 1 ≤ 2 ^ K * 2 ^ s := Int.mul_le_mul_of_nonneg_left (by omega) (by omega)
  have g3 : (1 : Int) * 2 ^ s ≤ 2 ^ K * 2 ^ s := Int.mul_le_mul_of_nonneg_right (by omega) (by omega)
  exact ⟨K + s + 1, by omega, by omega, by omega, by omega, by omega⟩
end Ie
end Go.Proofs.YtnfomlkhkggjeabDoor

/-
  RemainNearest where there is nothing to be held against (made by mkhlaw.py).
-/
namespace Go.Proofs.YtnfomlkhkggjeabDoor
open Go Go.RowKit Go.Deep

theorem Ie.de_le (d : Int) : Ie.de d ≤ 971 := by
  rcases Ie.dec_kinds d _ rfl with ⟨c, m, x, k1⟩ | ⟨c, m, x, k1, k2⟩ | ⟨c, m, x, k1, k2⟩ | ⟨c, m, x, k1⟩ | ⟨c, m, x, k1, k2⟩
  all_goals (rw [x])
  all_goals (try omega)
  simp only [Ie.ex]
  omega

set_option maxRecDepth 100000 in
set_option maxHeartbeats 2000000 in
theorem nearA_far (d n : Int) (w : World) (hT : Tab w) (h0 : 0 ≤ d) (h1 : d < 18446744073709551616) (hn : n < -1024 ∨ 1024 < n) :
    Calls Tryd.prog 4 #[.int .u64 d, .int .i64 n] w fun e w' => e = .returned (.bool true) ∧ Below w.heap.size w w' := by
  have AWK := hid (hawake_any w hT)
  have PW := hid (fun (wx : World) (hx : Tab wx) => power6_any d n wx hx h0 h1)
  have HT := hid hT
  clear hT h0 h1
  rcases (show 1024 < n ∨ (¬ 1024 < n ∧ n < -1024) by omega) with g | ⟨g, g'⟩
  · go_enter Tryd.func4, Tryd.ntmps4
    go_wp2_with fail
    refine AWK.out.mono ?_
    rintro e w1 ⟨rfl, hB⟩
    have HB1 := hid hB
    have P1 := hid (PW.out w1 (HT.out.below hB))
    clear hB AWK PW
    go_wp2_with fail
    refine P1.out.mono ?_
    rintro e w2 ⟨r, f, rfl, hP, hB⟩
    have HB2 := hid (HB1.out.trans (hB.mono HB1.out.size))
    obtain ⟨rfl, rfl⟩ := hP.1 hn
    clear hB hP hn P1
    go_wp2_with fail
    go_ret
    exact ⟨rfl, HB2.out⟩
  · go_enter Tryd.func4, Tryd.ntmps4
    go_wp2_with fail
    refine AWK.out.mono ?_
    rintro e w1 ⟨rfl, hB⟩
    have HB1 := hid hB
    have P1 := hid (PW.out w1 (HT.out.below hB))
    clear hB AWK PW
    go_wp2_with fail
    refine P1.out.mono ?_
    rintro e w2 ⟨r, f, rfl, hP, hB⟩
    have HB2 := hid (HB1.out.trans (hB.mono HB1.out.size))
    obtain ⟨rfl, rfl⟩ := hP.1 hn
    clear hB hP hn P1
    go_wp2_with fail
    go_ret
    exact ⟨rfl, HB2.out⟩

set_option maxRecDepth 100000 in
set_option maxHeartbeats 4000000 in
theorem nearA_kind (d n : Int) (w : World) (hT : Tab w) (h0 : 0 ≤ d) (h1 : d < 18446744073709551616) (n1 : -1024 ≤ n) (n2 : n ≤ 1024) (hk : n = 0 ∨ (n ≠ 0 ∧ (Ie.cls d = 0 ∨ Ie.cls d = 3 ∨ Ie.cls d = 4))) :
    Calls Tryd.prog 4 #[.int .u64 d, .int .i64 n] w fun e w' => e = .returned (.bool true) ∧ Below w.heap.size w w' := by
  have AWK := hid (hawake_any w hT)
  have PW := hid (fun (wx : World) (hx : Tab wx) => power6_any d n wx hx h0 h1)
  have D := hid (fun (wx : World) => decode_any d wx h0 h1)
  have HT := hid hT
  have g1 : ¬ n > 1024 := by omega
  have g2 : ¬ n < -1024 := by omega
  clear hT h0 h1
  simp only [partsOf] at D
  generalize decide (9223372036854775808 ≤ d) = neg at *
  generalize Ie.dm d = m at *
  generalize Ie.de d = x at *
  rcases hk with z | ⟨z, c | c | c⟩
  · subst z
    generalize Ie.cls d = c at *
    go_enter Tryd.func4, Tryd.ntmps4
    go_wp2_with fail
    refine AWK.out.mono ?_
    rintro e w1 ⟨rfl, hB⟩
    have HB1 := hid hB
    have P1 := hid (PW.out w1 (HT.out.below hB))
    clear hB AWK PW
    go_wp2_with fail
    refine P1.out.mono ?_
    rintro e w2 ⟨r, f, rfl, hP, hB⟩
    have HB2 := hid (HB1.out.trans (hB.mono HB1.out.size))
    obtain ⟨rfl, -, -⟩ := hP.2 n1 n2
    clear hB hP P1 HB1
    go_wp2_with fail
    refine (D.out _).mono ?_
    rintro e w3 ⟨rfl, hB⟩
    have hb := HB2.out.trans (hB.mono HB2.out.size)
    have HB3 := hid (hb.trans ((alloc_b w3 (.cells #[.bool neg, .int .i64 c, .int .u64 m, .int .i64 x] 34)).mono hb.size))
    have Q := Row4.new w3 34 (.bool neg) (.int .i64 c) (.int .u64 m) (.int .i64 x)
    go_upto_region 8 with fail
    obtain ⟨⟨-, p1, -, -⟩, -⟩ := Q.cells
    clear hB hb Q D
    generalize w3.alloc (.cells #[.bool neg, .int .i64 c, .int .u64 m, .int .i64 x] 34) = wA at *
    go_wp2_with fail
    go_ret
    exact ⟨rfl, HB3.out⟩
  · rw [c] at D
    have z' : (n == 0) = false := by rw [beq_eq_false_iff_ne]; exact z
    clear z c
    go_enter Tryd.func4, Tryd.ntmps4
    go_wp2_with fail
    refine AWK.out.mono ?_
    rintro e w1 ⟨rfl, hB⟩
    have HB1 := hid hB
    have P1 := hid (PW.out w1 (HT.out.below hB))
    clear hB AWK PW
    go_wp2_with fail
    refine P1.out.mono ?_
    rintro e w2 ⟨r, f, rfl, hP, hB⟩
    have HB2 := hid (HB1.out.trans (hB.mono HB1.out.size))
    obtain ⟨rfl, -, -⟩ := hP.2 n1 n2
    clear hB hP P1 HB1
    go_wp2_with fail
    refine (D.out _).mono ?_
    rintro e w3 ⟨rfl, hB⟩
    have hb := HB2.out.trans (hB.mono HB2.out.size)
    have HB3 := hid (hb.trans ((alloc_b w3 (.cells #[.bool neg, .int .i64 0, .int .u64 m, .int .i64 x] 34)).mono hb.size))
    have Q := Row4.new w3 34 (.bool neg) (.int .i64 0) (.int .u64 m) (.int .i64 x)
    go_upto_region 8 with fail
    obtain ⟨⟨-, p1, -, -⟩, -⟩ := Q.cells
    clear hB hb Q D
    generalize w3.alloc (.cells #[.bool neg, .int .i64 0, .int .u64 m, .int .i64 x] 34) = wA at *
    go_wp2_with fail
    go_ret
    exact ⟨rfl, HB3.out⟩
  · rw [c] at D
    have z' : (n == 0) = false := by rw [beq_eq_false_iff_ne]; exact z
    clear z c
    go_enter Tryd.func4, Tryd.ntmps4
    go_wp2_with fail
    refine AWK.out.mono ?_
    rintro e w1 ⟨rfl, hB⟩
    have HB1 := hid hB
    have P1 := hid (PW.out w1 (HT.out.below hB))
    clear hB AWK PW
    go_wp2_with fail
    refine P1.out.mono ?_
    rintro e w2 ⟨r, f, rfl, hP, hB⟩
    have HB2 := hid (HB1.out.trans (hB.mono HB1.out.size))
    obtain ⟨rfl, -, -⟩ := hP.2 n1 n2
    clear hB hP P1 HB1
    go_wp2_with fail
    refine (D.out _).mono ?_
    rintro e w3 ⟨rfl, hB⟩
    have hb := HB2.out.trans (hB.mono HB2.out.size)
    have HB3 := hid (hb.trans ((alloc_b w3 (.cells #[.bool neg, .int .i64 3, .int .u64 m, .int .i64 x] 34)).mono hb.size))
    have Q := Row4.new w3 34 (.bool neg) (.int .i64 3) (.int .u64 m) (.int .i64 x)
    go_upto_region 8 with fail
    obtain ⟨⟨-, p1, -, -⟩, -⟩ := Q.cells
    clear hB hb Q D
    generalize w3.alloc (.cells #[.bool neg, .int .i64 3, .int .u64 m, .int .i64 x] 34) = wA at *
    go_wp2_with fail
    go_ret
    exact ⟨rfl, HB3.out⟩
  · rw [c] at D
    have z' : (n == 0) = false := by rw [beq_eq_false_iff_ne]; exact z
    clear z c
    go_enter Tryd.func4, Tryd.ntmps4
    go_wp2_with fail
    refine AWK.out.mono ?_
    rintro e w1 ⟨rfl, hB⟩
    have HB1 := hid hB
    have P1 := hid (PW.out w1 (HT.out.below hB))
    clear hB AWK PW
    go_wp2_with fail
    refine P1.out.mono ?_
    rintro e w2 ⟨r, f, rfl, hP, hB⟩
    have HB2 := hid (HB1.out.trans (hB.mono HB1.out.size))
    obtain ⟨rfl, -, -⟩ := hP.2 n1 n2
    clear hB hP P1 HB1
    go_wp2_with fail
    refine (D.out _).mono ?_
    rintro e w3 ⟨rfl, hB⟩
    have hb := HB2.out.trans (hB.mono HB2.out.size)
    have HB3 := hid (hb.trans ((alloc_b w3 (.cells #[.bool neg, .int .i64 4, .int .u64 m, .int .i64 x] 34)).mono hb.size))
    have Q := Row4.new w3 34 (.bool neg) (.int .i64 4) (.int .u64 m) (.int .i64 x)
    go_upto_region 8 with fail
    obtain ⟨⟨-, p1, -, -⟩, -⟩ := Q.cells
    clear hB hb Q D
    generalize w3.alloc (.cells #[.bool neg, .int .i64 4, .int .u64 m, .int .i64 x] 34) = wA at *
    go_wp2_with fail
    go_ret
    exact ⟨rfl, HB3.out⟩
end Go.Proofs.YtnfomlkhkggjeabDoor

/-
  RemainNearest, one sign (made by mkhlaw.py).
-/
namespace Go.Proofs.YtnfomlkhkggjeabDoor
open Go Go.RowKit Go.Deep

set_option maxRecDepth 100000 in
set_option maxHeartbeats 8000000 in
theorem near_P (d n : Int) (k : Nat) (w : World) (hT : Tab w) (h0 : 0 ≤ d) (h1 : d < 18446744073709551616) (n1 : -1024 ≤ n) (n2 : n ≤ 1024) (n0 : n ≠ 0) (hc : Ie.cls d = 1 ∨ Ie.cls d = 2) (hk : max n (-n) = (k : Int)) (hs : Ie.ngd d = false) :
    Calls Tryd.prog 4 #[.int .u64 d, .int .i64 n] w fun e w' => e = .returned (.bool true) ∧ Below w.heap.size w w' := by
  have AWK := hid (hawake_any w hT)
  have PW := hid (fun (wx : World) (hx : Tab wx) => power6_any d n wx hx h0 h1)
  have D := hid (fun (wx : World) => decode_any d wx h0 h1)
  rw [← Ie.ngd, hs] at D
  have HT := hid hT
  have hf : Ie.fin d ∧ Ie.ab d ≠ 0 := by
    rcases Ie.dec_kinds d _ rfl with ⟨c, m, x, k1⟩ | ⟨c, m, x, k1, k2⟩ | ⟨c, m, x, k1, k2⟩ | ⟨c, m, x, k1⟩ | ⟨c, m, x, k1, k2⟩ <;> simp only [Ie.fin, Ie.ab] <;> omega
  obtain ⟨hf, hz⟩ := hf
  obtain ⟨⟨m0, m1⟩, ⟨e0, e1⟩, -, m2⟩ := Ie.dec_f d hf
  have mp : 0 < Ie.dm d := by have := fun g => hz (m2.1 g); omega
  have c1 : (Ie.cls d == 0) = false := by rw [beq_eq_false_iff_ne]; omega
  have c2 : ¬ Ie.cls d ≥ 3 := by omega
  have z' : (n == 0) = false := by rw [beq_eq_false_iff_ne]; exact n0
  have k1 : k ≤ 1024 := by omega
  -- what Power tells
  have PI : Hid (∀ r f : Int, Ie.PwrIs d n r f → f = 0 ∧ ∃ y, r = y ∧ Ie.PowIs (Ie.dm d) (Ie.de d) n y ∧ 0 ≤ y ∧ y ≤ 9218868437227405312) := by
    intro r f hP
    obtain ⟨q0, -, q1⟩ := hP.2 n1 n2
    obtain ⟨y, hr, hy⟩ := (q1 n0).2 (Ie.fin_kinds hf).1
    refine ⟨q0, y, ?_, hy.2.2.1 hf hz, hy.2.2.2.1, hy.2.2.2.2⟩
    rw [hr, hs]
    rfl
  have FX := hid (fun (t : Nat) (o E y : Int) (hm : Ie.dm d = o * 2 ^ t) (o0 : 0 < o) (o1 : o < 9007199254740992) (hE : (Ie.de d + (t : Int)) * (k : Int) = E) (h : Ie.PowIs (Ie.dm d) (Ie.de d) n y) => Ie.pow_facts (o := o) (t := t) hm o0 o1 k1 hk hE h)
  have OD := hid (fun (t : Nat) (j : Int) (h : Ie.dm d = 2 ^ t * (2 * j + 1)) => Ie.odd_part h mp m1)
  have EB := hid (fun (t : Nat) (ht : t ≤ 63) => Ie.exp_bd (n := (k : Int)) e0 e1 ht (by omega) (by omega))
  have TR : Hid (∀ wx : World, Below w.heap.size w wx → Calls Tryd.prog 14 #[.slice (some ⟨wx.heap.size, 0, none⟩) 1 1] (wx.alloc (.cells #[.int .u64 (Ie.dm d)] 22)) fun e w' => ∃ (t : Nat) (o : Int), e = .returned (.int .i64 (t : Int)) ∧ w' = wx.alloc (.cells #[.int .u64 (Ie.dm d)] 22) ∧ Hid (t ≤ 63 ∧ Ie.dm d = o * 2 ^ t ∧ 0 < o ∧ o < 9007199254740992 ∧ Ie.dm d / 2 ^ t = o)) := by
    intro wx hx
    have hb := hx.trans ((alloc_b wx (.cells #[.int .u64 (Ie.dm d)] 22)).mono hx.size)
    have A := ans_lit (B := 0) (heap_alloc_new wx (.cells #[.int .u64 (Ie.dm d)] 22)) mp (by omega) (by omega)
    refine (trail_any _ 1 1 [Ie.dm d] _ (A.arg (by simp)) (HT.out.below hb)).mono ?_
    rintro e w' ⟨t, rfl, hTr, rfl⟩
    rw [A.2.2.2.1] at hTr
    rcases hTr with h | ⟨j, h⟩
    · omega
    · obtain ⟨o, q1, q2, q3, q4⟩ := Ie.odd_part h mp m1
      have ht : t ≤ 63 := by
        rcases Nat.lt_or_ge 63 t with g | g
        · exfalso
          have g1 := Nm.two_mono (show 53 ≤ t by omega)
          have e53 : (2 : Int) ^ 53 = 9007199254740992 := by decide
          have : 1 * 2 ^ t ≤ o * 2 ^ t := Int.mul_le_mul_of_nonneg_right (by omega) (by omega)
          omega
        · exact g
      exact ⟨t, o, rfl, rfl, ht, q1, q2, q3, q4⟩
  have SR : Hid (∀ (wx : World) (t : Nat) (o : Int), Below w.heap.size w wx → Ie.dm d / 2 ^ t = o → Calls Tryd.prog 15 #[.slice (some ⟨wx.heap.size, 0, none⟩) 1 1, .int .i64 (t : Int)] (wx.alloc (.cells #[.int .u64 (Ie.dm d)] 22)) fun e w' => ∃ r os b, e = .returned (.tuple #[.slice r (List.length os) (List.length os), .bool b, .int .i64 0]) ∧ Ans w.heap.size w' r os o ∧ Below wx.heap.size wx w') := by
    intro wx t o hx ho
    have ha := alloc_b wx (.cells #[.int .u64 (Ie.dm d)] 22)
    have hb := hx.trans (ha.mono hx.size)
    have A := ans_lit (B := 0) (heap_alloc_new wx (.cells #[.int .u64 (Ie.dm d)] 22)) mp (by omega) (by omega)
    refine (shr_any _ 1 1 [Ie.dm d] (t : Int) t _ (A.arg (by simp)) (HT.out.below hb) (by rw [A.2.2.1]; simp) rfl).mono ?_
    rintro e w' ⟨r, os, rfl, A', hB⟩
    rw [A.2.2.2.1, ho] at A'
    exact ⟨r, os, _, rfl, A'.upB hb.size, ha.trans (hB.mono ha.size)⟩
  have PO : Hid (∀ (wx : World) (o : Int) (p : Option Addr) (os : List Int) (B : Nat), 0 < o → o < 9007199254740992 → Ans B wx p os o → Calls Tryd.prog 16 #[.slice p os.length os.length, .int .i64 (k : Int)] wx fun e w' => ∃ r os, e = .returned (.tuple #[.slice r (List.length os) (List.length os), .int .i64 0]) ∧ Ans wx.heap.size w' r os (o ^ k) ∧ Below wx.heap.size wx w') := by
    intro wx o p os B o0 o1 A
    have l1 := A.lim1 (by omega)
    refine (pow_gives p _ _ os o (k : Int) k wx (A.arg (by omega)) (by rw [A.2.2.1]; omega) A.2.2.2.1 rfl (by omega)).mono ?_
    rintro e w' ⟨h | h, hB⟩
    · obtain ⟨_, r, os, rfl, A'⟩ := h
      exact ⟨r, os, rfl, A', hB⟩
    · exfalso
      have g := (Ie.pow_bd o0 o1 k1).2
      have g1 := Ie.pw_54272
      have g2 := Nm.pw_mono (show 4095 ≤ 4096 by omega)
      have := h.1
      omega
  have KPx : Hid (∀ o : Int, 0 < o → o < 9007199254740992 → ∃ K : Nat, K ≤ 54272 ∧ 0 < o ^ k ∧ o ^ k ≤ 2 ^ K) := fun o o0 o1 => ⟨53 * k, by omega, Ie.pow_pos' o0 k, Ie.pow_le' o0 o1 k⟩
  have ns : 0 < n ∨ n < 0 := by omega
  have g1 : ¬ n > 1024 := by omega
  have g2 : ¬ n < -1024 := by omega
  have kb : (k : Int) ≤ 1024 := by omega
  clear hT h0 h1 hf hz m0 m1 m2 mp e1 k1 hc n0 n1 n2 hs
  simp only [partsOf] at D
  generalize Ie.dm d = m at *
  obtain ⟨x, hx⟩ : ∃ x, Ie.de d = x := ⟨_, rfl⟩
  rw [hx] at D PI FX EB e0
  have xb : x ≤ 971 := by rw [← hx]; exact (Ie.de_le d)
  clear hx
  generalize Ie.cls d = c at *
  go_enter Tryd.func4, Tryd.ntmps4
  go_wp2_with fail
  refine AWK.out.mono ?_
  rintro e w1 ⟨rfl, hB⟩
  have HB1 := hid hB
  have P1 := hid (PW.out w1 (HT.out.below hB))
  clear hB AWK PW
  go_wp2_with fail
  refine P1.out.mono ?_
  rintro e w2 ⟨r, f, rfl, hP, hB⟩
  have HB2 := hid (HB1.out.trans (hB.mono HB1.out.size))
  obtain ⟨rfl, y, hr, hy, y0, y1⟩ := PI.out r f hP
  replace hr := hr.symm
  subst hr
  have rg : ¬ y ≥ 9223372036854775808 := by omega
  have rm : y % 9223372036854775808 = y := by omega
  have HY := hid hy
  clear hB hP P1 HB1 PI hy
  go_wp2_with fail
  refine (D.out _).mono ?_
  rintro e w3 ⟨rfl, hB⟩
  have hb := HB2.out.trans (hB.mono HB2.out.size)
  have hb2 := hb.trans ((alloc_b w3 (.cells #[.bool false, .int .i64 c, .int .u64 m, .int .i64 x] 34)).mono hb.size)
  have Q := Row4.new w3 34 (.bool false) (.int .i64 c) (.int .u64 m) (.int .i64 x)
  go_upto_region 8 with fail
  obtain ⟨SS, KS, CS, BS, MS⟩ := state (fun w' => w'.cell? ⟨w3.heap.size, 0, none⟩ = some (.bool false) ∧ w'.cell? ⟨w3.heap.size, 1, none⟩ = some (.int .i64 c) ∧ w'.cell? ⟨w3.heap.size, 2, none⟩ = some (.int .u64 m) ∧ w'.cell? ⟨w3.heap.size, 3, none⟩ = some (.int .i64 x)) w ((Stays.cell _ _).and ((Stays.cell _ _).and ((Stays.cell _ _).and (Stays.cell _ _))))
  have S0 := hid (MS.out _ Q.cells.1 hb2)
  clear hB hb hb2 Q D MS HB2
  generalize w3.alloc (.cells #[.bool false, .int .i64 c, .int .u64 m, .int .i64 x] 34) = wA at *
  generalize w3.heap.size = b at *
  obtain ⟨p0, p1, p2, p3⟩ := CS.out _ S0.out
  go_wp2_with fail
  have T1 := hid (TR.out wA (BS.out _ S0.out))
  refine T1.out.mono ?_
  rintro e wz ⟨t, o, rfl, hz, hto⟩
  replace hz := hz.symm
  subst hz
  obtain ⟨ht, hm, o0, o1, ho⟩ := hto.out
  obtain ⟨E, hE⟩ : ∃ E, (x + (t : Int)) * (k : Int) = E := ⟨_, rfl⟩
  have PF := hid (FX.out t o E y hm o0 o1 hE HY.out)
  have eb := EB.out t ht
  rw [hE] at eb
  obtain ⟨eb1, eb2⟩ := eb
  have tb : (t : Int) ≤ 63 := by omega
  obtain ⟨K, hKP⟩ := KPx.out o o0 o1
  have KP := hid hKP
  have S1 := hid (KS.out _ _ S0.out (alloc_b wA (.cells #[.int .u64 m] 22)))
  have OO := hid (And.intro ho (And.intro o0 o1))
  clear hto hm ho o0 o1 HY FX EB KPx hKP T1 TR OD S0 p0 p1 p2 p3 ht
  generalize wA.alloc (.cells #[.int .u64 m] 22) = wB at *
  obtain ⟨p0, p1, p2, p3⟩ := CS.out _ S1.out
  have R1 := hid (SR.out wB t o (BS.out _ S1.out) OO.out.1)
  clear SR
  go_wp2_with fail
  refine R1.out.mono ?_
  rintro e w5 ⟨p5, o5, b5, rfl, A, hB⟩
  have S2 := hid (KS.out _ _ S1.out hB)
  have PO1 := hid (PO.out w5 o p5 o5 _ OO.out.2.1 OO.out.2.2 A)
  clear A hB R1 S1 p0 p1 p2 p3 PO OO
  go_wp2_with fail
  refine PO1.out.mono ?_
  rintro e w6 ⟨p6, o6, rfl, A, hB⟩
  have S3 := hid (KS.out _ _ S2.out hB)
  have HN0 := hid A
  clear A hB PO1 S2
  obtain ⟨p0, p1, p2, p3⟩ := CS.out _ S3.out
  go_upto_region 19 with fail
  have hb := alloc_b w6 (.cells #[.int .u64 1] 22)
  have HE := hid (ans_lit (B := 0) (heap_alloc_new w6 (.cells #[.int .u64 1] 22)) (by omega) (by omega) (by omega))
  have HN := hid (HN0.out.below hb (Nat.le_refl _))
  have HD := hid ((BS.out _ S3.out).trans (hb.mono (BS.out _ S3.out).size))
  clear hb HN0 S3 p0 p1 p2 p3 KS CS BS hk hE
  generalize w6.alloc (.cells #[.int .u64 1] 22) = wD at *
  rcases (show 100000 < E ∨ (¬ 100000 < E ∧ E < -100000) ∨ (0 ≤ E ∧ E ≤ 100000) ∨ (E < 0 ∧ -100000 ≤ E) by omega) with g | ⟨g', g⟩ | ⟨g, g'⟩ | ⟨g, g'⟩
  · have E0 : 0 < E := by omega
    rcases ns with ns | ns
    · have FY := hid (PF.out.far1 ns g)
      go_wp2_with fail
      go_ret
      exact ⟨by simp [FY.out], HD.out⟩
    · have FY := hid (PF.out.far3 ns g)
      have ns' : ¬ 0 < n := by omega
      go_wp2_with fail
      go_ret
      exact ⟨by simp [FY.out], HD.out⟩
  · have E0 : ¬ 0 < E := by omega
    rcases ns with ns | ns
    · have FY := hid (PF.out.far2 ns g)
      go_wp2_with fail
      go_ret
      exact ⟨by simp [FY.out], HD.out⟩
    · have FY := hid (PF.out.far4 ns g)
      have ns' : ¬ 0 < n := by omega
      go_wp2_with fail
      go_ret
      exact ⟨by simp [FY.out], HD.out⟩
  · obtain ⟨s, hs⟩ : ∃ s : Nat, E = (s : Int) := ⟨E.toNat, by omega⟩
    obtain ⟨J, hJ, j1, j2, j3, j4⟩ := Ie.pow_sh (s := s) KP.out.2.2 KP.out.1 (by omega)
    have SH := hid (a_shl s HN.out (pw_room (by omega) j1))
    have JJ := hid (And.intro hJ (And.intro j1 (And.intro j2 (And.intro j3 j4))))
    have s0 : ¬ (s : Int) < 0 := by omega
    have s1 : ¬ (s : Int) > 100000 := by omega
    have s2 : ¬ (s : Int) < -100000 := by omega
    subst hs
    clear g g' hJ j1 j2 j3 j4
    go_wp2_with fail
    refine SH.out.mono ?_
    rintro e w9 ⟨p9, o9, rfl, A, hB⟩
    have HB9 := hid (HD.out.trans (hB.mono HD.out.size))
    have HN9 := hid A
    have HE9 := hid (HE.out.below hB (Nat.le_refl _))
    clear A hB SH HN HE HD
    rcases ns with ns | ns
    · have NR := hid (nearest6_any (N := o ^ k * 2 ^ s) (D := 1) y HN9.out HE9.out J JJ.out.1 JJ.out.2.1 JJ.out.2.2.2.2 (PF.out.near1 ns s rfl))
      have ns' : ¬ n < 0 := by omega
      go_wp2_with fail
      refine NR.out.mono ?_
      rintro e w10 ⟨rfl, hB⟩
      have HB10 := hid (HB9.out.trans (hB.mono HB9.out.size))
      clear hB NR
      go_wp2_with fail
      go_ret
      exact ⟨rfl, HB10.out⟩
    · have NR := hid (nearest6_any (N := 1) (D := o ^ k * 2 ^ s) y HE9.out HN9.out J JJ.out.1 JJ.out.2.2.2.2 JJ.out.2.1 (PF.out.near3 ns s rfl))
      go_wp2_with fail
      refine NR.out.mono ?_
      rintro e w10 ⟨rfl, hB⟩
      have HB10 := hid (HB9.out.trans (hB.mono HB9.out.size))
      clear hB NR
      go_wp2_with fail
      go_ret
      exact ⟨rfl, HB10.out⟩
  · obtain ⟨s, hs⟩ : ∃ s : Nat, E = -(s : Int) := ⟨(-E).toNat, by omega⟩
    obtain ⟨J, hJ, j1, j2, j3, j4⟩ := Ie.pow_sh (s := s) KP.out.2.2 KP.out.1 (by omega)
    have SH := hid (a_shl s HE.out (pw_room (by omega) j3))
    have JJ := hid (And.intro hJ (And.intro j1 (And.intro j2 (And.intro j3 j4))))
    have s0 : -(s : Int) < 0 := by omega
    have s1 : ¬ -(s : Int) > 100000 := by omega
    have s2 : ¬ -(s : Int) < -100000 := by omega
    have WS : IntKind.i64.wrap (s : Int) = (s : Int) := by rw [IntKind.wrap_i64]; omega
    subst hs
    clear g g' hJ j1 j2 j3 j4
    go_wp2_with fail
    refine SH.out.mono ?_
    rintro e w9 ⟨p9, o9, rfl, A, hB⟩
    have HB9 := hid (HD.out.trans (hB.mono HD.out.size))
    have HE9 := hid A
    have HN9 := hid (HN.out.below hB (Nat.le_refl _))
    clear A hB SH HN HE HD
    rcases ns with ns | ns
    · have NR := hid (nearest6_any (N := o ^ k) (D := 1 * 2 ^ s) y HN9.out HE9.out J JJ.out.1 JJ.out.2.2.1 JJ.out.2.2.2.1 (PF.out.near2 ns s (by omega)))
      have ns' : ¬ n < 0 := by omega
      go_wp2_with fail
      refine NR.out.mono ?_
      rintro e w10 ⟨rfl, hB⟩
      have HB10 := hid (HB9.out.trans (hB.mono HB9.out.size))
      clear hB NR
      go_wp2_with fail
      go_ret
      exact ⟨rfl, HB10.out⟩
    · have NR := hid (nearest6_any (N := 1 * 2 ^ s) (D := o ^ k) y HE9.out HN9.out J JJ.out.1 JJ.out.2.2.2.1 JJ.out.2.2.1 (PF.out.near4 ns s (by omega)))
      go_wp2_with fail
      refine NR.out.mono ?_
      rintro e w10 ⟨rfl, hB⟩
      have HB10 := hid (HB9.out.trans (hB.mono HB9.out.size))
      clear hB NR
      go_wp2_with fail
      go_ret
      exact ⟨rfl, HB10.out⟩
end Go.Proofs.YtnfomlkhkggjeabDoor

/-
  RemainNearest, one sign (made by mkhlaw.py).
-/
namespace Go.Proofs.YtnfomlkhkggjeabDoor
open Go Go.RowKit Go.Deep

set_option maxRecDepth 100000 in
set_option maxHeartbeats 8000000 in
theorem near_E (d n : Int) (k : Nat) (w : World) (hT : Tab w) (h0 : 0 ≤ d) (h1 : d < 18446744073709551616) (n1 : -1024 ≤ n) (n2 : n ≤ 1024) (n0 : n ≠ 0) (hc : Ie.cls d = 1 ∨ Ie.cls d = 2) (hk : max n (-n) = (k : Int)) (hs : Ie.ngd d = true) (hp : n % 2 = 0) :
    Calls Tryd.prog 4 #[.int .u64 d, .int .i64 n] w fun e w' => e = .returned (.bool true) ∧ Below w.heap.size w w' := by
  have AWK := hid (hawake_any w hT)
  have PW := hid (fun (wx : World) (hx : Tab wx) => power6_any d n wx hx h0 h1)
  have D := hid (fun (wx : World) => decode_any d wx h0 h1)
  rw [← Ie.ngd, hs] at D
  have HT := hid hT
  have hf : Ie.fin d ∧ Ie.ab d ≠ 0 := by
    rcases Ie.dec_kinds d _ rfl with ⟨c, m, x, k1⟩ | ⟨c, m, x, k1, k2⟩ | ⟨c, m, x, k1, k2⟩ | ⟨c, m, x, k1⟩ | ⟨c, m, x, k1, k2⟩ <;> simp only [Ie.fin, Ie.ab] <;> omega
  obtain ⟨hf, hz⟩ := hf
  obtain ⟨⟨m0, m1⟩, ⟨e0, e1⟩, -, m2⟩ := Ie.dec_f d hf
  have mp : 0 < Ie.dm d := by have := fun g => hz (m2.1 g); omega
  have c1 : (Ie.cls d == 0) = false := by rw [beq_eq_false_iff_ne]; omega
  have c2 : ¬ Ie.cls d ≥ 3 := by omega
  have z' : (n == 0) = false := by rw [beq_eq_false_iff_ne]; exact n0
  have k1 : k ≤ 1024 := by omega
  -- what Power tells
  have PI : Hid (∀ r f : Int, Ie.PwrIs d n r f → f = 0 ∧ ∃ y, r = y ∧ Ie.PowIs (Ie.dm d) (Ie.de d) n y ∧ 0 ≤ y ∧ y ≤ 9218868437227405312) := by
    intro r f hP
    obtain ⟨q0, -, q1⟩ := hP.2 n1 n2
    obtain ⟨y, hr, hy⟩ := (q1 n0).2 (Ie.fin_kinds hf).1
    refine ⟨q0, y, ?_, hy.2.2.1 hf hz, hy.2.2.2.1, hy.2.2.2.2⟩
    rw [hr, hs]
    rw [hp]; rfl
  have FX := hid (fun (t : Nat) (o E y : Int) (hm : Ie.dm d = o * 2 ^ t) (o0 : 0 < o) (o1 : o < 9007199254740992) (hE : (Ie.de d + (t : Int)) * (k : Int) = E) (h : Ie.PowIs (Ie.dm d) (Ie.de d) n y) => Ie.pow_facts (o := o) (t := t) hm o0 o1 k1 hk hE h)
  have OD := hid (fun (t : Nat) (j : Int) (h : Ie.dm d = 2 ^ t * (2 * j + 1)) => Ie.odd_part h mp m1)
  have EB := hid (fun (t : Nat) (ht : t ≤ 63) => Ie.exp_bd (n := (k : Int)) e0 e1 ht (by omega) (by omega))
  have TR : Hid (∀ wx : World, Below w.heap.size w wx → Calls Tryd.prog 14 #[.slice (some ⟨wx.heap.size, 0, none⟩) 1 1] (wx.alloc (.cells #[.int .u64 (Ie.dm d)] 22)) fun e w' => ∃ (t : Nat) (o : Int), e = .returned (.int .i64 (t : Int)) ∧ w' = wx.alloc (.cells #[.int .u64 (Ie.dm d)] 22) ∧ Hid (t ≤ 63 ∧ Ie.dm d = o * 2 ^ t ∧ 0 < o ∧ o < 9007199254740992 ∧ Ie.dm d / 2 ^ t = o)) := by
    intro wx hx
    have hb := hx.trans ((alloc_b wx (.cells #[.int .u64 (Ie.dm d)] 22)).mono hx.size)
    have A := ans_lit (B := 0) (heap_alloc_new wx (.cells #[.int .u64 (Ie.dm d)] 22)) mp (by omega) (by omega)
    refine (trail_any _ 1 1 [Ie.dm d] _ (A.arg (by simp)) (HT.out.below hb)).mono ?_
    rintro e w' ⟨t, rfl, hTr, rfl⟩
    rw [A.2.2.2.1] at hTr
    rcases hTr with h | ⟨j, h⟩
    · omega
    · obtain ⟨o, q1, q2, q3, q4⟩ := Ie.odd_part h mp m1
      have ht : t ≤ 63 := by
        rcases Nat.lt_or_ge 63 t with g | g
        · exfalso
          have g1 := Nm.two_mono (show 53 ≤ t by omega)
          have e53 : (2 : Int) ^ 53 = 9007199254740992 := by decide
          have : 1 * 2 ^ t ≤ o * 2 ^ t := Int.mul_le_mul_of_nonneg_right (by omega) (by omega)
          omega
        · exact g
      exact ⟨t, o, rfl, rfl, ht, q1, q2, q3, q4⟩
  have SR : Hid (∀ (wx : World) (t : Nat) (o : Int), Below w.heap.size w wx → Ie.dm d / 2 ^ t = o → Calls Tryd.prog 15 #[.slice (some ⟨wx.heap.size, 0, none⟩) 1 1, .int .i64 (t : Int)] (wx.alloc (.cells #[.int .u64 (Ie.dm d)] 22)) fun e w' => ∃ r os b, e = .returned (.tuple #[.slice r (List.length os) (List.length os), .bool b, .int .i64 0]) ∧ Ans w.heap.size w' r os o ∧ Below wx.heap.size wx w') := by
    intro wx t o hx ho
    have ha := alloc_b wx (.cells #[.int .u64 (Ie.dm d)] 22)
    have hb := hx.trans (ha.mono hx.size)
    have A := ans_lit (B := 0) (heap_alloc_new wx (.cells #[.int .u64 (Ie.dm d)] 22)) mp (by omega) (by omega)
    refine (shr_any _ 1 1 [Ie.dm d] (t : Int) t _ (A.arg (by simp)) (HT.out.below hb) (by rw [A.2.2.1]; simp) rfl).mono ?_
    rintro e w' ⟨r, os, rfl, A', hB⟩
    rw [A.2.2.2.1, ho] at A'
    exact ⟨r, os, _, rfl, A'.upB hb.size, ha.trans (hB.mono ha.size)⟩
  have PO : Hid (∀ (wx : World) (o : Int) (p : Option Addr) (os : List Int) (B : Nat), 0 < o → o < 9007199254740992 → Ans B wx p os o → Calls Tryd.prog 16 #[.slice p os.length os.length, .int .i64 (k : Int)] wx fun e w' => ∃ r os, e = .returned (.tuple #[.slice r (List.length os) (List.length os), .int .i64 0]) ∧ Ans wx.heap.size w' r os (o ^ k) ∧ Below wx.heap.size wx w') := by
    intro wx o p os B o0 o1 A
    have l1 := A.lim1 (by omega)
    refine (pow_gives p _ _ os o (k : Int) k wx (A.arg (by omega)) (by rw [A.2.2.1]; omega) A.2.2.2.1 rfl (by omega)).mono ?_
    rintro e w' ⟨h | h, hB⟩
    · obtain ⟨_, r, os, rfl, A'⟩ := h
      exact ⟨r, os, rfl, A', hB⟩
    · exfalso
      have g := (Ie.pow_bd o0 o1 k1).2
      have g1 := Ie.pw_54272
      have g2 := Nm.pw_mono (show 4095 ≤ 4096 by omega)
      have := h.1
      omega
  have KPx : Hid (∀ o : Int, 0 < o → o < 9007199254740992 → ∃ K : Nat, K ≤ 54272 ∧ 0 < o ^ k ∧ o ^ k ≤ 2 ^ K) := fun o o0 o1 => ⟨53 * k, by omega, Ie.pow_pos' o0 k, Ie.pow_le' o0 o1 k⟩
  have ns : 0 < n ∨ n < 0 := by omega
  have g1 : ¬ n > 1024 := by omega
  have g2 : ¬ n < -1024 := by omega
  have kb : (k : Int) ≤ 1024 := by omega
  have p' : Int.tmod n 2 = 0 := (tmod2 n).1 hp
  clear hT h0 h1 hf hz m0 m1 m2 mp e1 k1 hc n0 n1 n2 hs hp
  simp only [partsOf] at D
  generalize Ie.dm d = m at *
  obtain ⟨x, hx⟩ : ∃ x, Ie.de d = x := ⟨_, rfl⟩
  rw [hx] at D PI FX EB e0
  have xb : x ≤ 971 := by rw [← hx]; exact (Ie.de_le d)
  clear hx
  generalize Ie.cls d = c at *
  go_enter Tryd.func4, Tryd.ntmps4
  go_wp2_with fail
  refine AWK.out.mono ?_
  rintro e w1 ⟨rfl, hB⟩
  have HB1 := hid hB
  have P1 := hid (PW.out w1 (HT.out.below hB))
  clear hB AWK PW
  go_wp2_with fail
  refine P1.out.mono ?_
  rintro e w2 ⟨r, f, rfl, hP, hB⟩
  have HB2 := hid (HB1.out.trans (hB.mono HB1.out.size))
  obtain ⟨rfl, y, hr, hy, y0, y1⟩ := PI.out r f hP
  replace hr := hr.symm
  subst hr
  have rg : ¬ y ≥ 9223372036854775808 := by omega
  have rm : y % 9223372036854775808 = y := by omega
  have HY := hid hy
  clear hB hP P1 HB1 PI hy
  go_wp2_with fail
  refine (D.out _).mono ?_
  rintro e w3 ⟨rfl, hB⟩
  have hb := HB2.out.trans (hB.mono HB2.out.size)
  have hb2 := hb.trans ((alloc_b w3 (.cells #[.bool true, .int .i64 c, .int .u64 m, .int .i64 x] 34)).mono hb.size)
  have Q := Row4.new w3 34 (.bool true) (.int .i64 c) (.int .u64 m) (.int .i64 x)
  go_upto_region 8 with fail
  obtain ⟨SS, KS, CS, BS, MS⟩ := state (fun w' => w'.cell? ⟨w3.heap.size, 0, none⟩ = some (.bool true) ∧ w'.cell? ⟨w3.heap.size, 1, none⟩ = some (.int .i64 c) ∧ w'.cell? ⟨w3.heap.size, 2, none⟩ = some (.int .u64 m) ∧ w'.cell? ⟨w3.heap.size, 3, none⟩ = some (.int .i64 x)) w ((Stays.cell _ _).and ((Stays.cell _ _).and ((Stays.cell _ _).and (Stays.cell _ _))))
  have S0 := hid (MS.out _ Q.cells.1 hb2)
  clear hB hb hb2 Q D MS HB2
  generalize w3.alloc (.cells #[.bool true, .int .i64 c, .int .u64 m, .int .i64 x] 34) = wA at *
  generalize w3.heap.size = b at *
  obtain ⟨p0, p1, p2, p3⟩ := CS.out _ S0.out
  go_wp2_with fail
  have T1 := hid (TR.out wA (BS.out _ S0.out))
  refine T1.out.mono ?_
  rintro e wz ⟨t, o, rfl, hz, hto⟩
  replace hz := hz.symm
  subst hz
  obtain ⟨ht, hm, o0, o1, ho⟩ := hto.out
  obtain ⟨E, hE⟩ : ∃ E, (x + (t : Int)) * (k : Int) = E := ⟨_, rfl⟩
  have PF := hid (FX.out t o E y hm o0 o1 hE HY.out)
  have eb := EB.out t ht
  rw [hE] at eb
  obtain ⟨eb1, eb2⟩ := eb
  have tb : (t : Int) ≤ 63 := by omega
  obtain ⟨K, hKP⟩ := KPx.out o o0 o1
  have KP := hid hKP
  have S1 := hid (KS.out _ _ S0.out (alloc_b wA (.cells #[.int .u64 m] 22)))
  have OO := hid (And.intro ho (And.intro o0 o1))
  clear hto hm ho o0 o1 HY FX EB KPx hKP T1 TR OD S0 p0 p1 p2 p3 ht
  generalize wA.alloc (.cells #[.int .u64 m] 22) = wB at *
  obtain ⟨p0, p1, p2, p3⟩ := CS.out _ S1.out
  have R1 := hid (SR.out wB t o (BS.out _ S1.out) OO.out.1)
  clear SR
  go_wp2_with fail
  refine R1.out.mono ?_
  rintro e w5 ⟨p5, o5, b5, rfl, A, hB⟩
  have S2 := hid (KS.out _ _ S1.out hB)
  have PO1 := hid (PO.out w5 o p5 o5 _ OO.out.2.1 OO.out.2.2 A)
  clear A hB R1 S1 p0 p1 p2 p3 PO OO
  go_wp2_with fail
  refine PO1.out.mono ?_
  rintro e w6 ⟨p6, o6, rfl, A, hB⟩
  have S3 := hid (KS.out _ _ S2.out hB)
  have HN0 := hid A
  clear A hB PO1 S2
  obtain ⟨p0, p1, p2, p3⟩ := CS.out _ S3.out
  go_upto_region 19 with fail
  have hb := alloc_b w6 (.cells #[.int .u64 1] 22)
  have HE := hid (ans_lit (B := 0) (heap_alloc_new w6 (.cells #[.int .u64 1] 22)) (by omega) (by omega) (by omega))
  have HN := hid (HN0.out.below hb (Nat.le_refl _))
  have HD := hid ((BS.out _ S3.out).trans (hb.mono (BS.out _ S3.out).size))
  clear hb HN0 S3 p0 p1 p2 p3 KS CS BS hk hE
  generalize w6.alloc (.cells #[.int .u64 1] 22) = wD at *
  rcases (show 100000 < E ∨ (¬ 100000 < E ∧ E < -100000) ∨ (0 ≤ E ∧ E ≤ 100000) ∨ (E < 0 ∧ -100000 ≤ E) by omega) with g | ⟨g', g⟩ | ⟨g, g'⟩ | ⟨g, g'⟩
  · have E0 : 0 < E := by omega
    rcases ns with ns | ns
    · have FY := hid (PF.out.far1 ns g)
      go_wp2_with fail
      go_ret
      exact ⟨by simp [FY.out], HD.out⟩
    · have FY := hid (PF.out.far3 ns g)
      have ns' : ¬ 0 < n := by omega
      go_wp2_with fail
      go_ret
      exact ⟨by simp [FY.out], HD.out⟩
  · have E0 : ¬ 0 < E := by omega
    rcases ns with ns | ns
    · have FY := hid (PF.out.far2 ns g)
      go_wp2_with fail
      go_ret
      exact ⟨by simp [FY.out], HD.out⟩
    · have FY := hid (PF.out.far4 ns g)
      have ns' : ¬ 0 < n := by omega
      go_wp2_with fail
      go_ret
      exact ⟨by simp [FY.out], HD.out⟩
  · obtain ⟨s, hs⟩ : ∃ s : Nat, E = (s : Int) := ⟨E.toNat, by omega⟩
    obtain ⟨J, hJ, j1, j2, j3, j4⟩ := Ie.pow_sh (s := s) KP.out.2.2 KP.out.1 (by omega)
    have SH := hid (a_shl s HN.out (pw_room (by omega) j1))
    have JJ := hid (And.intro hJ (And.intro j1 (And.intro j2 (And.intro j3 j4))))
    have s0 : ¬ (s : Int) < 0 := by omega
    have s1 : ¬ (s : Int) > 100000 := by omega
    have s2 : ¬ (s : Int) < -100000 := by omega
    subst hs
    clear g g' hJ j1 j2 j3 j4
    go_wp2_with fail
    refine SH.out.mono ?_
    rintro e w9 ⟨p9, o9, rfl, A, hB⟩
    have HB9 := hid (HD.out.trans (hB.mono HD.out.size))
    have HN9 := hid A
    have HE9 := hid (HE.out.below hB (Nat.le_refl _))
    clear A hB SH HN HE HD
    rcases ns with ns | ns
    · have NR := hid (nearest6_any (N := o ^ k * 2 ^ s) (D := 1) y HN9.out HE9.out J JJ.out.1 JJ.out.2.1 JJ.out.2.2.2.2 (PF.out.near1 ns s rfl))
      have ns' : ¬ n < 0 := by omega
      go_wp2_with fail
      refine NR.out.mono ?_
      rintro e w10 ⟨rfl, hB⟩
      have HB10 := hid (HB9.out.trans (hB.mono HB9.out.size))
      clear hB NR
      go_wp2_with fail
      go_ret
      exact ⟨rfl, HB10.out⟩
    · have NR := hid (nearest6_any (N := 1) (D := o ^ k * 2 ^ s) y HE9.out HN9.out J JJ.out.1 JJ.out.2.2.2.2 JJ.out.2.1 (PF.out.near3 ns s rfl))
      go_wp2_with fail
      refine NR.out.mono ?_
      rintro e w10 ⟨rfl, hB⟩
      have HB10 := hid (HB9.out.trans (hB.mono HB9.out.size))
      clear hB NR
      go_wp2_with fail
      go_ret
      exact ⟨rfl, HB10.out⟩
  · obtain ⟨s, hs⟩ : ∃ s : Nat, E = -(s : Int) := ⟨(-E).toNat, by omega⟩
    obtain ⟨J, hJ, j1, j2, j3, j4⟩ := Ie.pow_sh (s := s) KP.out.2.2 KP.out.1 (by omega)
    have SH := hid (a_shl s HE.out (pw_room (by omega) j3))
    have JJ := hid (And.intro hJ (And.intro j1 (And.intro j2 (And.intro j3 j4))))
    have s0 : -(s : Int) < 0 := by omega
    have s1 : ¬ -(s : Int) > 100000 := by omega
    have s2 : ¬ -(s : Int) < -100000 := by omega
    have WS : IntKind.i64.wrap (s : Int) = (s : Int) := by rw [IntKind.wrap_i64]; omega
    subst hs
    clear g g' hJ j1 j2 j3 j4
    go_wp2_with fail
    refine SH.out.mono ?_
    rintro e w9 ⟨p9, o9, rfl, A, hB⟩
    have HB9 := hid (HD.out.trans (hB.mono HD.out.size))
    have HE9 := hid A
    have HN9 := hid (HN.out.below hB (Nat.le_refl _))
    clear A hB SH HN HE HD
    rcases ns with ns | ns
    · have NR := hid (nearest6_any (N := o ^ k) (D := 1 * 2 ^ s) y HN9.out HE9.out J JJ.out.1 JJ.out.2.2.1 JJ.out.2.2.2.1 (PF.out.near2 ns s (by omega)))
      have ns' : ¬ n < 0 := by omega
      go_wp2_with fail
      refine NR.out.mono ?_
      rintro e w10 ⟨rfl, hB⟩
      have HB10 := hid (HB9.out.trans (hB.mono HB9.out.size))
      clear hB NR
      go_wp2_with fail
      go_ret
      exact ⟨rfl, HB10.out⟩
    · have NR := hid (nearest6_any (N := 1 * 2 ^ s) (D := o ^ k) y HE9.out HN9.out J JJ.out.1 JJ.out.2.2.2.1 JJ.out.2.2.1 (PF.out.near4 ns s (by omega)))
      go_wp2_with fail
      refine NR.out.mono ?_
      rintro e w10 ⟨rfl, hB⟩
      have HB10 := hid (HB9.out.trans (hB.mono HB9.out.size))
      clear hB NR
      go_wp2_with fail
      go_ret
      exact ⟨rfl, HB10.out⟩
end Go.Proofs.YtnfomlkhkggjeabDoor

/-
  RemainNearest, one sign (made by mkhlaw.py).
-/
namespace Go.Proofs.YtnfomlkhkggjeabDoor
open Go Go.RowKit Go.Deep

set_option maxRecDepth 100000 in
set_option maxHeartbeats 8000000 in
theorem near_O (d n : Int) (k : Nat) (w : World) (hT : Tab w) (h0 : 0 ≤ d) (h1 : d < 18446744073709551616) (n1 : -1024 ≤ n) (n2 : n ≤ 1024) (n0 : n ≠ 0) (hc : Ie.cls d = 1 ∨ Ie.cls d = 2) (hk : max n (-n) = (k : Int)) (hs : Ie.ngd d = true) (hp : n % 2 = 1) :
    Calls Tryd.prog 4 #[.int .u64 d, .int .i64 n] w fun e w' => e = .returned (.bool true) ∧ Below w.heap.size w w' := by
  have AWK := hid (hawake_any w hT)
  have PW := hid (fun (wx : World) (hx : Tab wx) => power6_any d n wx hx h0 h1)
  have D := hid (fun (wx : World) => decode_any d wx h0 h1)
  rw [← Ie.ngd, hs] at D
  have HT := hid hT
  have hf : Ie.fin d ∧ Ie.ab d ≠ 0 := by
    rcases Ie.dec_kinds d _ rfl with ⟨c, m, x, k1⟩ | ⟨c, m, x, k1, k2⟩ | ⟨c, m, x, k1, k2⟩ | ⟨c, m, x, k1⟩ | ⟨c, m, x, k1, k2⟩ <;> simp only [Ie.fin, Ie.ab] <;> omega
  obtain ⟨hf, hz⟩ := hf
  obtain ⟨⟨m0, m1⟩, ⟨e0, e1⟩, -, m2⟩ := Ie.dec_f d hf
  have mp : 0 < Ie.dm d := by have := fun g => hz (m2.1 g); omega
  have c1 : (Ie.cls d == 0) = false := by rw [beq_eq_false_iff_ne]; omega
  have c2 : ¬ Ie.cls d ≥ 3 := by omega
  have z' : (n == 0) = false := by rw [beq_eq_false_iff_ne]; exact n0
  have k1 : k ≤ 1024 := by omega
  -- what Power tells
  have PI : Hid (∀ r f : Int, Ie.PwrIs d n r f → f = 0 ∧ ∃ y, r = y + 9223372036854775808 ∧ Ie.PowIs (Ie.dm d) (Ie.de d) n y ∧ 0 ≤ y ∧ y ≤ 9218868437227405312) := by
    intro r f hP
    obtain ⟨q0, -, q1⟩ := hP.2 n1 n2
    obtain ⟨y, hr, hy⟩ := (q1 n0).2 (Ie.fin_kinds hf).1
    refine ⟨q0, y, ?_, hy.2.2.1 hf hz, hy.2.2.2.1, hy.2.2.2.2⟩
    rw [hr, hs]
    rw [hp]; rfl
  have FX := hid (fun (t : Nat) (o E y : Int) (hm : Ie.dm d = o * 2 ^ t) (o0 : 0 < o) (o1 : o < 9007199254740992) (hE : (Ie.de d + (t : Int)) * (k : Int) = E) (h : Ie.PowIs (Ie.dm d) (Ie.de d) n y) => Ie.pow_facts (o := o) (t := t) hm o0 o1 k1 hk hE h)
  have OD := hid (fun (t : Nat) (j : Int) (h : Ie.dm d = 2 ^ t * (2 * j + 1)) => Ie.odd_part h mp m1)
  have EB := hid (fun (t : Nat) (ht : t ≤ 63) => Ie.exp_bd (n := (k : Int)) e0 e1 ht (by omega) (by omega))
  have TR : Hid (∀ wx : World, Below w.heap.size w wx → Calls Tryd.prog 14 #[.slice (some ⟨wx.heap.size, 0, none⟩) 1 1] (wx.alloc (.cells #[.int .u64 (Ie.dm d)] 22)) fun e w' => ∃ (t : Nat) (o : Int), e = .returned (.int .i64 (t : Int)) ∧ w' = wx.alloc (.cells #[.int .u64 (Ie.dm d)] 22) ∧ Hid (t ≤ 63 ∧ Ie.dm d = o * 2 ^ t ∧ 0 < o ∧ o < 9007199254740992 ∧ Ie.dm d / 2 ^ t = o)) := by
    intro wx hx
    have hb := hx.trans ((alloc_b wx (.cells #[.int .u64 (Ie.dm d)] 22)).mono hx.size)
    have A := ans_lit (B := 0) (heap_alloc_new wx (.cells #[.int .u64 (Ie.dm d)] 22)) mp (by omega) (by omega)
    refine (trail_any _ 1 1 [Ie.dm d] _ (A.arg (by simp)) (HT.out.below hb)).mono ?_
    rintro e w' ⟨t, rfl, hTr, rfl⟩
    rw [A.2.2.2.1] at hTr
    rcases hTr with h | ⟨j, h⟩
    · omega
    · obtain ⟨o, q1, q2, q3, q4⟩ := Ie.odd_part h mp m1
      have ht : t ≤ 63 := by
        rcases Nat.lt_or_ge 63 t with g | g
        · exfalso
          have g1 := Nm.two_mono (show 53 ≤ t by omega)
          have e53 : (2 : Int) ^ 53 = 9007199254740992 := by decide
          have : 1 * 2 ^ t ≤ o * 2 ^ t := Int.mul_le_mul_of_nonneg_right (by omega) (by omega)
          omega
        · exact g
      exact ⟨t, o, rfl, rfl, ht, q1, q2, q3, q4⟩
  have SR : Hid (∀ (wx : World) (t : Nat) (o : Int), Below w.heap.size w wx → Ie.dm d / 2 ^ t = o → Calls Tryd.prog 15 #[.slice (some ⟨wx.heap.size, 0, none⟩) 1 1, .int .i64 (t : Int)] (wx.alloc (.cells #[.int .u64 (Ie.dm d)] 22)) fun e w' => ∃ r os b, e = .returned (.tuple #[.slice r (List.length os) (List.length os), .bool b, .int .i64 0]) ∧ Ans w.heap.size w' r os o ∧ Below wx.heap.size wx w') := by
    intro wx t o hx ho
    have ha := alloc_b wx (.cells #[.int .u64 (Ie.dm d)] 22)
    have hb := hx.trans (ha.mono hx.size)
    have A := ans_lit (B := 0) (heap_alloc_new wx (.cells #[.int .u64 (Ie.dm d)] 22)) mp (by omega) (by omega)
    refine (shr_any _ 1 1 [Ie.dm d] (t : Int) t _ (A.arg (by simp)) (HT.out.below hb) (by rw [A.2.2.1]; simp) rfl).mono ?_
    rintro e w' ⟨r, os, rfl, A', hB⟩
    rw [A.2.2.2.1, ho] at A'
    exact ⟨r, os, _, rfl, A'.upB hb.size, ha.trans (hB.mono ha.size)⟩
  have PO : Hid (∀ (wx : World) (o : Int) (p : Option Addr) (os : List Int) (B : Nat), 0 < o → o < 9007199254740992 → Ans B wx p os o → Calls Tryd.prog 16 #[.slice p os.length os.length, .int .i64 (k : Int)] wx fun e w' => ∃ r os, e = .returned (.tuple #[.slice r (List.length os) (List.length os), .int .i64 0]) ∧ Ans wx.heap.size w' r os (o ^ k) ∧ Below wx.heap.size wx w') := by
    intro wx o p os B o0 o1 A
    have l1 := A.lim1 (by omega)
    refine (pow_gives p _ _ os o (k : Int) k wx (A.arg (by omega)) (by rw [A.2.2.1]; omega) A.2.2.2.1 rfl (by omega)).mono ?_
    rintro e w' ⟨h | h, hB⟩
    · obtain ⟨_, r, os, rfl, A'⟩ := h
      exact ⟨r, os, rfl, A', hB⟩
    · exfalso
      have g := (Ie.pow_bd o0 o1 k1).2
      have g1 := Ie.pw_54272
      have g2 := Nm.pw_mono (show 4095 ≤ 4096 by omega)
      have := h.1
      omega
  have KPx : Hid (∀ o : Int, 0 < o → o < 9007199254740992 → ∃ K : Nat, K ≤ 54272 ∧ 0 < o ^ k ∧ o ^ k ≤ 2 ^ K) := fun o o0 o1 => ⟨53 * k, by omega, Ie.pow_pos' o0 k, Ie.pow_le' o0 o1 k⟩
  have ns : 0 < n ∨ n < 0 := by omega
  have g1 : ¬ n > 1024 := by omega
  have g2 : ¬ n < -1024 := by omega
  have kb : (k : Int) ≤ 1024 := by omega
  have p' : (Int.tmod n 2 == 0) = false := by rw [beq_eq_false_iff_ne]; exact (tmod2 n).2 hp
  have p2 : (Int.tmod n 2 != 0) = true := by rw [bne, p']; rfl
  clear hT h0 h1 hf hz m0 m1 m2 mp e1 k1 hc n0 n1 n2 hs hp
  simp only [partsOf] at D
  generalize Ie.dm d = m at *
  obtain ⟨x, hx⟩ : ∃ x, Ie.de d = x := ⟨_, rfl⟩
  rw [hx] at D PI FX EB e0
  have xb : x ≤ 971 := by rw [← hx]; exact (Ie.de_le d)
  clear hx
  generalize Ie.cls d = c at *
  go_enter Tryd.func4, Tryd.ntmps4
  go_wp2_with fail
  refine AWK.out.mono ?_
  rintro e w1 ⟨rfl, hB⟩
  have HB1 := hid hB
  have P1 := hid (PW.out w1 (HT.out.below hB))
  clear hB AWK PW
  go_wp2_with fail
  refine P1.out.mono ?_
  rintro e w2 ⟨r, f, rfl, hP, hB⟩
  have HB2 := hid (HB1.out.trans (hB.mono HB1.out.size))
  obtain ⟨rfl, y, hr, hy, y0, y1⟩ := PI.out r f hP
  have rg : r ≥ 9223372036854775808 := by omega
  have rm : r % 9223372036854775808 = y := by omega
  have rl : r < 18446744073709551616 := by omega
  clear hr
  have HY := hid hy
  clear hB hP P1 HB1 PI hy
  go_wp2_with fail
  refine (D.out _).mono ?_
  rintro e w3 ⟨rfl, hB⟩
  have hb := HB2.out.trans (hB.mono HB2.out.size)
  have hb2 := hb.trans ((alloc_b w3 (.cells #[.bool true, .int .i64 c, .int .u64 m, .int .i64 x] 34)).mono hb.size)
  have Q := Row4.new w3 34 (.bool true) (.int .i64 c) (.int .u64 m) (.int .i64 x)
  go_upto_region 8 with fail
  obtain ⟨SS, KS, CS, BS, MS⟩ := state (fun w' => w'.cell? ⟨w3.heap.size, 0, none⟩ = some (.bool true) ∧ w'.cell? ⟨w3.heap.size, 1, none⟩ = some (.int .i64 c) ∧ w'.cell? ⟨w3.heap.size, 2, none⟩ = some (.int .u64 m) ∧ w'.cell? ⟨w3.heap.size, 3, none⟩ = some (.int .i64 x)) w ((Stays.cell _ _).and ((Stays.cell _ _).and ((Stays.cell _ _).and (Stays.cell _ _))))
  have S0 := hid (MS.out _ Q.cells.1 hb2)
  clear hB hb hb2 Q D MS HB2
  generalize w3.alloc (.cells #[.bool true, .int .i64 c, .int .u64 m, .int .i64 x] 34) = wA at *
  generalize w3.heap.size = b at *
  obtain ⟨p0, p1, p2, p3⟩ := CS.out _ S0.out
  go_wp2_with fail
  have T1 := hid (TR.out wA (BS.out _ S0.out))
  refine T1.out.mono ?_
  rintro e wz ⟨t, o, rfl, hz, hto⟩
  replace hz := hz.symm
  subst hz
  obtain ⟨ht, hm, o0, o1, ho⟩ := hto.out
  obtain ⟨E, hE⟩ : ∃ E, (x + (t : Int)) * (k : Int) = E := ⟨_, rfl⟩
  have PF := hid (FX.out t o E y hm o0 o1 hE HY.out)
  have eb := EB.out t ht
  rw [hE] at eb
  obtain ⟨eb1, eb2⟩ := eb
  have tb : (t : Int) ≤ 63 := by omega
  obtain ⟨K, hKP⟩ := KPx.out o o0 o1
  have KP := hid hKP
  have S1 := hid (KS.out _ _ S0.out (alloc_b wA (.cells #[.int .u64 m] 22)))
  have OO := hid (And.intro ho (And.intro o0 o1))
  clear hto hm ho o0 o1 HY FX EB KPx hKP T1 TR OD S0 p0 p1 p2 p3 ht
  generalize wA.alloc (.cells #[.int .u64 m] 22) = wB at *
  obtain ⟨p0, p1, p2, p3⟩ := CS.out _ S1.out
  have R1 := hid (SR.out wB t o (BS.out _ S1.out) OO.out.1)
  clear SR
  go_wp2_with fail
  refine R1.out.mono ?_
  rintro e w5 ⟨p5, o5, b5, rfl, A, hB⟩
  have S2 := hid (KS.out _ _ S1.out hB)
  have PO1 := hid (PO.out w5 o p5 o5 _ OO.out.2.1 OO.out.2.2 A)
  clear A hB R1 S1 p0 p1 p2 p3 PO OO
  go_wp2_with fail
  refine PO1.out.mono ?_
  rintro e w6 ⟨p6, o6, rfl, A, hB⟩
  have S3 := hid (KS.out _ _ S2.out hB)
  have HN0 := hid A
  clear A hB PO1 S2
  obtain ⟨p0, p1, p2, p3⟩ := CS.out _ S3.out
  go_upto_region 19 with fail
  have hb := alloc_b w6 (.cells #[.int .u64 1] 22)
  have HE := hid (ans_lit (B := 0) (heap_alloc_new w6 (.cells #[.int .u64 1] 22)) (by omega) (by omega) (by omega))
  have HN := hid (HN0.out.below hb (Nat.le_refl _))
  have HD := hid ((BS.out _ S3.out).trans (hb.mono (BS.out _ S3.out).size))
  clear hb HN0 S3 p0 p1 p2 p3 KS CS BS hk hE
  generalize w6.alloc (.cells #[.int .u64 1] 22) = wD at *
  rcases (show 100000 < E ∨ (¬ 100000 < E ∧ E < -100000) ∨ (0 ≤ E ∧ E ≤ 100000) ∨ (E < 0 ∧ -100000 ≤ E) by omega) with g | ⟨g', g⟩ | ⟨g, g'⟩ | ⟨g, g'⟩
  · have E0 : 0 < E := by omega
    rcases ns with ns | ns
    · have FY := hid (PF.out.far1 ns g)
      go_wp2_with fail
      go_ret
      exact ⟨by simp [FY.out], HD.out⟩
    · have FY := hid (PF.out.far3 ns g)
      have ns' : ¬ 0 < n := by omega
      go_wp2_with fail
      go_ret
      exact ⟨by simp [FY.out], HD.out⟩
  · have E0 : ¬ 0 < E := by omega
    rcases ns with ns | ns
    · have FY := hid (PF.out.far2 ns g)
      go_wp2_with fail
      go_ret
      exact ⟨by simp [FY.out], HD.out⟩
    · have FY := hid (PF.out.far4 ns g)
      have ns' : ¬ 0 < n := by omega
      go_wp2_with fail
      go_ret
      exact ⟨by simp [FY.out], HD.out⟩
  · obtain ⟨s, hs⟩ : ∃ s : Nat, E = (s : Int) := ⟨E.toNat, by omega⟩
    obtain ⟨J, hJ, j1, j2, j3, j4⟩ := Ie.pow_sh (s := s) KP.out.2.2 KP.out.1 (by omega)
    have SH := hid (a_shl s HN.out (pw_room (by omega) j1))
    have JJ := hid (And.intro hJ (And.intro j1 (And.intro j2 (And.intro j3 j4))))
    have s0 : ¬ (s : Int) < 0 := by omega
    have s1 : ¬ (s : Int) > 100000 := by omega
    have s2 : ¬ (s : Int) < -100000 := by omega
    subst hs
    clear g g' hJ j1 j2 j3 j4
    go_wp2_with fail
    refine SH.out.mono ?_
    rintro e w9 ⟨p9, o9, rfl, A, hB⟩
    have HB9 := hid (HD.out.trans (hB.mono HD.out.size))
    have HN9 := hid A
    have HE9 := hid (HE.out.below hB (Nat.le_refl _))
    clear A hB SH HN HE HD
    rcases ns with ns | ns
    · have NR := hid (nearest6_any (N := o ^ k * 2 ^ s) (D := 1) y HN9.out HE9.out J JJ.out.1 JJ.out.2.1 JJ.out.2.2.2.2 (PF.out.near1 ns s rfl))
      have ns' : ¬ n < 0 := by omega
      go_wp2_with fail
      refine NR.out.mono ?_
      rintro e w10 ⟨rfl, hB⟩
      have HB10 := hid (HB9.out.trans (hB.mono HB9.out.size))
      clear hB NR
      go_wp2_with fail
      go_ret
      exact ⟨rfl, HB10.out⟩
    · have NR := hid (nearest6_any (N := 1) (D := o ^ k * 2 ^ s) y HE9.out HN9.out J JJ.out.1 JJ.out.2.2.2.2 JJ.out.2.1 (PF.out.near3 ns s rfl))
      go_wp2_with fail
      refine NR.out.mono ?_
      rintro e w10 ⟨rfl, hB⟩
      have HB10 := hid (HB9.out.trans (hB.mono HB9.out.size))
      clear hB NR
      go_wp2_with fail
      go_ret
      exact ⟨rfl, HB10.out⟩
  · obtain ⟨s, hs⟩ : ∃ s : Nat, E = -(s : Int) := ⟨(-E).toNat, by omega⟩
    obtain ⟨J, hJ, j1, j2, j3, j4⟩ := Ie.pow_sh (s := s) KP.out.2.2 KP.out.1 (by omega)
    have SH := hid (a_shl s HE.out (pw_room (by omega) j3))
    have JJ := hid (And.intro hJ (And.intro j1 (And.intro j2 (And.intro j3 j4))))
    have s0 : -(s : Int) < 0 := by omega
    have s1 : ¬ -(s : Int) > 100000 := by omega
    have s2 : ¬ -(s : Int) < -100000 := by omega
    have WS : IntKind.i64.wrap (s : Int) = (s : Int) := by rw [IntKind.wrap_i64]; omega
    subst hs
    clear g g' hJ j1 j2 j3 j4
    go_wp2_with fail
    refine SH.out.mono ?_
    rintro e w9 ⟨p9, o9, rfl, A, hB⟩
    have HB9 := hid (HD.out.trans (hB.mono HD.out.size))
    have HE9 := hid A
    have HN9 := hid (HN.out.below hB (Nat.le_refl _))
    clear A hB SH HN HE HD
    rcases ns with ns | ns
    · have NR := hid (nearest6_any (N := o ^ k) (D := 1 * 2 ^ s) y HN9.out HE9.out J JJ.out.1 JJ.out.2.2.1 JJ.out.2.2.2.1 (PF.out.near2 ns s (by omega)))
      have ns' : ¬ n < 0 := by omega
      go_wp2_with fail
      refine NR.out.mono ?_
      rintro e w10 ⟨rfl, hB⟩
      have HB10 := hid (HB9.out.trans (hB.mono HB9.out.size))
      clear hB NR
      go_wp2_with fail
      go_ret
      exact ⟨rfl, HB10.out⟩
    · have NR := hid (nearest6_any (N := 1 * 2 ^ s) (D := o ^ k) y HE9.out HN9.out J JJ.out.1 JJ.out.2.2.2.1 JJ.out.2.2.1 (PF.out.near4 ns s (by omega)))
      go_wp2_with fail
      refine NR.out.mono ?_
      rintro e w10 ⟨rfl, hB⟩
      have HB10 := hid (HB9.out.trans (hB.mono HB9.out.size))
      clear hB NR
      go_wp2_with fail
      go_ret
      exact ⟨rfl, HB10.out⟩
end Go.Proofs.YtnfomlkhkggjeabDoor

/-
  RemainNearest (made by mkhlaw.py).
-/
namespace Go.Proofs.YtnfomlkhkggjeabDoor
open Go Go.RowKit Go.Deep

theorem nearest_law (d n : Int) (w : World) (hT : Tab w) (h0 : 0 ≤ d) (h1 : d < 18446744073709551616) :
    Calls Tryd.prog 4 #[.int .u64 d, .int .i64 n] w fun e w' => e = .returned (.bool true) ∧ Below w.heap.size w w' := by
  by_cases hn : n < -1024 ∨ 1024 < n
  · exact nearA_far d n w hT h0 h1 hn
  · by_cases n0 : n = 0
    · exact nearA_kind d n w hT h0 h1 (by omega) (by omega) (.inl n0)
    · rcases Ie.cls_cases d with c | c | c | c | c
      · exact nearA_kind d n w hT h0 h1 (by omega) (by omega) (.inr ⟨n0, .inl c⟩)
      rotate_left 2
      · exact nearA_kind d n w hT h0 h1 (by omega) (by omega) (.inr ⟨n0, .inr (.inl c)⟩)
      · exact nearA_kind d n w hT h0 h1 (by omega) (by omega) (.inr ⟨n0, .inr (.inr c)⟩)
      all_goals
        have hk : max n (-n) = (((max n (-n)).toNat : Nat) : Int) := by omega
        cases hs : Ie.ngd d
        · exact near_P d n _ w hT h0 h1 (by omega) (by omega) n0 (by omega) hk hs
        · rcases (show n % 2 = 0 ∨ n % 2 = 1 by omega) with p | p
          · exact near_E d n _ w hT h0 h1 (by omega) (by omega) n0 (by omega) hk hs p
          · exact near_O d n _ w hT h0 h1 (by omega) (by omega) n0 (by omega) hk hs p
end Go.Proofs.YtnfomlkhkggjeabDoor
