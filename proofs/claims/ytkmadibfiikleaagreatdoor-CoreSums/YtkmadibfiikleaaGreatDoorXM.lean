/-
  Texts put together: Walk4, XTimes, XSign, XMulL, XSpecX, XPlus, XAddL, XFma, XSpecF.
-/
import Derived.Test.YtkmadibfiikleaaGreatDoorWalk2a
import Derived.Test.YtkmadibfiikleaaGreatDoorXA
import Derived.Test.YtkmadibfiikleaaGreatDoorSmall
import Derived.Test.YtkmadibfiikleaaGreatDoorXSpecA
import Derived.Test.YtkmadibfiikleaaGreatDoorXNum
import Derived.Test.YtkmadibfiikleaaGreatDoorIS
import Derived.Test.YtkmadibfiikleaaGreatDoorSub
namespace Go.Proofs.YtkmadibfiikleaaGreatDoor
open Go.RowKit Go.Deep

/-- Behind j limbs of a: the block holds the product of these and b. -/
def ProdInv (g k : Nat) (w : World) (ls bs : List Int) (j : Nat) (os : List Int) (wr : World) : Prop :=
  Own wr g os ∧ os.length = k ∧ Nm.Limbs os ∧ Nm.val os = Nm.val (ls.take j) * Nm.val bs ∧ Below g w wr

theorem ProdInv.step {g k : Nat} {w : World} {ls bs : List Int} {j : Nat} {os : List Int} {wr w' : World} {n : Nat} (hn : bs.length = n) (ha : Nm.Limbs ls) (hb : Nm.Limbs bs) (h : ProdInv g k w ls bs j os wr) (hj : j < ls.length) (hk : j + n < k) {c x : Int} {us : List Int}
    (hx : x = ls.getD j 0) (hm : MulInv g k (j + n) wr os (Nm.val os + Nm.pw j * (Nm.val bs * x)) (j + n) c us w') :
    ProdInv g k w ls bs (j + 1) (us.set (j + n) c) (w'.setCell ⟨g, j + n, none⟩ (.int .u64 c)) := by
  subst hn
  obtain ⟨h1, h2, h3, h4, h5⟩ := h
  obtain ⟨⟨m1, m2, m3, m4, m5, m6⟩, m7, m8⟩ := hm
  have hv : Nm.val os < Nm.pw (j + bs.length) := by
    rw [h4, Nm.pw_add]
    have e1 := Nm.val_bd _ (ha.take j)
    rw [List.length_take, Nat.min_eq_left (by omega)] at e1
    have e2 := Nm.val_bd _ hb
    have e3 : Nm.val (ls.take j) * Nm.val bs ≤ Nm.pw j * Nm.val bs := Int.mul_le_mul_of_nonneg_right (by omega) e2.1
    have e4 : Nm.pw j * (Nm.val bs + 1) ≤ Nm.pw j * Nm.pw bs.length := Int.mul_le_mul_of_nonneg_left (by omega) (by have := Nm.pw_pos j; omega)
    have e5 := Nm.pw_pos j
    rw [Int.mul_add, Int.mul_one] at e4
    omega
  have h0 : us.getD (j + bs.length) 0 = 0 := by rw [m8 _ (Nat.le_refl _)]; exact Nm.zero_of_lt h3 hv _ (Nat.le_refl _)
  refine ⟨m1.set _ _, by simpa using m2, m3.set _ m7.1 m7.2, ?_, h5.trans (m5.setCell (Nat.le_refl _) _)⟩
  rw [Nm.val_set _ _ _ (by omega), h0, Int.sub_zero, m4, h4, hx, Nm.val_take_succ ls j hj, Int.add_mul, Int.mul_assoc, Int.mul_comm (ls.getD j 0)]

theorem prod_bound {zs ys : List Int} (hz : Nm.Limbs zs) (hy : Nm.Limbs ys) (h : Nm.val zs * Nm.val ys < Nm.pw 4096) (h1 : 0 < Nm.tsize zs) (h2 : 0 < Nm.tsize ys) : Nm.tsize zs + Nm.tsize ys ≤ 4097 := by
  have e1 := Nm.val_ge_top hz h1
  have e2 := Nm.val_ge_top hy h2
  have e3 : Nm.pw (Nm.tsize zs - 1) * Nm.pw (Nm.tsize ys - 1) ≤ Nm.val zs * Nm.val ys := Int.mul_le_mul e1 e2 (Int.le_of_lt (Nm.pw_pos _)) (by have := (Nm.val_bd zs hz).1; omega)
  rw [← Nm.pw_add] at e3
  rcases Nat.lt_or_ge (Nm.tsize zs - 1 + (Nm.tsize ys - 1)) 4096 with e | e
  · omega
  · have := Nm.pw_mono e
    omega

set_option maxRecDepth 100000 in
set_option maxHeartbeats 1000000 in
theorem mul_ok (p q : Option Addr) (n cap m cap' : Nat) (zs ys : List Int) (w : World) (ha : Arg w p n cap zs) (hb : Arg w q m cap' ys) (tz : Nm.tsize zs ≤ 4096) (ty : Nm.tsize ys ≤ 4096) (hs : Nm.val zs * Nm.val ys < Nm.pw 4096) :
    Calls Tryz.prog 57 #[.slice p n cap, .slice q m cap'] w fun e w' => ∃ r os, e = .returned (.tuple #[.slice r (List.length os) (List.length os), .int .i64 0]) ∧ Ans w.heap.size w' r os (Nm.val zs * Nm.val ys) ∧ Below w.heap.size w w' := by
  obtain ⟨a1, a2, a3, a4, a5⟩ := ha
  obtain ⟨b1, b2, b3, b4, b5⟩ := hb
  have HS : Hid (Nm.val zs * Nm.val ys < Nm.pw 4096) := hs
  clear hs
  have nil : Nm.val zs * Nm.val ys = 0 → Ans w.heap.size w none [] (Nm.val zs * Nm.val ys) := fun h => ⟨Lies.nil _ _, Nm.Limbs.nil, rfl, by simp [Nm.val, h], fun a h => by cases h⟩
  by_cases h1 : Nm.tsize zs = 0
  · have h1' : ((Nm.tsize zs : Int) == 0) = true := by simp [h1]
    have NIL := hid (nil (by rw [(Nm.tsize_zero_iff a5).1 h1, Int.zero_mul]))
    clear nil h1
    go_enter Tryz.func57, Tryz.ntmps57
    go_wp2_with fail
    refine (pair_ok p q n cap m cap' zs ys _ a1 a2 (by omega) a4 tz b1 b2 (by omega) b4 ty).mono ?_
    rintro e w' ⟨rfl, rfl⟩
    go_wp2_with fail
    go_ret2
    exact ⟨none, [], rfl, NIL.out, Below.refl _ _⟩
  have h1' : ((Nm.tsize zs : Int) == 0) = false := by simp [h1]
  by_cases h2 : Nm.tsize ys = 0
  · have h2' : ((Nm.tsize ys : Int) == 0) = true := by simp [h2]
    have NIL := hid (nil (by rw [(Nm.tsize_zero_iff b5).1 h2, Int.mul_zero]))
    clear nil h1 h2
    go_enter Tryz.func57, Tryz.ntmps57
    go_wp2_with fail
    refine (pair_ok p q n cap m cap' zs ys _ a1 a2 (by omega) a4 tz b1 b2 (by omega) b4 ty).mono ?_
    rintro e w' ⟨rfl, rfl⟩
    go_wp2_with fail
    go_ret2
    exact ⟨none, [], rfl, NIL.out, Below.refl _ _⟩
  have h2' : ((Nm.tsize ys : Int) == 0) = false := by simp [h2]
  clear nil
  have hsum := prod_bound a5 b5 HS.out (by omega) (by omega)
  have hsum' : (Nm.tsize zs : Int) + (Nm.tsize ys : Int) ≤ 4097 := by omega
  have hmk := make64 (Nm.tsize zs + Nm.tsize ys) (by omega) w
  have em : ((Nm.tsize zs + Nm.tsize ys : Nat) : Int) = (Nm.tsize zs : Int) + (Nm.tsize ys : Int) := by omega
  rw [em] at hmk
  clear em
  have ho : Own (w.alloc (.cells (madeCells #[.int .u64 0] (Nm.tsize zs + Nm.tsize ys)) 22)) w.heap.size (List.replicate (Nm.tsize zs + Nm.tsize ys) 0) := by
    rw [made_zero]; exact Own.alloc w _
  have hb0 : Below w.heap.size w (w.alloc (.cells (madeCells #[.int .u64 0] (Nm.tsize zs + Nm.tsize ys)) 22)) := (Below.refl _ _).alloc (Nat.le_refl _) _
  have I0 : ProdInv w.heap.size (Nm.tsize zs + Nm.tsize ys) w (Nm.trim zs) (Nm.trim ys) 0 (List.replicate (Nm.tsize zs + Nm.tsize ys) 0) (w.alloc (.cells (madeCells #[.int .u64 0] (Nm.tsize zs + Nm.tsize ys)) 22)) :=
    ⟨ho, by simp, Nm.Limbs.replicate _, by simp [Nm.val_replicate, Nm.val], hb0⟩
  clear ho hb0
  have hsum2 : decide (4096 < (Nm.tsize zs : Int) + (Nm.tsize ys : Int) - 1) = false := by simp; omega
  have A4 := hid a4.trim
  have B4 := hid b4.trim
  obtain ⟨b, off, rfl, hcell⟩ : ∃ b off, p = some ⟨b, off, none⟩ ∧ Hid (∀ i, i < Nm.tsize zs → w.cell? ⟨b, off + i, none⟩ = some (.int .u64 ((Nm.trim zs).getD i 0))) := by
    have hlen := Nm.trim_length zs
    rcases A4.out with h | ⟨b, off, hp, h⟩
    · exfalso
      rw [h] at hlen
      simp at hlen
      omega
    · exact ⟨b, off, hp, fun i hi => h i (by rw [hlen]; exact hi)⟩
  have hbg : b < w.heap.size := cell_lt (hcell.out 0 (by omega))
  have A5 := hid a5.trim
  have B5 := hid b5.trim
  go_enter Tryz.func57, Tryz.ntmps57
  go_wp2_with fail
  refine (pair_ok (some ⟨b, off, none⟩) q n cap m cap' zs ys _ a1 a2 (by omega) a4 tz b1 b2 (by omega) b4 ty).mono ?_
  rintro e w' ⟨rfl, rfl⟩
  clear a4 b4
  go_wp2_with fail
  go_loopw [43] (fun i wr => ∃ (j : Nat) (os : List Int), j ≤ Nm.tsize zs ∧ i = .int .i64 j ∧ ProdInv w'.heap.size (Nm.tsize zs + Nm.tsize ys) w' (Nm.trim zs) (Nm.trim ys) j os wr) (fun i _ => Nm.tsize zs - (intOf i).toNat)
  case atStart => exact ⟨0, _, Nat.zero_le _, rfl, I0⟩
  case round =>
    clear I0 hmk
    obtain ⟨j, os, hj, rfl, I⟩ := hrel
    by_cases hlt : j < Nm.tsize zs
    · obtain ⟨x, hx, X⟩ : ∃ x, wr.cell? ⟨b, off + j, none⟩ = some (.int .u64 x) ∧ Hid (x = (Nm.trim zs).getD j 0) := ⟨_, (I.2.2.2.2.cell (p := ⟨b, off + j, none⟩) hbg).trans (hcell.out j hlt), rfl⟩
      have hx0 := A5.out.at j
      rw [show (Nm.trim zs).getD j 0 = x from X.out.symm] at hx0
      obtain ⟨hx0, hx1⟩ := hx0
      go_wp2_with fail
      refine (addTimes_any w'.heap.size (Nm.tsize zs + Nm.tsize ys) j (Nm.tsize ys) _ os q _ (Nm.trim ys) x _ I.2.1 (by omega) I.1 I.2.2.1 (Nm.trim_length ys) (by omega) (B4.out.below I.2.2.2.2 (Nat.le_refl _)) B5.out (fun h0 => B4.out.lt h0) hx0 hx1).mono ?_
      rintro e w2 ⟨c, us, rfl, M⟩
      have I2 := I.step (Nm.trim_length ys) A5.out B5.out (by rw [Nm.trim_length]; exact hlt) (by omega) X.out M
      obtain ⟨y, hy⟩ : ∃ y, w2.cell? ⟨w'.heap.size, j + Nm.tsize ys, none⟩ = some (.int .u64 y) := ⟨_, M.1.1.cell _ (by have := M.1.2.1; omega)⟩
      have hfr := M.1.1.free (j + Nm.tsize ys)
      clear M
      go_wp2
      go_roundw
      case rel => exact ⟨j + 1, _, by omega, by go_num, I2⟩
      case measure => simp [intOf]; omega
    · have hjn : j = Nm.tsize zs := by omega
      subst hjn
      have E := I.2.2.2.1
      rw [List.take_of_length_le (by rw [Nm.trim_length]; omega), Nm.val_trim, Nm.val_trim] at E
      have EE := hid E
      clear E
      go_wp2_with fail
      refine (limited_own w'.heap.size (Nm.tsize zs + Nm.tsize ys) os _ I.2.1 (by omega) I.1 I.2.2.1 w'.heap.size (Nat.le_refl _) (by rw [EE.out]; exact HS.out)).mono ?_
      rintro e w3 ⟨r, xs, rfl, hans, rfl⟩
      rw [EE.out] at hans
      have HA := hid hans
      clear hans
      have HB := hid I.2.2.2.2
      clear I
      go_wp2_with fail
      go_ret2
      exact ⟨r, xs, rfl, HA.out, HB.out⟩
end Go.Proofs.YtkmadibfiikleaaGreatDoor

/-
  soft: times, over (made by mktimes5.py).
-/
namespace Go.Proofs.YtkmadibfiikleaaGreatDoor
open Go Go.RowKit Go.Deep

theorem ret_exact {n n' : Bool} {p p' : Option Addr} {l l' c c' : Nat} {e e' : Int} {m m' : Bool} (h0 : n = n') (h1 : e = e') (h2 : m = m') (h3 : p = p') (h4 : l = l') (h5 : c = c') : exactOf n p l c e m = exactOf n' p' l' c' e' m' := by rw [h0, h1, h2, h3, h4, h5]

/-- What times answers. -/
def TimesTold (n1 : Bool) (V1 e1 : Int) (n2 : Bool) (V2 e2 : Int) (w : World) (e : Ending) (w' : World) : Prop :=
  ∃ p os, e = .returned (exactOf (n1 != n2) p (List.length os) (List.length os) (e1 + e2) false) ∧ Ans w.heap.size w' p os (V1 * V2) ∧ Below w.heap.size w w'

/-- What over answers. -/
def OverTold (n1 : Bool) (V1 e1 : Int) (n2 : Bool) (V2 e2 : Int) (w : World) (e : Ending) (w' : World) : Prop :=
  ∃ p os, e = .returned (exactOf (n1 != n2) p (List.length os) (List.length os) (e1 - 128 - e2) (decide (V1 * 2 ^ 128 % V2 ≠ 0))) ∧ Ans w.heap.size w' p os (V1 * 2 ^ 128 / V2) ∧ Below w.heap.size w w'

theorem tell4 {w w3 : World} {p : Option Addr} {os : List Int} {V : Int} {x0 x1 x2 x3 y0 y1 y2 y3 u0 u2 u3 : Value} (hb : Box w w3 x0 x1 x2 x3 y0 y1 y2 y3) (A : Ans (w.heap.size + 3) w3 p os V) :
    Ans w.heap.size ((((w3.setCell ⟨w.heap.size + 2, 0, none⟩ u0).setCell ⟨w.heap.size + 2, 1, none⟩ (.slice p os.length os.length)).setCell ⟨w.heap.size + 2, 2, none⟩ u2).setCell ⟨w.heap.size + 2, 3, none⟩ u3) p os V ∧
    Below w.heap.size w ((((w3.setCell ⟨w.heap.size + 2, 0, none⟩ u0).setCell ⟨w.heap.size + 2, 1, none⟩ (.slice p os.length os.length)).setCell ⟨w.heap.size + 2, 2, none⟩ u2).setCell ⟨w.heap.size + 2, 3, none⟩ u3) := by
  have A' := A.set4 (b := w.heap.size + 2) (u0 := u0) (u1 := .slice p os.length os.length) (u2 := u2) (u3 := u3) (by omega)
  exact ⟨⟨A'.1, A'.2.1, A'.2.2.1, A'.2.2.2.1, fun a h => by have := A'.2.2.2.2 a h; omega⟩, set4_below hb.2.1 (by omega)⟩

set_option maxRecDepth 100000 in
set_option maxHeartbeats 4000000 in
theorem times_xany (n1 n2 m1 m2 : Bool) (p1 p2 : Option Addr) (l1 c1 l2 c2 : Nat) (z1 z2 : List Int) (e1 e2 V1 V2 : Int) (w : World) (a1 : Arg w p1 l1 c1 z1) (a2 : Arg w p2 l2 c2 z2) (hV1 : Nm.val z1 = V1) (hV2 : Nm.val z2 = V2) (b1 : V1 < 2 ^ 60) (b2 : V2 < 2 ^ 60)
    (q1 : -1100 ≤ e1) (q2 : e1 ≤ 1000) (q3 : -1100 ≤ e2) (q4 : e2 ≤ 1000) :
    Calls Tryz.prog 35 #[exactOf n1 p1 l1 c1 e1 m1, exactOf n2 p2 l2 c2 e2 m2] w fun e w' => TimesTold n1 V1 e1 n2 V2 e2 w e w' := by
  have v1 : 0 ≤ V1 := by rw [← hV1]; exact (Nm.val_bd z1 a1.2.2.2.2).1
  have v2 : 0 ≤ V2 := by rw [← hV2]; exact (Nm.val_bd z2 a2.2.2.2.2).1
  have e4096 := pw_4096
  have big := Nm.two_mono (show 120 ≤ 262144 by omega)
  have b60 := Nm.two_mono (show 60 ≤ 120 by omega)
  have pr : V1 * V2 < 2 ^ 120 := by
    have h1 : V1 * V2 ≤ V1 * 2 ^ 60 := Int.mul_le_mul_of_nonneg_left (by omega) v1
    have h2 : V1 * 2 ^ 60 < 2 ^ 60 * 2 ^ 60 := Int.mul_lt_mul_of_pos_right b1 (Nm.two_pos 60)
    rw [← Nm.two_add] at h2
    omega
  have t1 : Nm.tsize z1 ≤ 4096 := (Nm.tsize_le_iff a1.2.2.2.2 4096).2 (by rw [hV1]; omega)
  have t2 : Nm.tsize z2 ≤ 4096 := (Nm.tsize_le_iff a2.2.2.2.2 4096).2 (by rw [hV2]; omega)
  have M1 : Hid (∀ wx : World, Below w.heap.size w wx → Calls Tryz.prog 57 #[.slice p1 l1 c1, .slice p2 l2 c2] wx fun e w' => ∃ r os, e = .returned (.tuple #[.slice r (List.length os) (List.length os), .int .i64 0]) ∧ Ans wx.heap.size w' r os (V1 * V2) ∧ Below wx.heap.size wx w') := by
    intro wx hx
    have := mul_ok p1 p2 l1 c1 l2 c2 z1 z2 wx (a1.below hx (Nat.le_refl _)) (a2.below hx (Nat.le_refl _)) t1 t2 (by rw [hV1, hV2]; omega)
    rw [hV1, hV2] at this
    exact this
  have B0 := Box.new w (.bool n1) (.slice p1 l1 c1) (.int .i64 e1) (.bool m1) (.bool n2) (.slice p2 l2 c2) (.int .i64 e2) (.bool m2)
  clear hV1 hV2 b1 b2 a1 a2 v1 v2 big b60 pr t1 t2 e4096
  have TT : Hid (∀ (e : Ending) (w' : World), (∃ p os, e = .returned (exactOf (n1 != n2) p (List.length os) (List.length os) (e1 + e2) false) ∧ Ans w.heap.size w' p os (V1 * V2) ∧ Below w.heap.size w w') → TimesTold n1 V1 e1 n2 V2 e2 w e w') := fun _ _ h => h
  generalize V1 * V2 = X at *
  simp only [exactOf]
  go_enter Tryz.func35, Tryz.ntmps35
  go_wp2_with fail
  refine (M1.out _ B0.2.1).mono ?_
  rintro e wa ⟨r1, o1, rfl, A1, hB1⟩
  have Ba := B0.on hB1
  have s0 := B0.2.2
  have KF := tell4 (u0 := .bool (n1 != n2)) (u2 := .int .i64 (e1 + e2)) (u3 := .bool false) Ba ⟨A1.1, A1.2.1, A1.2.2.1, A1.2.2.2.1, fun a h => by have := A1.2.2.2.2 a h; omega⟩
  obtain ⟨⟨cx0, cx1, cx2⟩, ⟨cy0, cy1, cy2⟩, ⟨⟨r0, r1', r2', r3⟩, ⟨f0, f1, f2, f3⟩⟩⟩ := Ba.cells
  have RR := hid Ba.1.2.2
  have KK := hid KF
  clear KF A1 hB1 M1 Ba B0 s0
  go_wp2_with fail
  (try simp only [Exit.inBlock, Exit.then])
  refine bodyPost_ret (results_cell_row rfl _ _ (w.heap.size + 2) 48 _ (0, 0) _ rfl (Row4.set RR.out) Tryz.underlying48 rfl (by kernel_rfl)) rfl ?_
  exact TT.out _ _ ⟨r1, o1, rfl, KK.out⟩
end Go.Proofs.YtkmadibfiikleaaGreatDoor

/-
  soft: zero, sign (made by mkmul.py).
-/
namespace Go.Proofs.YtkmadibfiikleaaGreatDoor
open Go Go.RowKit Go.Deep

theorem Ie.sign_two (a b : Int) (a0 : 0 ≤ a) (a1 : a < 18446744073709551616) (b0 : 0 ≤ b) (b1 : b < 18446744073709551616) : bits .and .u64 (bits .xor .u64 a b) 9223372036854775808 = Ie.sb (Ie.ngd a != Ie.ngd b) 0 := by
  obtain ⟨x, rfl⟩ := Int.eq_ofNat_of_zero_le a0
  obtain ⟨y, rfl⟩ := Int.eq_ofNat_of_zero_le b0
  have h := u64_xor_nat x y (by omega) (by omega)
  have hl : x ^^^ y < 2 ^ 64 := Nat.xor_lt_two_pow (by omega) (by omega)
  have hd : (x ^^^ y) / 2 ^ 63 = x / 2 ^ 63 ^^^ y / 2 ^ 63 := Nat.xor_div_two_pow
  rw [show (2 : Nat) ^ 63 = 9223372036854775808 from rfl] at hd
  rw [h]
  have g := Ib.sign_and ((x ^^^ y : Nat) : Int) (by omega) (by omega)
  rw [g]
  rcases (show x / 9223372036854775808 = 0 ∨ x / 9223372036854775808 = 1 by omega) with hx | hx <;> rcases (show y / 9223372036854775808 = 0 ∨ y / 9223372036854775808 = 1 by omega) with hy | hy <;> rw [hx, hy] at hd <;> rw [Ie.ngd, Ie.ngd]
  · rw [decide_eq_false (by omega), decide_eq_false (by omega)]
    have : (x ^^^ y) / 9223372036854775808 = 0 := hd
    simp only [Ie.sb, bne_self_eq_false, Bool.false_eq_true, if_false]; omega
  · rw [decide_eq_false (by omega), decide_eq_true (by omega)]
    have : (x ^^^ y) / 9223372036854775808 = 1 := hd
    simp only [Ie.sb, show (false != true) = true from rfl, if_true]; omega
  · rw [decide_eq_true (by omega), decide_eq_false (by omega)]
    have : (x ^^^ y) / 9223372036854775808 = 1 := hd
    simp only [Ie.sb, show (true != false) = true from rfl, if_true]; omega
  · rw [decide_eq_true (by omega), decide_eq_true (by omega)]
    have : (x ^^^ y) / 9223372036854775808 = 0 := hd
    simp only [Ie.sb, bne_self_eq_false, Bool.false_eq_true, if_false]; omega

theorem Ie.inf_or (n : Bool) : bits .or .u64 9218868437227405312 (Ie.sb n 0) = Ie.sb n 9218868437227405312 := by cases n <;> decide

set_option maxRecDepth 100000 in
theorem zero_any (d : Int) (w : World) (h0 : 0 ≤ d) (h1 : d < 18446744073709551616) :
    Calls Tryz.prog 33 #[.int .u64 d] w fun e w' => e = .returned (.bool (Ie.isz d)) ∧ w' = w := by
  have CL := hid (class_any d w h0 h1)
  have E := hid (Ie.isz_cls d)
  generalize Ie.cls d = c at CL E
  go_enter Tryz.func33, Tryz.ntmps33
  go_wp2_with fail
  refine CL.out.mono ?_
  rintro e w' ⟨rfl, rfl⟩
  go_wp2_with fail
  go_ret
  exact ⟨by rw [E.out]; rfl, rfl⟩

set_option maxRecDepth 100000 in
theorem softSign_any (a b : Int) (w : World) (a0 : 0 ≤ a) (a1 : a < 18446744073709551616) (b0 : 0 ≤ b) (b1 : b < 18446744073709551616) :
    Calls Tryz.prog 34 #[.int .u64 a, .int .u64 b] w fun e w' => e = .returned (.int .u64 (Ie.sb (Ie.ngd a != Ie.ngd b) 0)) ∧ w' = w := by
  have E := Ie.sign_two a b a0 a1 b0 b1
  generalize Ie.sb (Ie.ngd a != Ie.ngd b) 0 = s at E
  go_enter Tryz.func34, Tryz.ntmps34
  go_wp2
  go_ret
  exact ⟨rfl, rfl⟩

namespace Ie
/-- What mul answers. -/
def MulIs (a b r f : Int) : Prop :=
  if isn a = true ∨ isn b = true then r = 9221120237041090560 ∧ f = 0
  else if (isi a = true ∧ isz b = true) ∨ (isz a = true ∧ isi b = true) then r = 9221120237041090560 ∧ f = 1
  else if isi a = true ∨ isi b = true then r = sb (ngd a != ngd b) 9218868437227405312 ∧ f = 0
  else Res (ngd a != ngd b) (dm a * dm b) (de a + de b) false r f

/-- What div answers. -/
def DivIs (a b r f : Int) : Prop :=
  if isn a = true ∨ isn b = true then r = 9221120237041090560 ∧ f = 0
  else if (isi a = true ∧ isi b = true) ∨ (isz a = true ∧ isz b = true) then r = 9221120237041090560 ∧ f = 1
  else if isi a = true then r = sb (ngd a != ngd b) 9218868437227405312 ∧ f = 0
  else if isi b = true then r = sb (ngd a != ngd b) 0 ∧ f = 0
  else if isz b = true then r = sb (ngd a != ngd b) 9218868437227405312 ∧ f = 2
  else Res (ngd a != ngd b) (dm a * 2 ^ 128 / dm b) (de a - 128 - de b) (decide (dm a * 2 ^ 128 % dm b ≠ 0)) r f

theorem not_iz {d : Int} (h : isi d = true) : isz d = false := by
  rw [isi, decide_eq_true_eq] at h
  rw [isz, h]; rfl
end Ie
end Go.Proofs.YtkmadibfiikleaaGreatDoor

/-
  soft: mul (made by mkmul.py).
-/
namespace Go.Proofs.YtkmadibfiikleaaGreatDoor
open Go Go.RowKit Go.Deep

set_option maxRecDepth 100000 in
set_option maxHeartbeats 4000000 in
theorem mul_fin (a b : Int) (w : World) (a0 : 0 ≤ a) (a1 : a < 18446744073709551616) (b0 : 0 ≤ b) (b1 : b < 18446744073709551616) (hT : Tab w) (na : Ie.isn a = false) (ia : Ie.isi a = false) (nb : Ie.isn b = false) (ib : Ie.isi b = false) :
    Calls Tryz.prog 17 #[.int .u64 a, .int .u64 b] w fun e w' => Told2 (Ie.MulIs a b) w e w' := by
  have fa := Ie.fin_of na ia
  have fb := Ie.fin_of nb ib
  have FI : Hid (∀ (r f : Int), Ie.Res (Ie.ngd a != Ie.ngd b) (Ie.dm a * Ie.dm b) (Ie.de a + Ie.de b) false r f → Ie.MulIs a b r f) := by
    intro r f h2
    rw [Ie.MulIs, na, nb, ia, ib]
    simp only [Bool.false_eq_true, or_self, false_and, and_false, if_false]
    exact h2
  have NA := hid (fun (wx : World) => nan_any a wx a0 a1)
  rw [na] at NA
  have NB := hid (fun (wx : World) => nan_any b wx b0 b1)
  rw [nb] at NB
  have IA := hid (fun (wx : World) => infinite_any a wx a0 a1)
  rw [ia] at IA
  have IB := hid (fun (wx : World) => infinite_any b wx b0 b1)
  rw [ib] at IB
  have ZA := hid (fun (wx : World) => zero_any a wx a0 a1)
  have ZB := hid (fun (wx : World) => zero_any b wx b0 b1)
  obtain ⟨⟨da0, da1⟩, ⟨ea0, ea1⟩, -, -⟩ := Ie.dec_f a fa
  obtain ⟨⟨db0, db1⟩, ⟨eb0, eb1⟩, -, dbz⟩ := Ie.dec_f b fb
  have e60 : (2 : Int) ^ 60 = 1152921504606846976 := by decide
  have da2 : Ie.dm a < 2 ^ 60 := by omega
  have db2 : Ie.dm b < 2 ^ 60 := by omega
  have UA := hid (fun (wx : World) => number_any a wx a0 a1 fa)
  have UB := hid (fun (wx : World) => number_any b wx b0 b1 fb)
  have HT := hid hT
  have RU : Hid (∀ (w2 : World) (pa pb : Option Addr) (oa ob : List Int) (B B' : Nat), Ans B w2 pa oa (Ie.dm a) → Ans B' w2 pb ob (Ie.dm b) → Calls Tryz.prog 35 #[exactOf (Ie.ngd a) pa oa.length oa.length (Ie.de a) false, exactOf (Ie.ngd b) pb ob.length ob.length (Ie.de b) false] w2 fun e w' => ∃ p os, e = .returned (exactOf (Ie.ngd a != Ie.ngd b) p (List.length os) (List.length os) (Ie.de a + Ie.de b) false) ∧ Ans w2.heap.size w' p os (Ie.dm a * Ie.dm b) ∧ Below w2.heap.size w2 w') := by
    intro w2 pa pb oa ob B B' A1 A2
    exact times_xany _ _ _ _ _ _ _ _ _ _ oa ob _ _ _ _ w2 (A1.arg (by have := A1.tl da2 (show 60 ≤ 262144 by omega); omega)) (A2.arg (by have := A2.tl db2 (show 60 ≤ 262144 by omega); omega)) A1.2.2.2.1 A2.2.2.2.1 da2 db2 (by omega) (by omega) (by omega) (by omega)
  have vb : Ie.dm a * Ie.dm b < 2 ^ 5000 := by
    have h1 : Ie.dm a * Ie.dm b ≤ Ie.dm a * 2 ^ 60 := Int.mul_le_mul_of_nonneg_left (by omega) da0
    have h2 : Ie.dm a * 2 ^ 60 < 2 ^ 60 * 2 ^ 60 := Int.mul_lt_mul_of_pos_right da2 (Nm.two_pos 60)
    rw [← Nm.two_add] at h2
    have := Nm.two_mono (show 60 + 60 ≤ 5000 by omega)
    omega
  have RO : Hid (∀ (w3 : World) (p : Option Addr) (os : List Int) (B : Nat), Below w.heap.size w w3 → Ans B w3 p os (Ie.dm a * Ie.dm b) → Calls Tryz.prog 29 #[exactOf (Ie.ngd a != Ie.ngd b) p os.length os.length (Ie.de a + Ie.de b) false] w3 fun r w' => RoundedTold (Ie.ngd a != Ie.ngd b) (Ie.dm a * Ie.dm b) (Ie.de a + Ie.de b) false w3 r w') := by
    intro w3 p os B hB A
    exact rounded_any _ _ p _ _ os _ _ w3 (A.arg (by have := A.tl vb (show 5000 ≤ 262144 by omega); omega)) (HT.out.below hB) A.2.2.2.1 A.len0 vb (by omega) (by omega)
  cases hza : Ie.isz a <;> rw [hza] at ZA
  · clear fa fb na nb ia ib hT da0 da1 ea0 ea1 db0 db1 eb0 eb1 dbz e60 da2 db2 vb HT hza
    generalize hV : Ie.dm a * Ie.dm b = V at *
    generalize hE : Ie.de a + Ie.de b = E at *
    clear hV hE
    go_enter Tryz.func17, Tryz.ntmps17
    go_wp2_with fail
    refine (NA.out _).mono ?_
    rintro e wz ⟨rfl, hz⟩
    replace hz := hz.symm
    subst hz
    go_wp2_with fail
    refine (NB.out _).mono ?_
    rintro e wz ⟨rfl, hz⟩
    replace hz := hz.symm
    subst hz
    go_wp2_with fail
    refine (IA.out _).mono ?_
    rintro e wz ⟨rfl, hz⟩
    replace hz := hz.symm
    subst hz
    go_wp2_with fail
    refine (ZA.out _).mono ?_
    rintro e wz ⟨rfl, hz⟩
    replace hz := hz.symm
    subst hz
    go_wp2_with fail
    refine (IA.out _).mono ?_
    rintro e wz ⟨rfl, hz⟩
    replace hz := hz.symm
    subst hz
    go_wp2_with fail
    refine (IB.out _).mono ?_
    rintro e wz ⟨rfl, hz⟩
    replace hz := hz.symm
    subst hz
    go_wp2_with fail
    refine (UA.out _).mono ?_
    rintro e w1 ⟨pa, oa, rfl, A1, hB1⟩
    have H1 := hid (And.intro A1 hB1)
    clear A1 hB1
    simp only [exactOf]
    go_wp2_with fail
    refine (UB.out _).mono ?_
    rintro e w2 ⟨pb, ob, rfl, A2, hB2⟩
    have A1 := H1.out.1.below hB2 (Nat.le_refl _)
    have Bw := H1.out.2.trans (hB2.mono H1.out.2.size)
    have PL := hid (RU.out w2 pa pb oa ob _ _ A1 A2)
    have HB := hid Bw
    simp only [exactOf] at PL ⊢
    clear A1 A2 hB2 Bw H1 RU
    go_wp2_with fail
    refine PL.out.mono ?_
    rintro e w3 ⟨p, os, rfl, A3, hB3⟩
    have Bw := HB.out.trans (hB3.mono HB.out.size)
    have RR := hid (RO.out w3 p os _ Bw A3)
    have HC := hid Bw
    simp only [exactOf] at RR ⊢
    clear A3 hB3 Bw RO PL HB
    go_wp2_with fail
    refine RR.out.mono ?_
    rintro e w4 ⟨d, t, L, rfl, h1, h2, h3, hB4⟩
    have KK : Hid (Told2 (Ie.MulIs a b) w (.returned (.tuple #[.int .u64 (Ie.sg (Ie.ngd a != Ie.ngd b) d), .int .i64 (Ie.flg V E false (Ie.sg (Ie.ngd a != Ie.ngd b) d) t L)])) w4) :=
      ⟨_, _, rfl, FI.out _ _ ⟨d, t, L, rfl, rfl, h1, h2, h3⟩, HC.out.trans (hB4.mono HC.out.size)⟩
    clear h1 h2 h3 hB4 HC RR FI
    go_wp2_with fail
    go_ret2
    exact KK.out
  · clear fa fb na nb ia ib hT da0 da1 ea0 ea1 db0 db1 eb0 eb1 dbz e60 da2 db2 vb HT hza
    generalize hV : Ie.dm a * Ie.dm b = V at *
    generalize hE : Ie.de a + Ie.de b = E at *
    clear hV hE
    go_enter Tryz.func17, Tryz.ntmps17
    go_wp2_with fail
    refine (NA.out _).mono ?_
    rintro e wz ⟨rfl, hz⟩
    replace hz := hz.symm
    subst hz
    go_wp2_with fail
    refine (NB.out _).mono ?_
    rintro e wz ⟨rfl, hz⟩
    replace hz := hz.symm
    subst hz
    go_wp2_with fail
    refine (IA.out _).mono ?_
    rintro e wz ⟨rfl, hz⟩
    replace hz := hz.symm
    subst hz
    go_wp2_with fail
    refine (ZA.out _).mono ?_
    rintro e wz ⟨rfl, hz⟩
    replace hz := hz.symm
    subst hz
    go_wp2_with fail
    refine (IB.out _).mono ?_
    rintro e wz ⟨rfl, hz⟩
    replace hz := hz.symm
    subst hz
    go_wp2_with fail
    refine (IA.out _).mono ?_
    rintro e wz ⟨rfl, hz⟩
    replace hz := hz.symm
    subst hz
    go_wp2_with fail
    refine (IB.out _).mono ?_
    rintro e wz ⟨rfl, hz⟩
    replace hz := hz.symm
    subst hz
    go_wp2_with fail
    refine (UA.out _).mono ?_
    rintro e w1 ⟨pa, oa, rfl, A1, hB1⟩
    have H1 := hid (And.intro A1 hB1)
    clear A1 hB1
    simp only [exactOf]
    go_wp2_with fail
    refine (UB.out _).mono ?_
    rintro e w2 ⟨pb, ob, rfl, A2, hB2⟩
    have A1 := H1.out.1.below hB2 (Nat.le_refl _)
    have Bw := H1.out.2.trans (hB2.mono H1.out.2.size)
    have PL := hid (RU.out w2 pa pb oa ob _ _ A1 A2)
    have HB := hid Bw
    simp only [exactOf] at PL ⊢
    clear A1 A2 hB2 Bw H1 RU
    go_wp2_with fail
    refine PL.out.mono ?_
    rintro e w3 ⟨p, os, rfl, A3, hB3⟩
    have Bw := HB.out.trans (hB3.mono HB.out.size)
    have RR := hid (RO.out w3 p os _ Bw A3)
    have HC := hid Bw
    simp only [exactOf] at RR ⊢
    clear A3 hB3 Bw RO PL HB
    go_wp2_with fail
    refine RR.out.mono ?_
    rintro e w4 ⟨d, t, L, rfl, h1, h2, h3, hB4⟩
    have KK : Hid (Told2 (Ie.MulIs a b) w (.returned (.tuple #[.int .u64 (Ie.sg (Ie.ngd a != Ie.ngd b) d), .int .i64 (Ie.flg V E false (Ie.sg (Ie.ngd a != Ie.ngd b) d) t L)])) w4) :=
      ⟨_, _, rfl, FI.out _ _ ⟨d, t, L, rfl, rfl, h1, h2, h3⟩, HC.out.trans (hB4.mono HC.out.size)⟩
    clear h1 h2 h3 hB4 HC RR FI
    go_wp2_with fail
    go_ret2
    exact KK.out

set_option maxRecDepth 100000 in
set_option maxHeartbeats 4000000 in
theorem mul_any (a b : Int) (w : World) (a0 : 0 ≤ a) (a1 : a < 18446744073709551616) (b0 : 0 ≤ b) (b1 : b < 18446744073709551616) (hT : Tab w) :
    Calls Tryz.prog 17 #[.int .u64 a, .int .u64 b] w fun e w' => Told2 (Ie.MulIs a b) w e w' := by
  have NA := hid (fun (wx : World) => nan_any a wx a0 a1)
  have NB := hid (fun (wx : World) => nan_any b wx b0 b1)
  have IA := hid (fun (wx : World) => infinite_any a wx a0 a1)
  have IB := hid (fun (wx : World) => infinite_any b wx b0 b1)
  have ZA := hid (fun (wx : World) => zero_any a wx a0 a1)
  have ZB := hid (fun (wx : World) => zero_any b wx b0 b1)
  have SG := hid (fun (wx : World) => softSign_any a b wx a0 a1 b0 b1)
  have OR := Ie.inf_or (Ie.ngd a != Ie.ngd b)
  have KK : Hid (∀ (e : Ending) (r f : Int), e = .returned (.tuple #[.int .u64 r, .int .i64 f]) → Ie.MulIs a b r f → Told2 (Ie.MulIs a b) w e w) := fun e r f h1 h2 => ⟨r, f, h1, h2, Below.refl _ _⟩
  cases na : Ie.isn a
  · cases nb : Ie.isn b
    · cases ia : Ie.isi a
      · cases ib : Ie.isi b
        · skip
          cases za : Ie.isz a
          · skip
            cases zb : Ie.isz b
            · skip
              exact mul_fin a b w a0 a1 b0 b1 hT na ia nb ib
            · skip
              exact mul_fin a b w a0 a1 b0 b1 hT na ia nb ib
          · skip
            cases zb : Ie.isz b
            · skip
              exact mul_fin a b w a0 a1 b0 b1 hT na ia nb ib
            · skip
              exact mul_fin a b w a0 a1 b0 b1 hT na ia nb ib
        · skip
          cases za : Ie.isz a
          · skip
            have zb := Ie.not_iz ib
            have SP : Hid (Ie.MulIs a b (Ie.sb (Ie.ngd a != Ie.ngd b) 9218868437227405312) 0) := by rw [Hid, Ie.MulIs, na, nb, ia, ib, za, zb]; simp
            rw [na] at NA
            rw [nb] at NB
            rw [ia] at IA
            rw [ib] at IB
            rw [za] at ZA
            rw [zb] at ZB
            clear na nb ia ib hT za zb
            generalize hI : Ie.sb (Ie.ngd a != Ie.ngd b) 9218868437227405312 = sI at *
            generalize hO : Ie.sb (Ie.ngd a != Ie.ngd b) 0 = sO at *
            clear hI hO
            go_enter Tryz.func17, Tryz.ntmps17
            go_wp2_with fail
            refine (NA.out _).mono ?_
            rintro e wz ⟨rfl, hz⟩
            replace hz := hz.symm
            subst hz
            go_wp2_with fail
            refine (NB.out _).mono ?_
            rintro e wz ⟨rfl, hz⟩
            replace hz := hz.symm
            subst hz
            go_wp2_with fail
            refine (IA.out _).mono ?_
            rintro e wz ⟨rfl, hz⟩
            replace hz := hz.symm
            subst hz
            go_wp2_with fail
            refine (ZA.out _).mono ?_
            rintro e wz ⟨rfl, hz⟩
            replace hz := hz.symm
            subst hz
            go_wp2_with fail
            refine (IA.out _).mono ?_
            rintro e wz ⟨rfl, hz⟩
            replace hz := hz.symm
            subst hz
            go_wp2_with fail
            refine (IB.out _).mono ?_
            rintro e wz ⟨rfl, hz⟩
            replace hz := hz.symm
            subst hz
            go_wp2_with fail
            refine (SG.out _).mono ?_
            rintro e wz ⟨rfl, hz⟩
            replace hz := hz.symm
            subst hz
            go_wp2_with fail
            go_ret2
            exact KK.out _ _ _ rfl SP.out
          · skip
            have zb := Ie.not_iz ib
            have SP : Hid (Ie.MulIs a b 9221120237041090560 1) := by rw [Hid, Ie.MulIs, na, nb, ia, ib, za, zb]; simp
            rw [na] at NA
            rw [nb] at NB
            rw [ia] at IA
            rw [ib] at IB
            rw [za] at ZA
            rw [zb] at ZB
            clear na nb ia ib hT za zb
            go_enter Tryz.func17, Tryz.ntmps17
            go_wp2_with fail
            refine (NA.out _).mono ?_
            rintro e wz ⟨rfl, hz⟩
            replace hz := hz.symm
            subst hz
            go_wp2_with fail
            refine (NB.out _).mono ?_
            rintro e wz ⟨rfl, hz⟩
            replace hz := hz.symm
            subst hz
            go_wp2_with fail
            refine (IA.out _).mono ?_
            rintro e wz ⟨rfl, hz⟩
            replace hz := hz.symm
            subst hz
            go_wp2_with fail
            refine (ZA.out _).mono ?_
            rintro e wz ⟨rfl, hz⟩
            replace hz := hz.symm
            subst hz
            go_wp2_with fail
            refine (IB.out _).mono ?_
            rintro e wz ⟨rfl, hz⟩
            replace hz := hz.symm
            subst hz
            go_wp2_with fail
            go_ret2
            exact KK.out _ _ _ rfl SP.out
      · cases ib : Ie.isi b
        · skip
          have za := Ie.not_iz ia
          cases zb : Ie.isz b
          · skip
            have SP : Hid (Ie.MulIs a b (Ie.sb (Ie.ngd a != Ie.ngd b) 9218868437227405312) 0) := by rw [Hid, Ie.MulIs, na, nb, ia, ib, za, zb]; simp
            rw [na] at NA
            rw [nb] at NB
            rw [ia] at IA
            rw [ib] at IB
            rw [za] at ZA
            rw [zb] at ZB
            clear na nb ia ib hT za zb
            generalize hI : Ie.sb (Ie.ngd a != Ie.ngd b) 9218868437227405312 = sI at *
            generalize hO : Ie.sb (Ie.ngd a != Ie.ngd b) 0 = sO at *
            clear hI hO
            go_enter Tryz.func17, Tryz.ntmps17
            go_wp2_with fail
            refine (NA.out _).mono ?_
            rintro e wz ⟨rfl, hz⟩
            replace hz := hz.symm
            subst hz
            go_wp2_with fail
            refine (NB.out _).mono ?_
            rintro e wz ⟨rfl, hz⟩
            replace hz := hz.symm
            subst hz
            go_wp2_with fail
            refine (IA.out _).mono ?_
            rintro e wz ⟨rfl, hz⟩
            replace hz := hz.symm
            subst hz
            go_wp2_with fail
            refine (ZB.out _).mono ?_
            rintro e wz ⟨rfl, hz⟩
            replace hz := hz.symm
            subst hz
            go_wp2_with fail
            refine (ZA.out _).mono ?_
            rintro e wz ⟨rfl, hz⟩
            replace hz := hz.symm
            subst hz
            go_wp2_with fail
            refine (IA.out _).mono ?_
            rintro e wz ⟨rfl, hz⟩
            replace hz := hz.symm
            subst hz
            go_wp2_with fail
            refine (SG.out _).mono ?_
            rintro e wz ⟨rfl, hz⟩
            replace hz := hz.symm
            subst hz
            go_wp2_with fail
            go_ret2
            exact KK.out _ _ _ rfl SP.out
          · skip
            have SP : Hid (Ie.MulIs a b 9221120237041090560 1) := by rw [Hid, Ie.MulIs, na, nb, ia, ib, za, zb]; simp
            rw [na] at NA
            rw [nb] at NB
            rw [ia] at IA
            rw [ib] at IB
            rw [za] at ZA
            rw [zb] at ZB
            clear na nb ia ib hT za zb
            go_enter Tryz.func17, Tryz.ntmps17
            go_wp2_with fail
            refine (NA.out _).mono ?_
            rintro e wz ⟨rfl, hz⟩
            replace hz := hz.symm
            subst hz
            go_wp2_with fail
            refine (NB.out _).mono ?_
            rintro e wz ⟨rfl, hz⟩
            replace hz := hz.symm
            subst hz
            go_wp2_with fail
            refine (IA.out _).mono ?_
            rintro e wz ⟨rfl, hz⟩
            replace hz := hz.symm
            subst hz
            go_wp2_with fail
            refine (ZB.out _).mono ?_
            rintro e wz ⟨rfl, hz⟩
            replace hz := hz.symm
            subst hz
            go_wp2_with fail
            go_ret2
            exact KK.out _ _ _ rfl SP.out
        · skip
          have za := Ie.not_iz ia
          have zb := Ie.not_iz ib
          have SP : Hid (Ie.MulIs a b (Ie.sb (Ie.ngd a != Ie.ngd b) 9218868437227405312) 0) := by rw [Hid, Ie.MulIs, na, nb, ia, ib, za, zb]; simp
          rw [na] at NA
          rw [nb] at NB
          rw [ia] at IA
          rw [ib] at IB
          rw [za] at ZA
          rw [zb] at ZB
          clear na nb ia ib hT za zb
          generalize hI : Ie.sb (Ie.ngd a != Ie.ngd b) 9218868437227405312 = sI at *
          generalize hO : Ie.sb (Ie.ngd a != Ie.ngd b) 0 = sO at *
          clear hI hO
          go_enter Tryz.func17, Tryz.ntmps17
          go_wp2_with fail
          refine (NA.out _).mono ?_
          rintro e wz ⟨rfl, hz⟩
          replace hz := hz.symm
          subst hz
          go_wp2_with fail
          refine (NB.out _).mono ?_
          rintro e wz ⟨rfl, hz⟩
          replace hz := hz.symm
          subst hz
          go_wp2_with fail
          refine (IA.out _).mono ?_
          rintro e wz ⟨rfl, hz⟩
          replace hz := hz.symm
          subst hz
          go_wp2_with fail
          refine (ZB.out _).mono ?_
          rintro e wz ⟨rfl, hz⟩
          replace hz := hz.symm
          subst hz
          go_wp2_with fail
          refine (ZA.out _).mono ?_
          rintro e wz ⟨rfl, hz⟩
          replace hz := hz.symm
          subst hz
          go_wp2_with fail
          refine (IA.out _).mono ?_
          rintro e wz ⟨rfl, hz⟩
          replace hz := hz.symm
          subst hz
          go_wp2_with fail
          refine (SG.out _).mono ?_
          rintro e wz ⟨rfl, hz⟩
          replace hz := hz.symm
          subst hz
          go_wp2_with fail
          go_ret2
          exact KK.out _ _ _ rfl SP.out
    · have SP : Hid (Ie.MulIs a b 9221120237041090560 0) := by rw [Hid, Ie.MulIs, na, nb]; simp
      rw [na] at NA
      rw [nb] at NB
      clear na nb hT
      go_enter Tryz.func17, Tryz.ntmps17
      go_wp2_with fail
      refine (NA.out _).mono ?_
      rintro e wz ⟨rfl, hz⟩
      replace hz := hz.symm
      subst hz
      go_wp2_with fail
      refine (NB.out _).mono ?_
      rintro e wz ⟨rfl, hz⟩
      replace hz := hz.symm
      subst hz
      go_wp2_with fail
      go_ret2
      exact KK.out _ _ _ rfl SP.out
  · have SP : Hid (Ie.MulIs a b 9221120237041090560 0) := by rw [Hid, Ie.MulIs, na]; simp
    rw [na] at NA
    clear na hT
    go_enter Tryz.func17, Tryz.ntmps17
    go_wp2_with fail
    refine (NA.out _).mono ?_
    rintro e wz ⟨rfl, hz⟩
    replace hz := hz.symm
    subst hz
    go_wp2_with fail
    go_ret2
    exact KK.out _ _ _ rfl SP.out

end Go.Proofs.YtkmadibfiikleaaGreatDoor

/-
  What mul and div answer of finite doubles, as rounded fractions.
-/
namespace Go.Proofs.YtkmadibfiikleaaGreatDoor
namespace Ie

theorem MulIs.get {a b r f : Int} (fa : fin a) (fb : fin b) (h : MulIs a b r f) : Res (ngd a != ngd b) (dm a * dm b) (de a + de b) false r f := by
  rw [MulIs, (fin_not fa).1, (fin_not fa).2, (fin_not fb).1, (fin_not fb).2] at h
  simp only [Bool.false_eq_true, or_self, false_and, and_false, if_false] at h
  exact h

theorem prod_at {a b : Int} (fa : fin a) (fb : fin b) (k : Nat) (hk : (k : Int) = de a + de b + 2148) : dm a * dm b * 2 ^ k = un (ab a) * un (ab b) := by
  obtain ⟨_, ⟨ea0, ea1⟩, ga, _⟩ := dec_f a fa
  obtain ⟨_, ⟨eb0, eb1⟩, gb, _⟩ := dec_f b fb
  obtain ⟨ka, hka⟩ : ∃ k : Nat, (k : Int) = de a + 1074 := ⟨(de a + 1074).toNat, by omega⟩
  obtain ⟨kb, hkb⟩ : ∃ k : Nat, (k : Int) = de b + 1074 := ⟨(de b + 1074).toNat, by omega⟩
  rw [← ga ka hka, ← gb kb hkb, show k = ka + kb by omega, Nm.two_add]
  ac_rfl

theorem uv_mul (a b : Int) : uv a * uv b = sn (ngd a != ngd b) (un (ab a) * un (ab b)) := sn_mul _ _ _ _

theorem MulIs.rs {a b r f : Int} (fa : fin a) (fb : fin b) (h : MulIs a b r f) : RS (uv a * uv b) (2 ^ 1074) (ngd a != ngd b) r := by
  obtain ⟨x, t, L, rfl, -, hR, -, -⟩ := h.get fa fb
  obtain ⟨⟨da0, _⟩, ⟨ea0, ea1⟩, _, _⟩ := dec_f a fa
  obtain ⟨⟨db0, _⟩, ⟨eb0, eb1⟩, _, _⟩ := dec_f b fb
  obtain ⟨c, hc⟩ : ∃ k : Nat, (k : Int) = de a + de b + 2148 := ⟨(de a + de b + 2148).toNat, by omega⟩
  exact rs_of hR (Int.mul_nonneg da0 db0) c 1074 (by omega) (by rw [prod_at fa fb c hc]; exact uv_mul a b) rfl (fun _ => rfl)
end Ie
end Go.Proofs.YtkmadibfiikleaaGreatDoor

/-
  soft: plus.
-/
namespace Go.Proofs.YtkmadibfiikleaaGreatDoor
open Go Go.RowKit Go.Deep

set_option maxRecDepth 100000 in
set_option maxHeartbeats 8000000 in
theorem plus_at (n1 n2 m1 m2 : Bool) (p1 p2 : Option Addr) (l1 c1 l2 c2 : Nat) (z1 z2 : List Int) (e1 e2 V1 V2 : Int) (w : World) (a1 : Arg w p1 l1 c1 z1) (a2 : Arg w p2 l2 c2 z2) (hV1 : Nm.val z1 = V1) (hV2 : Nm.val z2 = V2) (b1 : V1 < 2 ^ 200) (b2 : V2 < 2 ^ 200)
    (q1 : -2200 ≤ e1) (q2 : e1 ≤ 2000) (q3 : -2200 ≤ e2) (q4 : e2 ≤ 2000) (m : Int) (k1 k2 : Nat) (hm : min e1 e2 = m) (hk1 : (k1 : Int) = e1 - m) (hk2 : (k2 : Int) = e2 - m) :
    Calls Tryz.prog 28 #[exactOf n1 p1 l1 c1 e1 m1, exactOf n2 p2 l2 c2 e2 m2] w fun e w' => PlusTold n1 V1 e1 n2 V2 e2 w e w' := by
  have kk : k1 ≤ 4200 ∧ k2 ≤ 4200 := by omega
  have v1 : 0 ≤ V1 := by rw [← hV1]; exact (Nm.val_bd z1 a1.2.2.2.2).1
  have v2 : 0 ≤ V2 := by rw [← hV2]; exact (Nm.val_bd z2 a2.2.2.2.2).1
  have u1 := Ie.up_lt b1 kk.1
  have u2 := Ie.up_lt b2 kk.2
  have x1 : 0 ≤ V1 * 2 ^ k1 := Int.mul_nonneg v1 (by have := Nm.two_pos k1; omega)
  have x2 : 0 ≤ V2 * 2 ^ k2 := Int.mul_nonneg v2 (by have := Nm.two_pos k2; omega)
  have e4096 := pw_4096
  have big := Nm.two_mono (show 4401 ≤ 262144 by omega)
  have two : (2 : Int) ^ 4401 = 2 * 2 ^ 4400 := Nm.two_succ 4400
  have five := Nm.two_mono (show 4401 ≤ 5000 by omega)
  have t1 : Nm.tsize z1 ≤ 4096 := (Nm.tsize_le_iff a1.2.2.2.2 4096).2 (by rw [hV1]; have := Nm.two_mono (show 200 ≤ 4400 by omega); omega)
  have t2 : Nm.tsize z2 ≤ 4096 := (Nm.tsize_le_iff a2.2.2.2.2 4096).2 (by rw [hV2]; have := Nm.two_mono (show 200 ≤ 4400 by omega); omega)
  have S1 : Hid (∀ (wx : World) (d : Int), Below w.heap.size w wx → d = e1 - m → Calls Tryz.prog 44 #[.slice p1 l1 c1, .int .i64 d] wx fun e w' => ∃ r os, e = .returned (.tuple #[.slice r (List.length os) (List.length os), .int .i64 0]) ∧ Ans wx.heap.size w' r os (V1 * 2 ^ k1) ∧ Below wx.heap.size wx w') := by
    intro wx d hx hd
    have := shl_any p1 l1 c1 z1 d k1 wx (a1.below hx (Nat.le_refl _)) t1 (by omega) (by rw [hV1]; omega)
    rw [hV1] at this
    exact this
  have S2 : Hid (∀ (wx : World) (d : Int), Below w.heap.size w wx → d = e2 - m → Calls Tryz.prog 44 #[.slice p2 l2 c2, .int .i64 d] wx fun e w' => ∃ r os, e = .returned (.tuple #[.slice r (List.length os) (List.length os), .int .i64 0]) ∧ Ans wx.heap.size w' r os (V2 * 2 ^ k2) ∧ Below wx.heap.size wx w') := by
    intro wx d hx hd
    have := shl_any p2 l2 c2 z2 d k2 wx (a2.below hx (Nat.le_refl _)) t2 (by omega) (by rw [hV2]; omega)
    rw [hV2] at this
    exact this
  have FIN : Hid (∀ (w3 : World) (neg : Bool) (p : Option Addr) (os : List Int) (V x : Int) (x0 x1 x2 x3 y0 y1 y2 y3 : Value), Box w w3 x0 x1 x2 x3 y0 y1 y2 y3 → Ans (w.heap.size + 3) w3 p os V → Ie.SumIs n1 V1 e1 n2 V2 e2 neg V x →
      PlusTold n1 V1 e1 n2 V2 e2 w (.returned (exactOf neg p (List.length os) (List.length os) x false)) ((((w3.setCell ⟨w.heap.size + 2, 0, none⟩ (.bool neg)).setCell ⟨w.heap.size + 2, 1, none⟩ (.slice p os.length os.length)).setCell ⟨w.heap.size + 2, 2, none⟩ (.int .i64 x)).setCell ⟨w.heap.size + 2, 3, none⟩ (.bool false))) := by
    intro w3 neg p os V x x0 x1 x2 x3 y0 y1 y2 y3 hb A hS
    have A' := A.set4 (b := w.heap.size + 2) (u0 := .bool neg) (u1 := .slice p os.length os.length) (u2 := .int .i64 x) (u3 := .bool false) (by omega)
    exact ⟨neg, p, os, V, x, rfl, ⟨A'.1, A'.2.1, A'.2.2.1, A'.2.2.2.1, fun a h => by have := A'.2.2.2.2 a h; omega⟩, set4_below hb.2.1 (by omega), hS⟩
  have B0 := Box.new w (.bool n1) (.slice p1 l1 c1) (.int .i64 e1) (.bool m1) (.bool n2) (.slice p2 l2 c2) (.int .i64 e2) (.bool m2)
  have SA : Hid (∀ (neg : Bool) (V : Int), Ie.sn neg V = Ie.sn n1 (V1 * 2 ^ k1) + Ie.sn n2 (V2 * 2 ^ k2) → (V = 0 → neg = (n1 && n2)) → 0 ≤ V → V < 2 ^ 5000 → Ie.SumIs n1 V1 e1 n2 V2 e2 neg V m) := fun neg V h h0 h1 h2 => Ie.sum_at hm hk1 hk2 h h0 h1 h2
  have SN : Hid (n1 ≠ n2 → V1 * 2 ^ k1 = V2 * 2 ^ k2 → Ie.SumIs n1 V1 e1 n2 V2 e2 false 0 0) := fun h h' => Ie.sum_none hm hk1 hk2 h h'
  have U1 := hid u1
  have U2 := hid u2
  have BG : Hid ((V1 * 2 ^ k1 + V2 * 2 ^ k2 < Nm.pw 4096 ∧ V1 * 2 ^ k1 + V2 * 2 ^ k2 < 2 ^ 5000) ∧ (V1 * 2 ^ k1 < 2 ^ 5000 ∧ V2 * 2 ^ k2 < 2 ^ 5000)) := by
    have e : (2 : Int) ^ (200 + 4200) = 2 ^ 4400 := rfl
    rw [e] at u1 u2
    refine ⟨⟨?_, ?_⟩, ?_, ?_⟩ <;> omega
  clear hV1 hV2 b1 b2 a1 a2 v1 v2 kk u1 u2 big two five t1 t2 e4096 hk1 hk2
  generalize hX1 : V1 * 2 ^ k1 = X1 at *
  generalize hX2 : V2 * 2 ^ k2 = X2 at *
  clear hX1 hX2
  simp only [exactOf]
  by_cases hn : n1 = n2
  · subst hn
    have nn : (n1 == n1) = true := by simp
    go_enter Tryz.func28, Tryz.ntmps28
    go_wp2_with fail
    refine (S1.out _ _ B0.2.1 (by omega)).mono ?_
    rintro e wa ⟨r1, o1, rfl, A1, hB1⟩
    have Ba := B0.on hB1
    obtain ⟨⟨cx0, cx1, cx2⟩, ⟨cy0, cy1, cy2⟩, -⟩ := Ba.cells
    have s0 := B0.2.2
    have AA := hid A1
    clear hB1 A1 S1
    go_wp2_with fail
    refine (S2.out _ _ Ba.2.1 (by omega)).mono ?_
    rintro e wb ⟨r2, o2, rfl, A2, hB2⟩
    have Bb := Ba.on hB2
    have A1 := AA.out.below hB2 (Nat.le_refl _)
    have sa := Ba.2.2
    obtain ⟨⟨h1, h2⟩, h3, h4⟩ := BG.out
    obtain ⟨t1, l1', y1⟩ := A1.tl U1.out (by omega)
    obtain ⟨t2, l2', y2⟩ := A2.tl U2.out (by omega)
    clear cx0 cx1 cx2 cy0 cy1 cy2
    obtain ⟨⟨cx0, cx1, cx2⟩, ⟨cy0, cy1, cy2⟩, -⟩ := Bb.cells
    have g1 := A1.arg (by omega)
    have g2 := A2.arg (by omega)
    have CC := hid (add_ok r1 r2 _ _ _ _ o1 o2 wb g1 g2 (by rw [A1.2.2.2.1, A2.2.2.2.1]; omega))
    rw [A1.2.2.2.1, A2.2.2.2.1] at CC
    have HH := hid (And.intro h2 (And.intro h3 h4))
    have BB := hid Bb
    have SS := hid (And.intro s0 sa)
    clear S2 hB2 A1 A2 AA Ba Bb U1 U2 BG t1 t2 l1' l2' y1 y2 g1 g2 h1 h2 h3 h4 s0 sa B0
    go_wp2_with fail
    refine CC.out.mono ?_
    rintro e wc ⟨r3, o3, rfl, A3, hB3⟩
    have Bc := BB.out.on hB3
    have KF := FIN.out wc n1 r3 o3 (X1 + X2) m _ _ _ _ _ _ _ _ Bc ⟨A3.1, A3.2.1, A3.2.2.1, A3.2.2.2.1, fun a h => by have := A3.2.2.2.2 a h; have := BB.out.2.2; omega⟩ (SA.out n1 (X1 + X2) (by cases n1 <;> simp only [Ie.sn, Bool.false_eq_true, if_true, if_false] <;> omega) (fun _ => by simp) (by omega) HH.out.1)
    clear A3 hB3 CC BB cx0 cx1 cx2 cy0 cy1 cy2
    obtain ⟨⟨cx0, cx1, cx2⟩, ⟨cy0, cy1, cy2⟩, ⟨⟨r0, r1', r2', r3⟩, ⟨f0, f1, f2, f3⟩⟩⟩ := Bc.cells
    have RR := hid Bc.1.2.2
    have KK := hid KF
    clear Bc KF
    go_wp2_with fail
    (try simp only [Exit.inBlock, Exit.then])
    refine bodyPost_ret (results_cell_row rfl _ _ (w.heap.size + 2) 48 _ (0, 0) _ rfl (Row4.set RR.out) Tryz.underlying48 rfl (by kernel_rfl)) rfl ?_
    exact KK.out
  · have nn : (n1 == n2) = false := by rw [beq_eq_false_iff_ne]; exact hn
    rcases (show X2 < X1 ∨ X1 < X2 ∨ X1 = X2 by omega) with ho | ho | ho
    · have CI : cmpI X1 X2 = 1 := cmpI_gt ho
      go_enter Tryz.func28, Tryz.ntmps28
      go_wp2_with fail
      refine (S1.out _ _ B0.2.1 (by omega)).mono ?_
      rintro e wa ⟨r1, o1, rfl, A1, hB1⟩
      have Ba := B0.on hB1
      obtain ⟨⟨cx0, cx1, cx2⟩, ⟨cy0, cy1, cy2⟩, -⟩ := Ba.cells
      have s0 := B0.2.2
      have AA := hid A1
      clear hB1 A1 S1
      go_wp2_with fail
      refine (S2.out _ _ Ba.2.1 (by omega)).mono ?_
      rintro e wb ⟨r2, o2, rfl, A2, hB2⟩
      have Bb := Ba.on hB2
      have A1 := AA.out.below hB2 (Nat.le_refl _)
      have sa := Ba.2.2
      obtain ⟨⟨h1, h2⟩, h3, h4⟩ := BG.out
      obtain ⟨t1, l1', y1⟩ := A1.tl U1.out (by omega)
      obtain ⟨t2, l2', y2⟩ := A2.tl U2.out (by omega)
      clear cx0 cx1 cx2 cy0 cy1 cy2
      obtain ⟨⟨cx0, cx1, cx2⟩, ⟨cy0, cy1, cy2⟩, -⟩ := Bb.cells
      have g1 := A1.arg (by omega)
      have g2 := A2.arg (by omega)
      have C0 := hid (cmp_is (cmpI X1 X2) r1 r2 _ _ _ _ o1 o2 wb g1 g2 (by rw [A1.2.2.2.1, A2.2.2.2.1]))
      rw [CI] at C0
      have CC := hid (fun (wx : World) (hx : Below wb.heap.size wb wx) => sub_ok r1 r2 _ _ _ _ o1 o2 wx (g1.below hx (Nat.le_refl _)) (g2.below hx (Nat.le_refl _)) t1 (by rw [A1.2.2.2.1, A2.2.2.2.1]; omega))
      rw [A1.2.2.2.1, A2.2.2.2.1] at CC
      have HH := hid (And.intro h2 (And.intro h3 h4))
      have BB := hid Bb
      have SS := hid (And.intro s0 sa)
      clear S2 hB2 A1 A2 AA Ba Bb U1 U2 BG t1 t2 l1' l2' y1 y2 g1 g2 h1 h2 h3 h4 s0 sa B0 CI
      go_wp2_with fail
      refine C0.out.mono ?_
      rintro e wz ⟨rfl, hBz⟩
      have Bz := BB.out.on hBz
      have C1 := hid (CC.out wz hBz)
      have ZZ := hid Bz
      clear CC hBz Bz BB cx0 cx1 cx2 cy0 cy1 cy2
      go_wp2_with fail
      refine C1.out.mono ?_
      rintro e wc ⟨r3, o3, rfl, A3, hB3⟩
      have Bc := ZZ.out.on hB3
      have KF := FIN.out wc n1 r3 o3 (X1 - X2) m _ _ _ _ _ _ _ _ Bc ⟨A3.1, A3.2.1, A3.2.2.1, A3.2.2.2.1, fun a h => by have := A3.2.2.2.2 a h; have := ZZ.out.2.2; omega⟩ (SA.out n1 (X1 - X2) (by cases n1 <;> cases n2 <;> simp only [Ie.sn, Bool.false_eq_true, if_true, if_false] <;> first | exact absurd rfl hn | omega) (fun h => by omega) (by omega) (by have := HH.out; omega))
      clear A3 hB3 C1 ZZ C0
      obtain ⟨⟨cx0, cx1, cx2⟩, ⟨cy0, cy1, cy2⟩, ⟨⟨r0, r1', r2', r3⟩, ⟨f0, f1, f2, f3⟩⟩⟩ := Bc.cells
      have RR := hid Bc.1.2.2
      have KK := hid KF
      clear Bc KF
      go_wp2_with fail
      (try simp only [Exit.inBlock, Exit.then])
      refine bodyPost_ret (results_cell_row rfl _ _ (w.heap.size + 2) 48 _ (0, 0) _ rfl (Row4.set RR.out) Tryz.underlying48 rfl (by kernel_rfl)) rfl ?_
      exact KK.out
    · have CI : cmpI X1 X2 = -1 := cmpI_lt ho
      go_enter Tryz.func28, Tryz.ntmps28
      go_wp2_with fail
      refine (S1.out _ _ B0.2.1 (by omega)).mono ?_
      rintro e wa ⟨r1, o1, rfl, A1, hB1⟩
      have Ba := B0.on hB1
      obtain ⟨⟨cx0, cx1, cx2⟩, ⟨cy0, cy1, cy2⟩, -⟩ := Ba.cells
      have s0 := B0.2.2
      have AA := hid A1
      clear hB1 A1 S1
      go_wp2_with fail
      refine (S2.out _ _ Ba.2.1 (by omega)).mono ?_
      rintro e wb ⟨r2, o2, rfl, A2, hB2⟩
      have Bb := Ba.on hB2
      have A1 := AA.out.below hB2 (Nat.le_refl _)
      have sa := Ba.2.2
      obtain ⟨⟨h1, h2⟩, h3, h4⟩ := BG.out
      obtain ⟨t1, l1', y1⟩ := A1.tl U1.out (by omega)
      obtain ⟨t2, l2', y2⟩ := A2.tl U2.out (by omega)
      clear cx0 cx1 cx2 cy0 cy1 cy2
      obtain ⟨⟨cx0, cx1, cx2⟩, ⟨cy0, cy1, cy2⟩, -⟩ := Bb.cells
      have g1 := A1.arg (by omega)
      have g2 := A2.arg (by omega)
      have C0 := hid (cmp_is (cmpI X1 X2) r1 r2 _ _ _ _ o1 o2 wb g1 g2 (by rw [A1.2.2.2.1, A2.2.2.2.1]))
      rw [CI] at C0
      have CC := hid (fun (wx : World) (hx : Below wb.heap.size wb wx) => sub_ok r2 r1 _ _ _ _ o2 o1 wx (g2.below hx (Nat.le_refl _)) (g1.below hx (Nat.le_refl _)) t2 (by rw [A1.2.2.2.1, A2.2.2.2.1]; omega))
      rw [A1.2.2.2.1, A2.2.2.2.1] at CC
      have HH := hid (And.intro h2 (And.intro h3 h4))
      have BB := hid Bb
      have SS := hid (And.intro s0 sa)
      clear S2 hB2 A1 A2 AA Ba Bb U1 U2 BG t1 t2 l1' l2' y1 y2 g1 g2 h1 h2 h3 h4 s0 sa B0 CI
      go_wp2_with fail
      refine C0.out.mono ?_
      rintro e wz ⟨rfl, hBz⟩
      have Bz := BB.out.on hBz
      have C1 := hid (CC.out wz hBz)
      have ZZ := hid Bz
      clear CC hBz Bz BB cx0 cx1 cx2 cy0 cy1 cy2
      go_wp2_with fail
      refine C1.out.mono ?_
      rintro e wc ⟨r3, o3, rfl, A3, hB3⟩
      have Bc := ZZ.out.on hB3
      have KF := FIN.out wc n2 r3 o3 (X2 - X1) m _ _ _ _ _ _ _ _ Bc ⟨A3.1, A3.2.1, A3.2.2.1, A3.2.2.2.1, fun a h => by have := A3.2.2.2.2 a h; have := ZZ.out.2.2; omega⟩ (SA.out n2 (X2 - X1) (by cases n1 <;> cases n2 <;> simp only [Ie.sn, Bool.false_eq_true, if_true, if_false] <;> first | exact absurd rfl hn | omega) (fun h => by omega) (by omega) (by have := HH.out; omega))
      clear A3 hB3 C1 ZZ C0
      obtain ⟨⟨cx0, cx1, cx2⟩, ⟨cy0, cy1, cy2⟩, ⟨⟨r0, r1', r2', r3⟩, ⟨f0, f1, f2, f3⟩⟩⟩ := Bc.cells
      have RR := hid Bc.1.2.2
      have KK := hid KF
      clear Bc KF
      go_wp2_with fail
      (try simp only [Exit.inBlock, Exit.then])
      refine bodyPost_ret (results_cell_row rfl _ _ (w.heap.size + 2) 48 _ (0, 0) _ rfl (Row4.set RR.out) Tryz.underlying48 rfl (by kernel_rfl)) rfl ?_
      exact KK.out
    · have CI : cmpI X1 X2 = 0 := cmpI_eq ho
      go_enter Tryz.func28, Tryz.ntmps28
      go_wp2_with fail
      refine (S1.out _ _ B0.2.1 (by omega)).mono ?_
      rintro e wa ⟨r1, o1, rfl, A1, hB1⟩
      have Ba := B0.on hB1
      obtain ⟨⟨cx0, cx1, cx2⟩, ⟨cy0, cy1, cy2⟩, -⟩ := Ba.cells
      have s0 := B0.2.2
      have AA := hid A1
      clear hB1 A1 S1
      go_wp2_with fail
      refine (S2.out _ _ Ba.2.1 (by omega)).mono ?_
      rintro e wb ⟨r2, o2, rfl, A2, hB2⟩
      have Bb := Ba.on hB2
      have A1 := AA.out.below hB2 (Nat.le_refl _)
      have sa := Ba.2.2
      obtain ⟨⟨h1, h2⟩, h3, h4⟩ := BG.out
      obtain ⟨t1, l1', y1⟩ := A1.tl U1.out (by omega)
      obtain ⟨t2, l2', y2⟩ := A2.tl U2.out (by omega)
      clear cx0 cx1 cx2 cy0 cy1 cy2
      obtain ⟨⟨cx0, cx1, cx2⟩, ⟨cy0, cy1, cy2⟩, -⟩ := Bb.cells
      have g1 := A1.arg (by omega)
      have g2 := A2.arg (by omega)
      have C0 := hid (cmp_is (cmpI X1 X2) r1 r2 _ _ _ _ o1 o2 wb g1 g2 (by rw [A1.2.2.2.1, A2.2.2.2.1]))
      rw [CI] at C0
      have HH := hid (And.intro h2 (And.intro h3 h4))
      have BB := hid Bb
      have SS := hid (And.intro s0 sa)
      clear S2 hB2 A1 A2 AA Ba Bb U1 U2 BG t1 t2 l1' l2' y1 y2 g1 g2 h1 h2 h3 h4 s0 sa B0 CI
      go_wp2_with fail
      refine C0.out.mono ?_
      rintro e wz ⟨rfl, hBz⟩
      have Bz := BB.out.on hBz
      have Bc := Bz
      have KF := FIN.out wz false none [] 0 0 _ _ _ _ _ _ _ _ Bc ⟨Lies.nil _ _, Nm.Limbs.nil, rfl, rfl, fun a h => by cases h⟩ (SN.out hn ho)
      clear BB Bz hBz cx0 cx1 cx2 cy0 cy1 cy2 C0
      obtain ⟨⟨cx0, cx1, cx2⟩, ⟨cy0, cy1, cy2⟩, ⟨⟨r0, r1', r2', r3⟩, ⟨f0, f1, f2, f3⟩⟩⟩ := Bc.cells
      have RR := hid Bc.1.2.2
      have KK := hid KF
      clear Bc KF
      go_wp2_with fail
      (try simp only [Exit.inBlock, Exit.then])
      refine bodyPost_ret (results_cell_row rfl _ _ (w.heap.size + 2) 48 _ (0, 0) _ rfl (Row4.set RR.out) Tryz.underlying48 rfl (by kernel_rfl)) rfl ?_
      exact KK.out

theorem plus_any (n1 n2 m1 m2 : Bool) (p1 p2 : Option Addr) (l1 c1 l2 c2 : Nat) (z1 z2 : List Int) (e1 e2 V1 V2 : Int) (w : World) (a1 : Arg w p1 l1 c1 z1) (a2 : Arg w p2 l2 c2 z2) (hV1 : Nm.val z1 = V1) (hV2 : Nm.val z2 = V2) (b1 : V1 < 2 ^ 200) (b2 : V2 < 2 ^ 200)
    (q1 : -2200 ≤ e1) (q2 : e1 ≤ 2000) (q3 : -2200 ≤ e2) (q4 : e2 ≤ 2000) :
    Calls Tryz.prog 28 #[exactOf n1 p1 l1 c1 e1 m1, exactOf n2 p2 l2 c2 e2 m2] w fun e w' => PlusTold n1 V1 e1 n2 V2 e2 w e w' :=
  plus_at n1 n2 m1 m2 p1 p2 l1 c1 l2 c2 z1 z2 e1 e2 V1 V2 w a1 a2 hV1 hV2 b1 b2 q1 q2 q3 q4 (min e1 e2) (e1 - min e1 e2).toNat (e2 - min e1 e2).toNat rfl (by omega) (by omega)
end Go.Proofs.YtkmadibfiikleaaGreatDoor

/-
  soft: add, sub, Add, Sub.
-/
namespace Go.Proofs.YtkmadibfiikleaaGreatDoor
open Go Go.RowKit Go.Deep

set_option maxRecDepth 100000 in
set_option maxHeartbeats 4000000 in
theorem add_fin (a b : Int) (w : World) (a0 : 0 ≤ a) (a1 : a < 18446744073709551616) (b0 : 0 ≤ b) (b1 : b < 18446744073709551616) (hT : Tab w) (na : Ie.isn a = false) (ia : Ie.isi a = false) (nb : Ie.isn b = false) (ib : Ie.isi b = false) :
    Calls Tryz.prog 13 #[.int .u64 a, .int .u64 b] w fun e w' => Told2 (Ie.AddIs a b) w e w' := by
  have fa := Ie.fin_of na ia
  have fb := Ie.fin_of nb ib
  have FI : Hid (∀ (neg : Bool) (V e r f : Int), Ie.SumIs (Ie.ngd a) (Ie.dm a) (Ie.de a) (Ie.ngd b) (Ie.dm b) (Ie.de b) neg V e → Ie.Res neg V e false r f → Ie.AddIs a b r f) := by
    intro neg V e r f h1 h2
    rw [Ie.AddIs, na, nb, ia, ib]
    simp only [Bool.false_eq_true, or_self, false_and, if_false]
    exact ⟨neg, V, e, h1, h2⟩
  have NA := hid (fun (wx : World) => nan_any a wx a0 a1)
  rw [na] at NA
  have NB := hid (fun (wx : World) => nan_any b wx b0 b1)
  rw [nb] at NB
  have IA := hid (fun (wx : World) => infinite_any a wx a0 a1)
  rw [ia] at IA
  have IB := hid (fun (wx : World) => infinite_any b wx b0 b1)
  rw [ib] at IB
  obtain ⟨⟨da0, da1⟩, ⟨ea0, ea1⟩, -, -⟩ := Ie.dec_f a fa
  obtain ⟨⟨db0, db1⟩, ⟨eb0, eb1⟩, -, -⟩ := Ie.dec_f b fb
  have e60 : (2 : Int) ^ 60 = 1152921504606846976 := by decide
  have da2 : Ie.dm a < 2 ^ 60 := by omega
  have db2 : Ie.dm b < 2 ^ 60 := by omega
  have UA := hid (fun (wx : World) => number_any a wx a0 a1 fa)
  have UB := hid (fun (wx : World) => number_any b wx b0 b1 fb)
  have e200 := Nm.two_mono (show 60 ≤ 200 by omega)
  have HT := hid hT
  clear fa fb na nb ia ib hT
  have RU : Hid (∀ (w2 : World) (pa pb : Option Addr) (oa ob : List Int) (B B' : Nat), Below w.heap.size w w2 → Ans B w2 pa oa (Ie.dm a) → Ans B' w2 pb ob (Ie.dm b) → Calls Tryz.prog 28 #[exactOf (Ie.ngd a) pa oa.length oa.length (Ie.de a) false, exactOf (Ie.ngd b) pb ob.length ob.length (Ie.de b) false] w2 fun e w' => PlusTold (Ie.ngd a) (Ie.dm a) (Ie.de a) (Ie.ngd b) (Ie.dm b) (Ie.de b) w2 e w') := by
    intro w2 pa pb oa ob B B' hB A1 A2
    exact plus_any _ _ _ _ _ _ _ _ _ _ oa ob _ _ _ _ w2 (A1.arg (by have := A1.tl da2 (show 60 ≤ 262144 by omega); omega)) (A2.arg (by have := A2.tl db2 (show 60 ≤ 262144 by omega); omega)) A1.2.2.2.1 A2.2.2.2.1 (by omega) (by omega) (by omega) (by omega) (by omega) (by omega)
  have RO : Hid (∀ (w3 : World) (neg : Bool) (p : Option Addr) (os : List Int) (V e : Int) (B : Nat), Below w.heap.size w w3 → Ans B w3 p os V → Ie.SumIs (Ie.ngd a) (Ie.dm a) (Ie.de a) (Ie.ngd b) (Ie.dm b) (Ie.de b) neg V e → Calls Tryz.prog 29 #[exactOf neg p os.length os.length e false] w3 fun r w' => RoundedTold neg V e false w3 r w') := by
    intro w3 neg p os V e B hB A hS
    have vb := hS.2.2.1.2
    have eb : -10000 ≤ e ∧ e ≤ 10000 := by rcases hS.1 with h | ⟨_, h⟩ <;> omega
    exact rounded_any neg false p _ _ os e V w3 (A.arg (by have := A.tl vb (show 5000 ≤ 262144 by omega); omega)) (HT.out.below hB) A.2.2.2.1 A.len0 vb eb.1 eb.2
  clear da0 da1 ea0 ea1 db0 db1 eb0 eb1 e60 da2 db2 e200 HT
  go_enter Tryz.func13, Tryz.ntmps13
  go_wp2_with fail
  refine (NA.out _).mono ?_
  rintro e wz ⟨rfl, hz⟩
  replace hz := hz.symm
  subst hz
  go_wp2_with fail
  refine (NB.out _).mono ?_
  rintro e wz ⟨rfl, hz⟩
  replace hz := hz.symm
  subst hz
  go_wp2_with fail
  refine (IA.out _).mono ?_
  rintro e wz ⟨rfl, hz⟩
  replace hz := hz.symm
  subst hz
  go_wp2_with fail
  refine (IA.out _).mono ?_
  rintro e wz ⟨rfl, hz⟩
  replace hz := hz.symm
  subst hz
  go_wp2_with fail
  refine (IB.out _).mono ?_
  rintro e wz ⟨rfl, hz⟩
  replace hz := hz.symm
  subst hz
  go_wp2_with fail
  refine (UA.out _).mono ?_
  rintro e w1 ⟨pa, oa, rfl, A1, hB1⟩
  have H1 := hid (And.intro A1 hB1)
  clear A1 hB1
  simp only [exactOf]
  go_wp2_with fail
  refine (UB.out _).mono ?_
  rintro e w2 ⟨pb, ob, rfl, A2, hB2⟩
  have A1 := H1.out.1.below hB2 (Nat.le_refl _)
  have Bw := H1.out.2.trans (hB2.mono H1.out.2.size)
  have PL := hid (RU.out w2 pa pb oa ob _ _ Bw A1 A2)
  have HB := hid Bw
  simp only [exactOf] at PL ⊢
  clear A1 A2 hB2 Bw H1 RU
  go_wp2_with fail
  refine PL.out.mono ?_
  rintro e w3 ⟨neg, p, os, V, x, rfl, A3, hB3, hS⟩
  have Bw := HB.out.trans (hB3.mono HB.out.size)
  have RR := hid (RO.out w3 neg p os V x _ Bw A3 hS)
  have HS := hid hS
  have HC := hid Bw
  simp only [exactOf] at RR ⊢
  clear A3 hB3 hS Bw RO PL HB
  go_wp2_with fail
  refine RR.out.mono ?_
  rintro e w4 ⟨d, t, L, rfl, h1, h2, h3, hB4⟩
  have KK : Hid (Told2 (Ie.AddIs a b) w (.returned (.tuple #[.int .u64 (Ie.sg neg d), .int .i64 (Ie.flg V x false (Ie.sg neg d) t L)])) w4) :=
    ⟨_, _, rfl, FI.out neg V x _ _ HS.out ⟨d, t, L, rfl, rfl, h1, h2, h3⟩, HC.out.trans (hB4.mono HC.out.size)⟩
  clear h1 h2 h3 hB4 HS HC RR FI
  go_wp2_with fail
  go_ret2
  exact KK.out

set_option maxRecDepth 100000 in
set_option maxHeartbeats 4000000 in
theorem add_any (a b : Int) (w : World) (a0 : 0 ≤ a) (a1 : a < 18446744073709551616) (b0 : 0 ≤ b) (b1 : b < 18446744073709551616) (hT : Tab w) :
    Calls Tryz.prog 13 #[.int .u64 a, .int .u64 b] w fun e w' => Told2 (Ie.AddIs a b) w e w' := by
  have NA := hid (fun (wx : World) => nan_any a wx a0 a1)
  have NB := hid (fun (wx : World) => nan_any b wx b0 b1)
  have IA := hid (fun (wx : World) => infinite_any a wx a0 a1)
  have IB := hid (fun (wx : World) => infinite_any b wx b0 b1)
  have KK : Hid (∀ (e : Ending) (r f : Int), e = .returned (.tuple #[.int .u64 r, .int .i64 f]) → Ie.AddIs a b r f → Told2 (Ie.AddIs a b) w e w) := fun e r f h1 h2 => ⟨r, f, h1, h2, Below.refl _ _⟩
  cases na : Ie.isn a
  · cases nb : Ie.isn b
    · cases ia : Ie.isi a
      · cases ib : Ie.isi b
        · exact add_fin a b w a0 a1 b0 b1 hT na ia nb ib
        · have SP : Hid (Ie.AddIs a b b 0) := by rw [Hid, Ie.AddIs, na, nb, ia, ib]; simp
          rw [na] at NA
          rw [nb] at NB
          rw [ia] at IA
          rw [ib] at IB
          clear na nb ia ib hT
          go_enter Tryz.func13, Tryz.ntmps13
          go_wp2_with fail
          refine (NA.out _).mono ?_
          rintro e wz ⟨rfl, rfl⟩
          go_wp2_with fail
          refine (NB.out _).mono ?_
          rintro e wz ⟨rfl, rfl⟩
          go_wp2_with fail
          refine (IA.out _).mono ?_
          rintro e wz ⟨rfl, rfl⟩
          go_wp2_with fail
          refine (IA.out _).mono ?_
          rintro e wz ⟨rfl, rfl⟩
          go_wp2_with fail
          refine (IB.out _).mono ?_
          rintro e wz ⟨rfl, rfl⟩
          go_wp2_with fail
          go_ret2
          exact KK.out _ _ _ rfl SP.out
      · cases ib : Ie.isi b
        · have SP : Hid (Ie.AddIs a b a 0) := by rw [Hid, Ie.AddIs, na, nb, ia, ib]; simp
          rw [na] at NA
          rw [nb] at NB
          rw [ia] at IA
          rw [ib] at IB
          clear na nb ia ib hT
          go_enter Tryz.func13, Tryz.ntmps13
          go_wp2_with fail
          refine (NA.out _).mono ?_
          rintro e wz ⟨rfl, rfl⟩
          go_wp2_with fail
          refine (NB.out _).mono ?_
          rintro e wz ⟨rfl, rfl⟩
          go_wp2_with fail
          refine (IA.out _).mono ?_
          rintro e wz ⟨rfl, rfl⟩
          go_wp2_with fail
          refine (IB.out _).mono ?_
          rintro e wz ⟨rfl, rfl⟩
          go_wp2_with fail
          refine (IA.out _).mono ?_
          rintro e wz ⟨rfl, rfl⟩
          go_wp2_with fail
          go_ret2
          exact KK.out _ _ _ rfl SP.out
        · rw [na] at NA
          rw [nb] at NB
          rw [ia] at IA
          rw [ib] at IB
          by_cases hab : a = b
          · have SP : Hid (Ie.AddIs a b a 0) := by rw [Hid, Ie.AddIs, na, nb, ia, ib]; simp [hab]
            subst hab
            clear na nb ia ib hT
            go_enter Tryz.func13, Tryz.ntmps13
            go_wp2_with fail
            refine (NA.out _).mono ?_
            rintro e wz ⟨rfl, rfl⟩
            go_wp2_with fail
            refine (NB.out _).mono ?_
            rintro e wz ⟨rfl, rfl⟩
            go_wp2_with fail
            refine (IA.out _).mono ?_
            rintro e wz ⟨rfl, rfl⟩
            go_wp2_with fail
            refine (IB.out _).mono ?_
            rintro e wz ⟨rfl, rfl⟩
            go_wp2_with fail
            refine (IA.out _).mono ?_
            rintro e wz ⟨rfl, rfl⟩
            go_wp2_with fail
            go_ret2
            exact KK.out _ _ _ rfl SP.out
          · have SP : Hid (Ie.AddIs a b 9221120237041090560 1) := by rw [Hid, Ie.AddIs, na, nb, ia, ib]; simp [hab]
            have hab' : (a == b) = false := by rw [beq_eq_false_iff_ne]; exact hab
            clear na nb ia ib hT
            go_enter Tryz.func13, Tryz.ntmps13
            go_wp2_with fail
            refine (NA.out _).mono ?_
            rintro e wz ⟨rfl, rfl⟩
            go_wp2_with fail
            refine (NB.out _).mono ?_
            rintro e wz ⟨rfl, rfl⟩
            go_wp2_with fail
            refine (IA.out _).mono ?_
            rintro e wz ⟨rfl, rfl⟩
            go_wp2_with fail
            refine (IB.out _).mono ?_
            rintro e wz ⟨rfl, rfl⟩
            go_wp2_with fail
            go_ret2
            exact KK.out _ _ _ rfl SP.out
    · have SP : Hid (Ie.AddIs a b 9221120237041090560 0) := by rw [Hid, Ie.AddIs, na, nb]; simp
      rw [na] at NA
      rw [nb] at NB
      clear na nb hT
      go_enter Tryz.func13, Tryz.ntmps13
      go_wp2_with fail
      refine (NA.out _).mono ?_
      rintro e wz ⟨rfl, rfl⟩
      go_wp2_with fail
      refine (NB.out _).mono ?_
      rintro e wz ⟨rfl, rfl⟩
      go_wp2_with fail
      go_ret2
      exact KK.out _ _ _ rfl SP.out
  · have SP : Hid (Ie.AddIs a b 9221120237041090560 0) := by rw [Hid, Ie.AddIs, na]; simp
    rw [na] at NA
    clear na hT
    go_enter Tryz.func13, Tryz.ntmps13
    go_wp2_with fail
    refine (NA.out _).mono ?_
    rintro e wz ⟨rfl, rfl⟩
    go_wp2_with fail
    go_ret2
    exact KK.out _ _ _ rfl SP.out

end Go.Proofs.YtkmadibfiikleaaGreatDoor

/-
  soft: fma, Fma (made by mkfma.py).
-/
namespace Go.Proofs.YtkmadibfiikleaaGreatDoor
open Go Go.RowKit Go.Deep

namespace Ie
/-- What fma answers. -/
def FmaIs (a b c r f : Int) : Prop :=
  if isn a = true ∨ isn b = true ∨ isn c = true then r = 9221120237041090560 ∧ f = 0
  else if isi a = true ∨ isi b = true then (if isz a = true ∨ isz b = true then r = 9221120237041090560 ∧ f = 1 else AddIs (sb (ngd a != ngd b) 9218868437227405312) c r f)
  else if isi c = true then r = c ∧ f = 0
  else ∃ neg V e, SumIs (ngd a != ngd b) (dm a * dm b) (de a + de b) (ngd c) (dm c) (de c) neg V e ∧ Res neg V e false r f
end Ie

set_option maxRecDepth 100000 in
set_option maxHeartbeats 8000000 in
theorem fma_fin (a b c : Int) (w : World) (a0 : 0 ≤ a) (a1 : a < 18446744073709551616) (b0 : 0 ≤ b) (b1 : b < 18446744073709551616) (c0 : 0 ≤ c) (c1 : c < 18446744073709551616) (hT : Tab w) (na : Ie.isn a = false) (ia : Ie.isi a = false) (nb : Ie.isn b = false) (ib : Ie.isi b = false) (nc : Ie.isn c = false) (ic : Ie.isi c = false) :
    Calls Tryz.prog 18 #[.int .u64 a, .int .u64 b, .int .u64 c] w fun e w' => Told2 (Ie.FmaIs a b c) w e w' := by
  have fa := Ie.fin_of na ia
  have fb := Ie.fin_of nb ib
  have fc := Ie.fin_of nc ic
  have FI : Hid (∀ (neg : Bool) (V e r f : Int), Ie.SumIs (Ie.ngd a != Ie.ngd b) (Ie.dm a * Ie.dm b) (Ie.de a + Ie.de b) (Ie.ngd c) (Ie.dm c) (Ie.de c) neg V e → Ie.Res neg V e false r f → Ie.FmaIs a b c r f) := by
    intro neg V e r f h1 h2
    rw [Ie.FmaIs, na, nb, ia, ib, nc, ic]
    simp only [Bool.false_eq_true, or_self, if_false]
    exact ⟨neg, V, e, h1, h2⟩
  have NA := hid (fun (wx : World) => nan_any a wx a0 a1)
  rw [na] at NA
  have NB := hid (fun (wx : World) => nan_any b wx b0 b1)
  rw [nb] at NB
  have NC := hid (fun (wx : World) => nan_any c wx c0 c1)
  rw [nc] at NC
  have IA := hid (fun (wx : World) => infinite_any a wx a0 a1)
  rw [ia] at IA
  have IB := hid (fun (wx : World) => infinite_any b wx b0 b1)
  rw [ib] at IB
  have IC := hid (fun (wx : World) => infinite_any c wx c0 c1)
  rw [ic] at IC
  obtain ⟨⟨da0, da1⟩, ⟨ea0, ea1⟩, -, -⟩ := Ie.dec_f a fa
  obtain ⟨⟨db0, db1⟩, ⟨eb0, eb1⟩, -, -⟩ := Ie.dec_f b fb
  obtain ⟨⟨dc0, dc1⟩, ⟨ec0, ec1⟩, -, -⟩ := Ie.dec_f c fc
  have e60 : (2 : Int) ^ 60 = 1152921504606846976 := by decide
  have da2 : Ie.dm a < 2 ^ 60 := by omega
  have db2 : Ie.dm b < 2 ^ 60 := by omega
  have dc2 : Ie.dm c < 2 ^ 60 := by omega
  have e200 := Nm.two_mono (show 60 + 60 ≤ 200 by omega)
  have e201 := Nm.two_mono (show 60 ≤ 200 by omega)
  have pb : Ie.dm a * Ie.dm b < 2 ^ (60 + 60) := by
    have h1 : Ie.dm a * Ie.dm b ≤ Ie.dm a * 2 ^ 60 := Int.mul_le_mul_of_nonneg_left (by omega) da0
    have h2 : Ie.dm a * 2 ^ 60 < 2 ^ 60 * 2 ^ 60 := Int.mul_lt_mul_of_pos_right da2 (Nm.two_pos 60)
    rw [← Nm.two_add] at h2
    omega
  have UA := hid (fun (wx : World) => number_any a wx a0 a1 fa)
  have UB := hid (fun (wx : World) => number_any b wx b0 b1 fb)
  have UC := hid (fun (wx : World) => number_any c wx c0 c1 fc)
  have HT := hid hT
  have RT : Hid (∀ (w2 : World) (pa pb : Option Addr) (oa ob : List Int) (B B' : Nat), Ans B w2 pa oa (Ie.dm a) → Ans B' w2 pb ob (Ie.dm b) → Calls Tryz.prog 35 #[exactOf (Ie.ngd a) pa oa.length oa.length (Ie.de a) false, exactOf (Ie.ngd b) pb ob.length ob.length (Ie.de b) false] w2 fun e w' => ∃ p os, e = .returned (exactOf (Ie.ngd a != Ie.ngd b) p (List.length os) (List.length os) (Ie.de a + Ie.de b) false) ∧ Ans w2.heap.size w' p os (Ie.dm a * Ie.dm b) ∧ Below w2.heap.size w2 w') := by
    intro w2 pa pb oa ob B B' A1 A2
    exact times_xany _ _ _ _ _ _ _ _ _ _ oa ob _ _ _ _ w2 (A1.arg (by have := A1.tl da2 (show 60 ≤ 262144 by omega); omega)) (A2.arg (by have := A2.tl db2 (show 60 ≤ 262144 by omega); omega)) A1.2.2.2.1 A2.2.2.2.1 da2 db2 (by omega) (by omega) (by omega) (by omega)
  have RU : Hid (∀ (w2 : World) (pp pc : Option Addr) (op oc : List Int) (B B' : Nat), Ans B w2 pp op (Ie.dm a * Ie.dm b) → Ans B' w2 pc oc (Ie.dm c) → Calls Tryz.prog 28 #[exactOf (Ie.ngd a != Ie.ngd b) pp op.length op.length (Ie.de a + Ie.de b) false, exactOf (Ie.ngd c) pc oc.length oc.length (Ie.de c) false] w2 fun e w' => PlusTold (Ie.ngd a != Ie.ngd b) (Ie.dm a * Ie.dm b) (Ie.de a + Ie.de b) (Ie.ngd c) (Ie.dm c) (Ie.de c) w2 e w') := by
    intro w2 pp pc op oc B B' A1 A2
    exact plus_any _ _ _ _ _ _ _ _ _ _ op oc _ _ _ _ w2 (A1.arg (by have := A1.tl pb (show 60 + 60 ≤ 262144 by omega); omega)) (A2.arg (by have := A2.tl dc2 (show 60 ≤ 262144 by omega); omega)) A1.2.2.2.1 A2.2.2.2.1 (by omega) (by omega) (by omega) (by omega) (by omega) (by omega)
  have RO : Hid (∀ (w3 : World) (neg : Bool) (p : Option Addr) (os : List Int) (V e : Int) (B : Nat), Below w.heap.size w w3 → Ans B w3 p os V → Ie.SumIs (Ie.ngd a != Ie.ngd b) (Ie.dm a * Ie.dm b) (Ie.de a + Ie.de b) (Ie.ngd c) (Ie.dm c) (Ie.de c) neg V e → Calls Tryz.prog 29 #[exactOf neg p os.length os.length e false] w3 fun r w' => RoundedTold neg V e false w3 r w') := by
    intro w3 neg p os V e B hB A hS
    have vb := hS.2.2.1.2
    have eb : -10000 ≤ e ∧ e ≤ 10000 := by rcases hS.1 with h | ⟨_, h⟩ <;> omega
    exact rounded_any neg false p _ _ os e V w3 (A.arg (by have := A.tl vb (show 5000 ≤ 262144 by omega); omega)) (HT.out.below hB) A.2.2.2.1 A.len0 vb eb.1 eb.2
  clear fa fb fc na nb nc ia ib ic hT da0 da1 ea0 ea1 db0 db1 eb0 eb1 dc0 dc1 ec0 ec1 e60 da2 db2 dc2 e200 e201 pb HT
  go_enter Tryz.func18, Tryz.ntmps18
  go_wp2_with fail
  refine (NA.out _).mono ?_
  rintro e wz ⟨rfl, hz⟩
  replace hz := hz.symm
  subst hz
  go_wp2_with fail
  refine (NB.out _).mono ?_
  rintro e wz ⟨rfl, hz⟩
  replace hz := hz.symm
  subst hz
  go_wp2_with fail
  refine (NC.out _).mono ?_
  rintro e wz ⟨rfl, hz⟩
  replace hz := hz.symm
  subst hz
  go_wp2_with fail
  refine (IA.out _).mono ?_
  rintro e wz ⟨rfl, hz⟩
  replace hz := hz.symm
  subst hz
  go_wp2_with fail
  refine (IB.out _).mono ?_
  rintro e wz ⟨rfl, hz⟩
  replace hz := hz.symm
  subst hz
  go_wp2_with fail
  refine (IC.out _).mono ?_
  rintro e wz ⟨rfl, hz⟩
  replace hz := hz.symm
  subst hz
  go_wp2_with fail
  refine (UA.out _).mono ?_
  rintro e w1 ⟨pa, oa, rfl, A1, hB1⟩
  have H1 := hid (And.intro A1 hB1)
  clear A1 hB1
  simp only [exactOf]
  go_wp2_with fail
  refine (UB.out _).mono ?_
  rintro e w2 ⟨pb, ob, rfl, A2, hB2⟩
  have A1 := H1.out.1.below hB2 (Nat.le_refl _)
  have Bw := H1.out.2.trans (hB2.mono H1.out.2.size)
  have TM := hid (RT.out w2 pa pb oa ob _ _ A1 A2)
  have HB := hid Bw
  simp only [exactOf] at TM ⊢
  clear A1 A2 hB2 Bw H1 RT
  go_wp2_with fail
  refine TM.out.mono ?_
  rintro e w3 ⟨pp, op, rfl, A3, hB3⟩
  have H3 := hid (And.intro A3 (HB.out.trans (hB3.mono HB.out.size)))
  clear A3 hB3 HB TM
  go_wp2_with fail
  refine (UC.out _).mono ?_
  rintro e w4 ⟨pc, oc, rfl, A4, hB4⟩
  have A3 := H3.out.1.below hB4 (Nat.le_refl _)
  have Bw := H3.out.2.trans (hB4.mono H3.out.2.size)
  have PL := hid (RU.out w4 pp pc op oc _ _ A3 A4)
  have HB := hid Bw
  simp only [exactOf] at PL ⊢
  clear A3 A4 hB4 Bw H3 RU
  go_wp2_with fail
  refine PL.out.mono ?_
  rintro e w5 ⟨neg, p, os, V, x, rfl, A5, hB5, hS⟩
  have Bw := HB.out.trans (hB5.mono HB.out.size)
  have RR := hid (RO.out w5 neg p os V x _ Bw A5 hS)
  have HS := hid hS
  have HC := hid Bw
  simp only [exactOf] at RR ⊢
  clear A5 hB5 hS Bw RO PL HB
  go_wp2_with fail
  refine RR.out.mono ?_
  rintro e w6 ⟨d, t, L, rfl, h1, h2, h3, hB6⟩
  have KK : Hid (Told2 (Ie.FmaIs a b c) w (.returned (.tuple #[.int .u64 (Ie.sg neg d), .int .i64 (Ie.flg V x false (Ie.sg neg d) t L)])) w6) :=
    ⟨_, _, rfl, FI.out neg V x _ _ HS.out ⟨d, t, L, rfl, rfl, h1, h2, h3⟩, HC.out.trans (hB6.mono HC.out.size)⟩
  clear h1 h2 h3 hB6 HS HC RR FI
  go_wp2_with fail
  go_ret2
  exact KK.out

set_option maxRecDepth 100000 in
set_option maxHeartbeats 8000000 in
theorem fma_inf (a b c : Int) (w : World) (a0 : 0 ≤ a) (a1 : a < 18446744073709551616) (b0 : 0 ≤ b) (b1 : b < 18446744073709551616) (c0 : 0 ≤ c) (c1 : c < 18446744073709551616) (hT : Tab w) (na : Ie.isn a = false) (nb : Ie.isn b = false) (nc : Ie.isn c = false) (hi : Ie.isi a = true ∨ Ie.isi b = true) :
    Calls Tryz.prog 18 #[.int .u64 a, .int .u64 b, .int .u64 c] w fun e w' => Told2 (Ie.FmaIs a b c) w e w' := by
  have NA := hid (fun (wx : World) => nan_any a wx a0 a1)
  rw [na] at NA
  have NB := hid (fun (wx : World) => nan_any b wx b0 b1)
  rw [nb] at NB
  have NC := hid (fun (wx : World) => nan_any c wx c0 c1)
  rw [nc] at NC
  have IA := hid (fun (wx : World) => infinite_any a wx a0 a1)
  have IB := hid (fun (wx : World) => infinite_any b wx b0 b1)
  obtain ⟨p, fl, MU, KA⟩ : ∃ (p fl : Int), Hid (∀ wx : World, Below w.heap.size w wx → Calls Tryz.prog 17 #[.int .u64 a, .int .u64 b] wx fun e w' => e = .returned (.tuple #[.int .u64 p, .int .i64 fl]) ∧ Below wx.heap.size wx w') ∧
      Hid ((fl = 1 ∧ Ie.FmaIs a b c p 1) ∨ (fl = 0 ∧ (0 ≤ p ∧ p < 18446744073709551616) ∧ ∀ r f, Ie.AddIs p c r f → Ie.FmaIs a b c r f)) := by
    by_cases hz : Ie.isz a = true ∨ Ie.isz b = true
    · refine ⟨9221120237041090560, 1, fun wx hx => ?_, .inl ⟨rfl, ?_⟩⟩
      · refine (mul_any a b wx a0 a1 b0 b1 (hT.below hx)).mono ?_
        rintro e w' ⟨r, f, rfl, h, hB⟩
        rw [Ie.MulIs, na, nb] at h
        simp only [Bool.false_eq_true, or_self, if_false] at h
        have cond : (Ie.isi a = true ∧ Ie.isz b = true) ∨ (Ie.isz a = true ∧ Ie.isi b = true) := by
          rcases hi with hi | hi
          · rcases hz with hz | hz
            · rw [Ie.not_iz hi] at hz; cases hz
            · exact .inl ⟨hi, hz⟩
          · rcases hz with hz | hz
            · exact .inr ⟨hz, hi⟩
            · rw [Ie.not_iz hi] at hz; cases hz
        rw [if_pos cond] at h
        obtain ⟨rfl, rfl⟩ := h
        exact ⟨rfl, hB⟩
      · rw [Ie.FmaIs, na, nb, nc]
        simp only [Bool.false_eq_true, or_self, if_false]
        rw [if_pos hi, if_pos hz]
        simp
    · refine ⟨Ie.sb (Ie.ngd a != Ie.ngd b) 9218868437227405312, 0, fun wx hx => ?_, .inr ⟨rfl, ?_, fun r f h => ?_⟩⟩
      · refine (mul_any a b wx a0 a1 b0 b1 (hT.below hx)).mono ?_
        rintro e w' ⟨r, f, rfl, h, hB⟩
        rw [Ie.MulIs, na, nb] at h
        simp only [Bool.false_eq_true, or_self, if_false] at h
        have cond : ¬ ((Ie.isi a = true ∧ Ie.isz b = true) ∨ (Ie.isz a = true ∧ Ie.isi b = true)) := by
          rintro (⟨_, g⟩ | ⟨g, _⟩)
          · exact hz (.inr g)
          · exact hz (.inl g)
        rw [if_neg cond, if_pos hi] at h
        obtain ⟨rfl, rfl⟩ := h
        exact ⟨rfl, hB⟩
      · cases Ie.ngd a != Ie.ngd b <;> simp only [Ie.sb, Bool.false_eq_true, if_true, if_false] <;> omega
      · rw [Ie.FmaIs, na, nb, nc]
        simp only [Bool.false_eq_true, or_self, if_false]
        rw [if_pos hi, if_neg hz]
        exact h
  have AD := hid (fun (wx : World) (hx : Below w.heap.size w wx) (p0 : 0 ≤ p) (p1 : p < 18446744073709551616) => add_any p c wx p0 p1 c0 c1 (hT.below hx))
  rcases KA.out with ⟨rfl, KB⟩ | ⟨rfl, ⟨p0, p1⟩, KB⟩
  · have KC := hid KB
    clear KA KB
    cases ia : Ie.isi a
    · have ib : Ie.isi b = true := by
        rcases hi with h | h
        · rw [ia] at h; cases h
        · exact h
      rw [ia] at IA
      rw [ib] at IB
      clear ia ib na nb nc hT hi
      go_enter Tryz.func18, Tryz.ntmps18
      go_wp2_with fail
      refine (NA.out _).mono ?_
      rintro e wz ⟨rfl, hz⟩
      replace hz := hz.symm
      subst hz
      go_wp2_with fail
      refine (NB.out _).mono ?_
      rintro e wz ⟨rfl, hz⟩
      replace hz := hz.symm
      subst hz
      go_wp2_with fail
      refine (NC.out _).mono ?_
      rintro e wz ⟨rfl, hz⟩
      replace hz := hz.symm
      subst hz
      go_wp2_with fail
      refine (IA.out _).mono ?_
      rintro e wz ⟨rfl, hz⟩
      replace hz := hz.symm
      subst hz
      go_wp2_with fail
      refine (IB.out _).mono ?_
      rintro e wz ⟨rfl, hz⟩
      replace hz := hz.symm
      subst hz
      go_wp2_with fail
      refine (MU.out _ (Below.refl _ _)).mono ?_
      rintro e w1 ⟨rfl, hB1⟩
      have HB := hid hB1
      clear hB1 MU
      go_wp2_with fail
      go_ret2
      exact ⟨_, _, rfl, KC.out, HB.out⟩
    · rw [ia] at IA
      clear ia na nb nc hT hi
      go_enter Tryz.func18, Tryz.ntmps18
      go_wp2_with fail
      refine (NA.out _).mono ?_
      rintro e wz ⟨rfl, hz⟩
      replace hz := hz.symm
      subst hz
      go_wp2_with fail
      refine (NB.out _).mono ?_
      rintro e wz ⟨rfl, hz⟩
      replace hz := hz.symm
      subst hz
      go_wp2_with fail
      refine (NC.out _).mono ?_
      rintro e wz ⟨rfl, hz⟩
      replace hz := hz.symm
      subst hz
      go_wp2_with fail
      refine (IA.out _).mono ?_
      rintro e wz ⟨rfl, hz⟩
      replace hz := hz.symm
      subst hz
      go_wp2_with fail
      refine (MU.out _ (Below.refl _ _)).mono ?_
      rintro e w1 ⟨rfl, hB1⟩
      have HB := hid hB1
      clear hB1 MU
      go_wp2_with fail
      go_ret2
      exact ⟨_, _, rfl, KC.out, HB.out⟩
  · have KC := hid KB
    clear KA KB
    cases ia : Ie.isi a
    · have ib : Ie.isi b = true := by
        rcases hi with h | h
        · rw [ia] at h; cases h
        · exact h
      rw [ia] at IA
      rw [ib] at IB
      clear ia ib na nb nc hT hi
      go_enter Tryz.func18, Tryz.ntmps18
      go_wp2_with fail
      refine (NA.out _).mono ?_
      rintro e wz ⟨rfl, hz⟩
      replace hz := hz.symm
      subst hz
      go_wp2_with fail
      refine (NB.out _).mono ?_
      rintro e wz ⟨rfl, hz⟩
      replace hz := hz.symm
      subst hz
      go_wp2_with fail
      refine (NC.out _).mono ?_
      rintro e wz ⟨rfl, hz⟩
      replace hz := hz.symm
      subst hz
      go_wp2_with fail
      refine (IA.out _).mono ?_
      rintro e wz ⟨rfl, hz⟩
      replace hz := hz.symm
      subst hz
      go_wp2_with fail
      refine (IB.out _).mono ?_
      rintro e wz ⟨rfl, hz⟩
      replace hz := hz.symm
      subst hz
      go_wp2_with fail
      refine (MU.out _ (Below.refl _ _)).mono ?_
      rintro e w1 ⟨rfl, hB1⟩
      have HB := hid hB1
      clear hB1 MU
      have AD1 := hid (AD.out w1 HB.out p0 p1)
      clear AD
      go_wp2_with fail
      refine AD1.out.mono ?_
      rintro e w2 ⟨r, f, rfl, h, hB2⟩
      have KK : Hid (Told2 (Ie.FmaIs a b c) w (.returned (.tuple #[.int .u64 r, .int .i64 f])) w2) := ⟨r, f, rfl, KC.out r f h, HB.out.trans (hB2.mono HB.out.size)⟩
      clear h hB2 HB AD1 KC
      go_wp2_with fail
      go_ret2
      exact KK.out
    · rw [ia] at IA
      clear ia na nb nc hT hi
      go_enter Tryz.func18, Tryz.ntmps18
      go_wp2_with fail
      refine (NA.out _).mono ?_
      rintro e wz ⟨rfl, hz⟩
      replace hz := hz.symm
      subst hz
      go_wp2_with fail
      refine (NB.out _).mono ?_
      rintro e wz ⟨rfl, hz⟩
      replace hz := hz.symm
      subst hz
      go_wp2_with fail
      refine (NC.out _).mono ?_
      rintro e wz ⟨rfl, hz⟩
      replace hz := hz.symm
      subst hz
      go_wp2_with fail
      refine (IA.out _).mono ?_
      rintro e wz ⟨rfl, hz⟩
      replace hz := hz.symm
      subst hz
      go_wp2_with fail
      refine (MU.out _ (Below.refl _ _)).mono ?_
      rintro e w1 ⟨rfl, hB1⟩
      have HB := hid hB1
      clear hB1 MU
      have AD1 := hid (AD.out w1 HB.out p0 p1)
      clear AD
      go_wp2_with fail
      refine AD1.out.mono ?_
      rintro e w2 ⟨r, f, rfl, h, hB2⟩
      have KK : Hid (Told2 (Ie.FmaIs a b c) w (.returned (.tuple #[.int .u64 r, .int .i64 f])) w2) := ⟨r, f, rfl, KC.out r f h, HB.out.trans (hB2.mono HB.out.size)⟩
      clear h hB2 HB AD1 KC
      go_wp2_with fail
      go_ret2
      exact KK.out

set_option maxRecDepth 100000 in
set_option maxHeartbeats 8000000 in
theorem fma_any (a b c : Int) (w : World) (a0 : 0 ≤ a) (a1 : a < 18446744073709551616) (b0 : 0 ≤ b) (b1 : b < 18446744073709551616) (c0 : 0 ≤ c) (c1 : c < 18446744073709551616) (hT : Tab w) :
    Calls Tryz.prog 18 #[.int .u64 a, .int .u64 b, .int .u64 c] w fun e w' => Told2 (Ie.FmaIs a b c) w e w' := by
  have NA := hid (fun (wx : World) => nan_any a wx a0 a1)
  have NB := hid (fun (wx : World) => nan_any b wx b0 b1)
  have NC := hid (fun (wx : World) => nan_any c wx c0 c1)
  have IA := hid (fun (wx : World) => infinite_any a wx a0 a1)
  have IB := hid (fun (wx : World) => infinite_any b wx b0 b1)
  have IC := hid (fun (wx : World) => infinite_any c wx c0 c1)
  have KK : Hid (∀ (e : Ending) (r f : Int), e = .returned (.tuple #[.int .u64 r, .int .i64 f]) → Ie.FmaIs a b c r f → Told2 (Ie.FmaIs a b c) w e w) := fun e r f h1 h2 => ⟨r, f, h1, h2, Below.refl _ _⟩
  cases na : Ie.isn a
  · cases nb : Ie.isn b
    · cases nc : Ie.isn c
      · by_cases hi : Ie.isi a = true ∨ Ie.isi b = true
        · exact fma_inf a b c w a0 a1 b0 b1 c0 c1 hT na nb nc hi
        · have ia : Ie.isi a = false := by
            cases h : Ie.isi a
            · rfl
            · exact absurd (.inl h) hi
          have ib : Ie.isi b = false := by
            cases h : Ie.isi b
            · rfl
            · exact absurd (.inr h) hi
          cases ic : Ie.isi c
          · exact fma_fin a b c w a0 a1 b0 b1 c0 c1 hT na ia nb ib nc ic
          · have SP : Hid (Ie.FmaIs a b c c 0) := by rw [Hid, Ie.FmaIs, na, nb, nc, ia, ib, ic]; simp
            rw [na] at NA
            rw [nb] at NB
            rw [nc] at NC
            rw [ia] at IA
            rw [ib] at IB
            rw [ic] at IC
            clear na nb nc ia ib ic hT hi
            go_enter Tryz.func18, Tryz.ntmps18
            go_wp2_with fail
            refine (NA.out _).mono ?_
            rintro e wz ⟨rfl, hz⟩
            replace hz := hz.symm
            subst hz
            go_wp2_with fail
            refine (NB.out _).mono ?_
            rintro e wz ⟨rfl, hz⟩
            replace hz := hz.symm
            subst hz
            go_wp2_with fail
            refine (NC.out _).mono ?_
            rintro e wz ⟨rfl, hz⟩
            replace hz := hz.symm
            subst hz
            go_wp2_with fail
            refine (IA.out _).mono ?_
            rintro e wz ⟨rfl, hz⟩
            replace hz := hz.symm
            subst hz
            go_wp2_with fail
            refine (IB.out _).mono ?_
            rintro e wz ⟨rfl, hz⟩
            replace hz := hz.symm
            subst hz
            go_wp2_with fail
            refine (IC.out _).mono ?_
            rintro e wz ⟨rfl, hz⟩
            replace hz := hz.symm
            subst hz
            go_wp2_with fail
            go_ret2
            exact KK.out _ _ _ rfl SP.out
      · have SP : Hid (Ie.FmaIs a b c 9221120237041090560 0) := by rw [Hid, Ie.FmaIs, na, nb, nc]; simp
        rw [na] at NA
        rw [nb] at NB
        rw [nc] at NC
        clear na nb nc hT
        go_enter Tryz.func18, Tryz.ntmps18
        go_wp2_with fail
        refine (NA.out _).mono ?_
        rintro e wz ⟨rfl, hz⟩
        replace hz := hz.symm
        subst hz
        go_wp2_with fail
        refine (NB.out _).mono ?_
        rintro e wz ⟨rfl, hz⟩
        replace hz := hz.symm
        subst hz
        go_wp2_with fail
        refine (NC.out _).mono ?_
        rintro e wz ⟨rfl, hz⟩
        replace hz := hz.symm
        subst hz
        go_wp2_with fail
        go_ret2
        exact KK.out _ _ _ rfl SP.out
    · have SP : Hid (Ie.FmaIs a b c 9221120237041090560 0) := by rw [Hid, Ie.FmaIs, na, nb]; simp
      rw [na] at NA
      rw [nb] at NB
      clear na nb hT
      go_enter Tryz.func18, Tryz.ntmps18
      go_wp2_with fail
      refine (NA.out _).mono ?_
      rintro e wz ⟨rfl, hz⟩
      replace hz := hz.symm
      subst hz
      go_wp2_with fail
      refine (NB.out _).mono ?_
      rintro e wz ⟨rfl, hz⟩
      replace hz := hz.symm
      subst hz
      go_wp2_with fail
      go_ret2
      exact KK.out _ _ _ rfl SP.out
  · have SP : Hid (Ie.FmaIs a b c 9221120237041090560 0) := by rw [Hid, Ie.FmaIs, na]; simp
    rw [na] at NA
    clear na hT
    go_enter Tryz.func18, Tryz.ntmps18
    go_wp2_with fail
    refine (NA.out _).mono ?_
    rintro e wz ⟨rfl, hz⟩
    replace hz := hz.symm
    subst hz
    go_wp2_with fail
    go_ret2
    exact KK.out _ _ _ rfl SP.out

set_option maxRecDepth 100000 in
set_option maxHeartbeats 8000000 in
theorem softFma_any (a b c : Int) (w : World) (a0 : 0 ≤ a) (a1 : a < 18446744073709551616) (b0 : 0 ≤ b) (b1 : b < 18446744073709551616) (c0 : 0 ≤ c) (c1 : c < 18446744073709551616) (hT : Tab w) :
    Calls Tryz.prog 10 #[.int .u64 a, .int .u64 b, .int .u64 c] w fun e w' => Told1 (Ie.FmaIs a b c) w e w' := by
  have AD := hid (fma_any a b c w a0 a1 b0 b1 c0 c1 hT)
  clear hT
  go_enter Tryz.func10, Tryz.ntmps10
  go_wp2_with fail
  refine AD.out.mono ?_
  rintro e w1 ⟨r, f, rfl, h, hB⟩
  have KK : Hid (Told1 (Ie.FmaIs a b c) w (.returned (.int .u64 r)) w1) := ⟨r, f, rfl, h, hB⟩
  clear h hB AD
  go_wp2_with fail
  go_ret
  exact KK.out

end Go.Proofs.YtkmadibfiikleaaGreatDoor

/-
  What fma answers of finite doubles; closed ones.
-/
namespace Go.Proofs.YtkmadibfiikleaaGreatDoor
namespace Ie

theorem FmaIs.get {a b c r f : Int} (fa : fin a) (fb : fin b) (fc : fin c) (h : FmaIs a b c r f) : ∃ neg V e, SumIs (ngd a != ngd b) (dm a * dm b) (de a + de b) (ngd c) (dm c) (de c) neg V e ∧ Res neg V e false r f := by
  rw [FmaIs, (fin_not fa).1, (fin_not fa).2, (fin_not fb).1, (fin_not fb).2, (fin_not fc).1, (fin_not fc).2] at h
  simp only [Bool.false_eq_true, or_self, if_false] at h
  exact h

theorem FmaIs.rs {a b c r f : Int} (fa : fin a) (fb : fin b) (fc : fin c) (h : FmaIs a b c r f) : RS (uv a * uv b + uv c * 2 ^ 1074) (2 ^ 1074) ((ngd a != ngd b) && ngd c) r := by
  obtain ⟨neg, V, e, hS, x, t, L, rfl, -, hR, -, -⟩ := h.get fa fb fc
  obtain ⟨_, ⟨ea0, ea1⟩, _, _⟩ := dec_f a fa
  obtain ⟨_, ⟨eb0, eb1⟩, _, _⟩ := dec_f b fb
  obtain ⟨_, ⟨ec0, ec1⟩, gc, _⟩ := dec_f c fc
  have g2 : ∀ k : Nat, (k : Int) = de c + (2148 : Nat) → dm c * 2 ^ k = un (ab c) * 2 ^ 1074 := by
    intro k hk
    obtain ⟨kc, hkc⟩ : ∃ k : Nat, (k : Int) = de c + 1074 := ⟨(de c + 1074).toNat, by omega⟩
    rw [← gc kc hkc, show k = kc + 1074 by omega, Nm.two_add, Int.mul_assoc]
  obtain ⟨c', hc, key, h0⟩ := hS.at 2148 (by omega) (by omega) (fun k hk => prod_at fa fb k (by omega)) g2
  rw [← uv_mul, ← sn_mul_right (ngd c)] at key h0
  exact rs_of hR hS.2.2.1.1 c' 1074 (by omega) key.symm rfl h0
end Ie
end Go.Proofs.YtkmadibfiikleaaGreatDoor
