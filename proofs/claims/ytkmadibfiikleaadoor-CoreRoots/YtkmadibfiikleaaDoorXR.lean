/-
  Texts put together: XZero, Walk4, QRoot, QSquaresRoot, XRoot, XSqrt, XSpec3.
-/
import Derived.Test.YtkmadibfiikleaaDoorXA
import Derived.Test.YtkmadibfiikleaaDoorWalk2a
import Derived.Test.YtkmadibfiikleaaDoorQAll
import Derived.Test.YtkmadibfiikleaaDoorShr
import Derived.Test.YtkmadibfiikleaaDoorWalk3
import Derived.Deep.LoopGhost
import Derived.Test.YtkmadibfiikleaaDoorFromW
import Derived.Test.YtkmadibfiikleaaDoorSmall
import Derived.Test.YtkmadibfiikleaaDoorXNum
import Derived.Test.YtkmadibfiikleaaDoorXSpecA
/-
  soft: zero.
-/
namespace Go.Proofs.YtkmadibfiikleaaDoor
open Go Go.RowKit Go.Deep

set_option maxRecDepth 100000 in
theorem zero_any (d : Int) (w : World) (h0 : 0 ≤ d) (h1 : d < 18446744073709551616) :
    Calls Tryd.prog 28 #[.int .u64 d] w fun e w' => e = .returned (.bool (Ie.isz d)) ∧ w' = w := by
  have CL := hid (class_any d w h0 h1)
  have E := hid (Ie.isz_cls d)
  generalize Ie.cls d = c at CL E
  go_enter Tryd.func28, Tryd.ntmps28
  go_wp2_with fail
  refine CL.out.mono ?_
  rintro e w' ⟨rfl, rfl⟩
  go_wp2_with fail
  go_ret
  exact ⟨by rw [E.out]; rfl, rfl⟩
end Go.Proofs.YtkmadibfiikleaaDoor

namespace Go.Proofs.YtkmadibfiikleaaDoor
open Go.RowKit Go.Deep

/-- Behind j limbs of a: the block holds the product of these and b. -/
def ProdInv (g k : Nat) (w : World) (ls bs : List Int) (j : Nat) (os : List Int) (wr : World) : Prop :=
  Own wr g os ∧ os.length = k ∧ Nm.Limbs os ∧ Nm.val os = Nm.val (ls.take j) * Nm.val bs ∧ Below g w wr

theorem ProdInv.step {g k : Nat} {w : World} {ls bs : List Int} {j : Nat} {os : List Int} {wr w' : World} {n : Nat} (hn : bs.length = n) (ha : Nm.Limbs ls) (hb : Nm.Limbs bs) (h : ProdInv g k w ls bs j os wr) (hj : j < ls.length) (hk : j + n < k) {c x : Int} {us : List Int}
    (hx : x = ls.getD j 0) (hm : MulInv g k (j + n) wr os (Nm.val os + Nm.pw j * (Nm.val bs * x)) (j + n) c us w') :
    ProdInv g k w ls bs (j + 1) (us.set (j + n) c) (w'.setCell ⟨g, j + n, none⟩ (.int .u64 c)) := by
  subst hn
  obtain ⟨h1, h2, h3, h4, h5⟩ := h
  obtain ⟨⟨m1, m2, m3, m4, m5, m6⟩, m7, m8⟩ := hm
  have hv : Nm.val os < Nm.pw (j + bs.length) := by
    rw [h4, Nm.pw_add]
    have e1 := Nm.val_bd _ (ha.take j)
    rw [List.length_take, Nat.min_eq_left (by omega)] at e1
    have e2 := Nm.val_bd _ hb
    have e3 : Nm.val (ls.take j) * Nm.val bs ≤ Nm.pw j * Nm.val bs := Int.mul_le_mul_of_nonneg_right (by omega) e2.1
    have e4 : Nm.pw j * (Nm.val bs + 1) ≤ Nm.pw j * Nm.pw bs.length := Int.mul_le_mul_of_nonneg_left (by omega) (by have := Nm.pw_pos j; omega)
    have e5 := Nm.pw_pos j
    rw [Int.mul_add, Int.mul_one] at e4
    omega
  have h0 : us.getD (j + bs.length) 0 = 0 := by rw [m8 _ (Nat.le_refl _)]; exact Nm.zero_of_lt h3 hv _ (Nat.le_refl _)
  refine ⟨m1.set _ _, by simpa using m2, m3.set _ m7.1 m7.2, ?_, h5.trans (m5.setCell (Nat.le_refl _) _)⟩
  rw [Nm.val_set _ _ _ (by omega), h0, Int.sub_zero, m4, h4, hx, Nm.val_take_succ ls j hj, Int.add_mul, Int.mul_assoc, Int.mul_comm (ls.getD j 0)]

theorem prod_bound {zs ys : List Int} (hz : Nm.Limbs zs) (hy : Nm.Limbs ys) (h : Nm.val zs * Nm.val ys < Nm.pw 4096) (h1 : 0 < Nm.tsize zs) (h2 : 0 < Nm.tsize ys) : Nm.tsize zs + Nm.tsize ys ≤ 4097 := by
  have e1 := Nm.val_ge_top hz h1
  have e2 := Nm.val_ge_top hy h2
  have e3 : Nm.pw (Nm.tsize zs - 1) * Nm.pw (Nm.tsize ys - 1) ≤ Nm.val zs * Nm.val ys := Int.mul_le_mul e1 e2 (Int.le_of_lt (Nm.pw_pos _)) (by have := (Nm.val_bd zs hz).1; omega)
  rw [← Nm.pw_add] at e3
  rcases Nat.lt_or_ge (Nm.tsize zs - 1 + (Nm.tsize ys - 1)) 4096 with e | e
  · omega
  · have := Nm.pw_mono e
    omega

set_option maxRecDepth 100000 in
set_option maxHeartbeats 1000000 in
theorem mul_ok (p q : Option Addr) (n cap m cap' : Nat) (zs ys : List Int) (w : World) (ha : Arg w p n cap zs) (hb : Arg w q m cap' ys) (tz : Nm.tsize zs ≤ 4096) (ty : Nm.tsize ys ≤ 4096) (hs : Nm.val zs * Nm.val ys < Nm.pw 4096) :
    Calls Tryd.prog 77 #[.slice p n cap, .slice q m cap'] w fun e w' => ∃ r os, e = .returned (.tuple #[.slice r (List.length os) (List.length os), .int .i64 0]) ∧ Ans w.heap.size w' r os (Nm.val zs * Nm.val ys) ∧ Below w.heap.size w w' := by
  obtain ⟨a1, a2, a3, a4, a5⟩ := ha
  obtain ⟨b1, b2, b3, b4, b5⟩ := hb
  have HS : Hid (Nm.val zs * Nm.val ys < Nm.pw 4096) := hs
  clear hs
  have nil : Nm.val zs * Nm.val ys = 0 → Ans w.heap.size w none [] (Nm.val zs * Nm.val ys) := fun h => ⟨Lies.nil _ _, Nm.Limbs.nil, rfl, by simp [Nm.val, h], fun a h => by cases h⟩
  by_cases h1 : Nm.tsize zs = 0
  · have h1' : ((Nm.tsize zs : Int) == 0) = true := by simp [h1]
    have NIL := hid (nil (by rw [(Nm.tsize_zero_iff a5).1 h1, Int.zero_mul]))
    clear nil h1
    go_enter Tryd.func77, Tryd.ntmps77
    go_wp2_with fail
    refine (pair_ok p q n cap m cap' zs ys _ a1 a2 (by omega) a4 tz b1 b2 (by omega) b4 ty).mono ?_
    rintro e w' ⟨rfl, rfl⟩
    go_wp2_with fail
    go_ret2
    exact ⟨none, [], rfl, NIL.out, Below.refl _ _⟩
  have h1' : ((Nm.tsize zs : Int) == 0) = false := by simp [h1]
  by_cases h2 : Nm.tsize ys = 0
  · have h2' : ((Nm.tsize ys : Int) == 0) = true := by simp [h2]
    have NIL := hid (nil (by rw [(Nm.tsize_zero_iff b5).1 h2, Int.mul_zero]))
    clear nil h1 h2
    go_enter Tryd.func77, Tryd.ntmps77
    go_wp2_with fail
    refine (pair_ok p q n cap m cap' zs ys _ a1 a2 (by omega) a4 tz b1 b2 (by omega) b4 ty).mono ?_
    rintro e w' ⟨rfl, rfl⟩
    go_wp2_with fail
    go_ret2
    exact ⟨none, [], rfl, NIL.out, Below.refl _ _⟩
  have h2' : ((Nm.tsize ys : Int) == 0) = false := by simp [h2]
  clear nil
  have hsum := prod_bound a5 b5 HS.out (by omega) (by omega)
  have hsum' : (Nm.tsize zs : Int) + (Nm.tsize ys : Int) ≤ 4097 := by omega
  have hmk := make64 (Nm.tsize zs + Nm.tsize ys) (by omega) w
  have em : ((Nm.tsize zs + Nm.tsize ys : Nat) : Int) = (Nm.tsize zs : Int) + (Nm.tsize ys : Int) := by omega
  rw [em] at hmk
  clear em
  have ho : Own (w.alloc (.cells (madeCells #[.int .u64 0] (Nm.tsize zs + Nm.tsize ys)) 22)) w.heap.size (List.replicate (Nm.tsize zs + Nm.tsize ys) 0) := by
    rw [made_zero]; exact Own.alloc w _
  have hb0 : Below w.heap.size w (w.alloc (.cells (madeCells #[.int .u64 0] (Nm.tsize zs + Nm.tsize ys)) 22)) := (Below.refl _ _).alloc (Nat.le_refl _) _
  have I0 : ProdInv w.heap.size (Nm.tsize zs + Nm.tsize ys) w (Nm.trim zs) (Nm.trim ys) 0 (List.replicate (Nm.tsize zs + Nm.tsize ys) 0) (w.alloc (.cells (madeCells #[.int .u64 0] (Nm.tsize zs + Nm.tsize ys)) 22)) :=
    ⟨ho, by simp, Nm.Limbs.replicate _, by simp [Nm.val_replicate, Nm.val], hb0⟩
  clear ho hb0
  have hsum2 : decide (4096 < (Nm.tsize zs : Int) + (Nm.tsize ys : Int) - 1) = false := by simp; omega
  have A4 := hid a4.trim
  have B4 := hid b4.trim
  obtain ⟨b, off, rfl, hcell⟩ : ∃ b off, p = some ⟨b, off, none⟩ ∧ Hid (∀ i, i < Nm.tsize zs → w.cell? ⟨b, off + i, none⟩ = some (.int .u64 ((Nm.trim zs).getD i 0))) := by
    have hlen := Nm.trim_length zs
    rcases A4.out with h | ⟨b, off, hp, h⟩
    · exfalso
      rw [h] at hlen
      simp at hlen
      omega
    · exact ⟨b, off, hp, fun i hi => h i (by rw [hlen]; exact hi)⟩
  have hbg : b < w.heap.size := cell_lt (hcell.out 0 (by omega))
  have A5 := hid a5.trim
  have B5 := hid b5.trim
  go_enter Tryd.func77, Tryd.ntmps77
  go_wp2_with fail
  refine (pair_ok (some ⟨b, off, none⟩) q n cap m cap' zs ys _ a1 a2 (by omega) a4 tz b1 b2 (by omega) b4 ty).mono ?_
  rintro e w' ⟨rfl, rfl⟩
  clear a4 b4
  go_wp2_with fail
  go_loopw [43] (fun i wr => ∃ (j : Nat) (os : List Int), j ≤ Nm.tsize zs ∧ i = .int .i64 j ∧ ProdInv w'.heap.size (Nm.tsize zs + Nm.tsize ys) w' (Nm.trim zs) (Nm.trim ys) j os wr) (fun i _ => Nm.tsize zs - (intOf i).toNat)
  case atStart => exact ⟨0, _, Nat.zero_le _, rfl, I0⟩
  case round =>
    clear I0 hmk
    obtain ⟨j, os, hj, rfl, I⟩ := hrel
    by_cases hlt : j < Nm.tsize zs
    · obtain ⟨x, hx, X⟩ : ∃ x, wr.cell? ⟨b, off + j, none⟩ = some (.int .u64 x) ∧ Hid (x = (Nm.trim zs).getD j 0) := ⟨_, (I.2.2.2.2.cell (p := ⟨b, off + j, none⟩) hbg).trans (hcell.out j hlt), rfl⟩
      have hx0 := A5.out.at j
      rw [show (Nm.trim zs).getD j 0 = x from X.out.symm] at hx0
      obtain ⟨hx0, hx1⟩ := hx0
      go_wp2_with fail
      refine (addTimes_any w'.heap.size (Nm.tsize zs + Nm.tsize ys) j (Nm.tsize ys) _ os q _ (Nm.trim ys) x _ I.2.1 (by omega) I.1 I.2.2.1 (Nm.trim_length ys) (by omega) (B4.out.below I.2.2.2.2 (Nat.le_refl _)) B5.out (fun h0 => B4.out.lt h0) hx0 hx1).mono ?_
      rintro e w2 ⟨c, us, rfl, M⟩
      have I2 := I.step (Nm.trim_length ys) A5.out B5.out (by rw [Nm.trim_length]; exact hlt) (by omega) X.out M
      obtain ⟨y, hy⟩ : ∃ y, w2.cell? ⟨w'.heap.size, j + Nm.tsize ys, none⟩ = some (.int .u64 y) := ⟨_, M.1.1.cell _ (by have := M.1.2.1; omega)⟩
      have hfr := M.1.1.free (j + Nm.tsize ys)
      clear M
      go_wp2
      go_roundw
      case rel => exact ⟨j + 1, _, by omega, by go_num, I2⟩
      case measure => simp [intOf]; omega
    · have hjn : j = Nm.tsize zs := by omega
      subst hjn
      have E := I.2.2.2.1
      rw [List.take_of_length_le (by rw [Nm.trim_length]; omega), Nm.val_trim, Nm.val_trim] at E
      have EE := hid E
      clear E
      go_wp2_with fail
      refine (limited_own w'.heap.size (Nm.tsize zs + Nm.tsize ys) os _ I.2.1 (by omega) I.1 I.2.2.1 w'.heap.size (Nat.le_refl _) (by rw [EE.out]; exact HS.out)).mono ?_
      rintro e w3 ⟨r, xs, rfl, hans, rfl⟩
      rw [EE.out] at hans
      have HA := hid hans
      clear hans
      have HB := hid I.2.2.2.2
      clear I
      go_wp2_with fail
      go_ret2
      exact ⟨r, xs, rfl, HA.out, HB.out⟩
end Go.Proofs.YtkmadibfiikleaaDoor

namespace Go.Proofs.YtkmadibfiikleaaDoor
open Go.RowKit Go.Deep

namespace Rt
/-- Newton's step stays above the root. -/
theorem above {A r q n : Int} (hr : 1 ≤ r) (hq0 : 0 ≤ q) (hq : A < (q + 1) * r) (hn : r + q ≤ 2 * n + 1) : A < (n + 1) * (n + 1) := by
  have h1 : 4 * ((q + 1) * r) ≤ (r + q + 1) * (r + q + 1) := by
    have h2 : 0 ≤ (r - (q + 1)) * (r - (q + 1)) := by
      rcases Int.le_total 0 (r - (q + 1)) with h | h
      · exact Int.mul_nonneg h h
      · exact Int.mul_nonneg_of_nonpos_of_nonpos h h
    have e1 : (r - (q + 1)) * (r - (q + 1)) = r * r - 2 * ((q + 1) * r) + (q + 1) * (q + 1) := by
      rw [Int.sub_mul, Int.mul_sub, Int.mul_sub, Int.mul_comm r (q + 1)]; omega
    have e2 : (r + q + 1) * (r + q + 1) = r * r + 2 * ((q + 1) * r) + (q + 1) * (q + 1) := by
      have e : ∀ y : Int, (r + y) * (r + y) = r * r + 2 * (y * r) + y * y := fun y => by rw [Int.add_mul, Int.mul_add, Int.mul_add, Int.mul_comm r y]; omega
      rw [show r + q + 1 = r + (q + 1) by omega]
      exact e (q + 1)
    omega
  have h3 : (r + q + 1) * (r + q + 1) ≤ (2 * (n + 1)) * (2 * (n + 1)) := Int.mul_le_mul (by omega) (by omega) (by omega) (by omega)
  have e3 : (2 * (n + 1)) * (2 * (n + 1)) = 4 * ((n + 1) * (n + 1)) := by
    rw [Int.mul_assoc, Int.mul_left_comm (n + 1)]; omega
  omega

/-- Where the steps fall no more, the root is there. -/
theorem there {A r q : Int} (hr : 1 ≤ r) (hq : q * r ≤ A) (h : r ≤ (r + q) / 2) : r * r ≤ A := by
  have h1 : r ≤ q := by omega
  have h2 : r * r ≤ q * r := Int.mul_le_mul_of_nonneg_right h1 (by omega)
  omega

theorem start {A : Int} {L h : Nat} (hA : A < 2 ^ L) (hh : L ≤ 2 * h) : A < (2 ^ h + 1) * (2 ^ h + 1) := by
  have h1 := Nm.two_mono hh
  have h2 : (2 : Int) ^ (2 * h) = 2 ^ h * 2 ^ h := by rw [← Nm.two_add]; congr 1; omega
  have h3 := Nm.two_pos h
  rw [Int.add_mul, Int.mul_add, Int.one_mul, Int.mul_one]
  omega

theorem room_any (a b c : Nat) (ha : a ≤ c) (hb : b ≤ c) : Nm.pw a + Nm.pw b ≤ Nm.pw (c + 1) := by
  have h1 := Nm.pw_mono ha
  have h2 := Nm.pw_mono hb
  have h3 := Nm.pw_pos c
  rw [Nm.pw_succ]
  omega

theorem room : Nm.pw 128 + Nm.pw 256 ≤ Nm.pw 4096 := room_any 128 256 4095 (by omega) (by omega)
end Rt

theorem Ans.argR {B : Nat} {w : World} {p : Option Addr} {ys : List Int} {n : Int} (h : Ans B w p ys n) (hn : n < Nm.pw 4096) : Arg w p ys.length ys.length ys :=
  h.arg (by have := h.small hn; omega)

theorem Ans.tsR {B : Nat} {w : World} {p : Option Addr} {ys : List Int} {n : Int} (h : Ans B w p ys n) (hn : n < Nm.pw 4096) : Nm.tsize ys ≤ 4096 := by
  rw [h.2.2.1]
  exact h.small hn

/-- A number's list has a limb. -/
theorem Ans.pos {B : Nat} {w : World} {p : Option Addr} {ys : List Int} {n : Int} (h : Ans B w p ys n) (hn : 0 < n) : 0 < Nm.tsize ys := by
  have h1 := Nm.tsize_zero_iff h.2.1
  have h2 := h.2.2.2.1
  omega

/-- What newton's numbers keep to. -/
structure Near (A r : Int) : Prop where
  one : 1 ≤ r
  small : r ≤ Nm.pw 128
  above : A < (r + 1) * (r + 1)

set_option maxRecDepth 100000 in
set_option maxHeartbeats 1000000 in
theorem step_ok (p s : Option Addr) (n cap : Nat) (za rs : List Int) (A r : Int) (B : Nat) (w : World) (ha : Arg w p n cap za) (hr : Ans B w s rs r) (hT : Tab w) (hA : Nm.val za = A) (hA1 : 1 ≤ A) (hA2 : A < Nm.pw 256) (hN : Near A r) :
    Calls Tryd.prog 90 #[.slice p n cap, .slice s (List.length rs) (List.length rs)] w fun e w' => ∃ t os, e = .returned (.slice t (List.length os) (List.length os)) ∧ Ans w.heap.size w' t os ((r + A / r) / 2) ∧ Below w.heap.size w w' := by
  have P0 := Rt.room
  have p128 := Nm.pw_pos 128
  have p256 := Nm.pw_pos 256
  have hr1 := hN.one
  have hr2 := hN.small
  have SD : A / r * r + A % r = A ∧ 0 ≤ A % r ∧ A % r < r ∧ 0 ≤ A / r ∧ A / r ≤ A := by
    have ed := Int.emod_add_mul_ediv A r
    have e0 := Int.emod_nonneg A (show r ≠ 0 by omega)
    have e1 := Int.emod_lt_of_pos A (show 0 < r by omega)
    have e2 : 0 ≤ A / r := Int.ediv_nonneg (by omega) (by omega)
    have e3 : A / r * 1 ≤ A / r * r := Int.mul_le_mul_of_nonneg_left (by omega) e2
    rw [Int.mul_comm] at ed
    exact ⟨by omega, e0, e1, e2, by omega⟩
  have hAs : A < Nm.pw 4096 ∧ r < Nm.pw 4096 ∧ A / r < Nm.pw 4096 ∧ r + A / r < Nm.pw 4096 := by
    generalize Nm.pw 4096 = x at *
    generalize Nm.pw 128 = y at *
    generalize Nm.pw 256 = z at *
    omega
  have h2 : 2 ≤ r + A / r := by
    rcases (show r = 1 ∨ 2 ≤ r by omega) with h | h
    · subst h
      rw [Int.ediv_one]
      omega
    · omega
  have ta : Nm.tsize za ≤ 4096 := (Nm.tsize_le_iff ha.2.2.2.2 4096).2 (by rw [hA]; exact hAs.1)
  have DM := divMod_ok p s n cap _ _ za rs w ha (hr.argR hAs.2.1) ta (hr.tsR hAs.2.1) (hr.pos (by omega))
  rw [hA, hr.2.2.2.1] at DM
  have HDM := hid DM
  have HR := hid hr
  have HT := hid hT
  have HS := hid hAs
  have H2 := hid h2
  clear DM ta SD P0 p128 p256 hr1 hr2 hAs h2 ha hr hT hA hA1 hA2 hN
  obtain ⟨q, HQ⟩ : ∃ q, Hid (A / r = q) := ⟨_, rfl⟩
  simp only [Splits, HQ.out] at HDM
  rw [HQ.out] at HS H2 ⊢
  go_enter Tryd.func90, Tryd.ntmps90
  go_wp2_with fail
  refine HDM.out.mono ?_
  rintro e w1 ⟨s1, os, s2, us, rfl, B1, -, hb1⟩
  have HB1 := hid B1
  have HR1 := hid (HR.out.below hb1 (Nat.le_refl _))
  have HT1 := hid (HT.out.below hb1)
  have D1 := hid hb1
  clear B1 hb1 HDM HR HT
  go_wp2_with fail
  refine (add_ok s s1 _ _ _ _ rs os _ (HR1.out.argR HS.out.2.1) (HB1.out.argR HS.out.2.2.1) (by rw [HR1.out.2.2.2.1, HB1.out.2.2.2.1]; exact HS.out.2.2.2)).mono ?_
  rintro e w2 ⟨s3, ts, rfl, B2, hb2⟩
  rw [HR1.out.2.2.2.1, HB1.out.2.2.2.1] at B2
  have HB2 := hid B2
  have HT2 := hid (HT1.out.below hb2)
  have D2 := hid (chain D1.out hb2 (Nat.le_refl _))
  clear B2 hb2 HT1 D1 HR1 HB1
  obtain ⟨L, l1, l2, l3, _⟩ := blen_is (Nm.trim ts) HB2.out.2.1.trim
  rw [Nm.trim_trim] at l3
  have hL : 1 < L := by
    rw [Nm.val_trim, HB2.out.2.2.2.1] at l2
    have h := l2.1
    have h2 := H2.out
    rcases (show L ≤ 1 ∨ 1 < L by omega) with c | c
    · have := Nm.two_mono c
      omega
    · exact c
  have SH := shr_ok s3 _ _ ts 1 1 L w2 (HB2.out.argR HS.out.2.2.2) HT2.out (HB2.out.tsR HS.out.2.2.2) rfl l1 l3 hL
  rw [HB2.out.2.2.2.1, show (2 : Int) ^ 1 = 2 by decide] at SH
  have HSH := hid SH
  clear SH l1 l2 l3 hL
  go_wp2_with fail
  refine HSH.out.mono ?_
  rintro e w3 ⟨s4, vs, rfl, B3, hb3⟩
  have HB3 := hid (B3.up D2.out.size)
  have D3 := hid (chain D2.out hb3 (Nat.le_refl _))
  clear B3 hb3
  go_wp2_with fail
  go_ret
  exact ⟨s4, vs, rfl, HB3.out, D3.out⟩

set_option maxRecDepth 100000 in
set_option maxHeartbeats 1000000 in
theorem newton_ok (p : Option Addr) (n cap : Nat) (za : List Int) (A : Int) (w : World) (ha : Arg w p n cap za) (hT : Tab w) (hA : Nm.val za = A) (hA1 : 1 ≤ A) (hA2 : A < Nm.pw 256) :
    Calls Tryd.prog 76 #[.slice p n cap] w fun e w' => ∃ t os R, e = .returned (.slice t (List.length os) (List.length os)) ∧ Ans w.heap.size w' t os R ∧ Hid (Near A R ∧ R * R ≤ A) ∧ Below w.heap.size w w' := by
  obtain ⟨L, l1, l2, l3, _⟩ := blen_is za ha.2.2.2.2
  have ts : Nm.tsize za ≤ 256 := (Nm.tsize_le_iff ha.2.2.2.2 256).2 (by rw [hA]; exact hA2)
  rw [hA] at l2
  obtain ⟨h, hh⟩ : ∃ h, (L + 1) / 2 = h := ⟨_, rfl⟩
  have r1 : ((L : Int) + 1) / 2 = (h : Int) := by omega
  have r2 : ((L : Int) + 1).tdiv 2 = (h : Int) := by rw [Int.tdiv_eq_ediv_of_nonneg (by omega)]; exact r1
  have hL : (L : Int) ≤ 16384 := by omega
  have N0 : Near A (2 ^ h) := by
    refine ⟨by have := Nm.two_pos h; omega, ?_, Rt.start l2.1 (by omega)⟩
    rw [Nm.pw_two]
    exact Nm.two_mono (by omega)
  have BL := bitLen_any p n cap za w ha
  rw [l1] at BL
  have hb0 : Below w.heap.size w (w.alloc (.cells #[.int .u64 1] 22)) := (Below.refl _ _).alloc (Nat.le_refl _) _
  have A0 : Arg (w.alloc (.cells #[.int .u64 1] 22)) (some ⟨w.heap.size, 0, none⟩) 1 1 [1] := ⟨rfl, Nat.le_refl _, by omega, (Own.alloc w [1]).lies, limb_one (by omega)⟩
  have BL2 := bitLen_any p n cap za _ (ha.below hb0 (Nat.le_refl _))
  rw [l1] at BL2
  obtain ⟨L1, k1, _, k3, _⟩ := blen_is (Nm.trim [1]) (limb_one (x := 1) (by omega)).trim
  have t1 : Nm.tsize [1] = 1 := by simp [Nm.tsize]
  rw [Nm.trim_trim, t1] at k3
  have SH := shl_ok _ 1 1 [1] (h : Int) h L1 _ A0 (by rw [t1]; omega) rfl (by rw [t1]; omega) k1 (by omega)
  rw [show Nm.val [1] * 2 ^ h = 2 ^ h by simp [Nm.val]] at SH
  have HSH := hid SH
  have HBL := hid BL2
  have HN0 := hid N0
  have HA := hid ha
  have HT := hid hT
  have HV := hid hA
  have H1 := hid hA1
  have HS := hid hA2
  have HB0 := hid hb0
  have h0 : (0 : Int) ≤ (h : Int) := by omega
  clear l1 l2 l3 k1 k3 SH BL BL2 N0 ha hT hA hA1 hA2 hb0 A0 ts t1 hh
  go_enter Tryd.func76, Tryd.ntmps76
  go_wp2_with fail
  refine HBL.out.mono ?_
  rintro e w' ⟨rfl, rfl⟩
  go_wp2_with fail
  refine HSH.out.mono ?_
  rintro e w1 ⟨s1, os, rfl, B1, hb1⟩
  have HB1 := hid (B1.up HB0.out.size)
  have D1 := hid (chain HB0.out hb1 (Nat.le_refl _))
  clear B1 hb1 HSH HBL HB0
  go_wp2_with fail
  go_loopg [3] ((2 : Int) ^ h).toNat (fun x c wr => ∃ (R : Int) (t : Option Addr) (os : List Int), c = .slice t (List.length os) (List.length os) ∧ Hid (x = R.toNat) ∧ Hid (Ans w.heap.size wr t os R) ∧ Hid (Near A R) ∧ Hid (Below w.heap.size w wr))
  case atStart => exact ⟨2 ^ h, s1, os, rfl, rfl, HB1.out, HN0.out, D1.out⟩
  case round =>
    clear HB1 D1 HN0 r1 r2
    obtain ⟨R, t, os, rfl, GK, HO, HN, D⟩ := hrel
    have ST := hid (step_ok p t n cap za os A R w.heap.size wr (HA.out.below D.out (Nat.le_refl _)) HO.out (HT.out.below D.out) HV.out H1.out HS.out HN.out)
    go_wp2_with fail
    refine ST.out.mono ?_
    rintro e w2 ⟨t2, os2, rfl, B2, hb2⟩
    have HB2 := hid (B2.up D.out.size)
    have HO2 := hid (HO.out.below hb2 (Nat.le_refl _))
    have D2 := hid (chain D.out hb2 (Nat.le_refl _))
    clear B2 hb2 ST
    have hq := Int.emod_add_mul_ediv A R
    have hq1 := Int.emod_nonneg A (show R ≠ 0 by have := HN.out.one; omega)
    have hq2 := Int.emod_lt_of_pos A (show 0 < R by have := HN.out.one; omega)
    have hq3 : 0 ≤ A / R := Int.ediv_nonneg (by have := H1.out; omega) (by have := HN.out.one; omega)
    have hq4 : A / R * 1 ≤ A / R * R := Int.mul_le_mul_of_nonneg_left (by have := HN.out.one; omega) hq3
    rw [Int.mul_comm] at hq
    have AB := hid (Rt.above (A := A) (n := (R + A / R) / 2) HN.out.one hq3 (by rw [Int.add_mul, Int.one_mul]; omega) (by omega))
    have TH := hid (fun h => Rt.there (A := A) (q := A / R) HN.out.one (by omega) h)
    have hR2 : 2 ≤ R + A / R := by
      rcases (show R = 1 ∨ 2 ≤ R by have := HN.out.one; omega) with h | h
      · subst h
        rw [Int.ediv_one]
        have := H1.out
        omega
      · omega
    have room := Rt.room
    have p128 := Nm.pw_pos 128
    have p256 := Nm.pw_pos 256
    have hsm : R < Nm.pw 4096 ∧ (R + A / R) / 2 < Nm.pw 4096 := by
      have h1 := HN.out.small
      have h2 := HS.out
      generalize Nm.pw 4096 = x at *
      generalize Nm.pw 128 = y at *
      generalize Nm.pw 256 = z at *
      omega
    have HSM := hid hsm
    obtain ⟨X, HX⟩ : ∃ X, Hid ((R + A / R) / 2 = X) := ⟨_, rfl⟩
    have hX1 : 1 ≤ X := by rw [← HX.out]; omega
    rw [HX.out] at HB2 AB TH HSM
    have HX1 := hid hX1
    clear hq hq1 hq2 hq3 hq4 hR2 room p128 p256 hsm hX1
    by_cases hlt : X < R
    · have NX : Hid (Near A X) := ⟨HX1.out, by have := HN.out.small; omega, AB.out⟩
      have HLT := hid hlt
      clear hlt
      go_wp2_with fail
      refine (cmp_is (-1) t2 t _ _ _ _ os2 os _ (HB2.out.argR HSM.out.2) (HO2.out.argR HSM.out.1) (cmpI_lt (by rw [HB2.out.2.2.2.1, HO2.out.2.2.2.1]; exact HLT.out))).mono ?_
      rintro e w3 ⟨rfl, hb3⟩
      have HB3 := hid (HB2.out.below hb3 (Nat.le_refl _))
      have D3 := hid (chain D2.out hb3 (Nat.le_refl _))
      clear hb3
      go_wp2_with fail
      go_roundg X.toNat
      case measure => have := GK.out; have := HLT.out; have := HX1.out; omega
      case rel => exact ⟨X, t2, os2, rfl, rfl, HB3.out, NX.out, D3.out⟩
    · obtain ⟨c, hc0, HC⟩ : ∃ c : Int, 0 ≤ c ∧ Hid (cmpI X R = c) := by
        rcases (show X = R ∨ R < X by omega) with h | h
        · exact ⟨0, by omega, cmpI_eq h⟩
        · exact ⟨1, by omega, cmpI_gt h⟩
      have FI : Hid (Near A R ∧ R * R ≤ A) := ⟨HN.out, TH.out (by omega)⟩
      clear hlt
      go_wp2_with fail
      refine (cmp_is c t2 t _ _ _ _ os2 os _ (HB2.out.argR HSM.out.2) (HO2.out.argR HSM.out.1) (by rw [HB2.out.2.2.2.1, HO2.out.2.2.2.1]; exact HC.out)).mono ?_
      rintro e w3 ⟨rfl, hb3⟩
      have HB3 := hid (HO2.out.below hb3 (Nat.le_refl _))
      have D3 := hid (chain D2.out hb3 (Nat.le_refl _))
      clear hb3
      go_wp2_with fail
      go_ret
      exact ⟨t, os, R, rfl, HB3.out, FI, D3.out⟩
end Go.Proofs.YtkmadibfiikleaaDoor

namespace Go.Proofs.YtkmadibfiikleaaDoor
open Go.RowKit Go.Deep

/-- The whole root. -/
def IsRoot (A R : Int) : Prop := 0 ≤ R ∧ R * R ≤ A ∧ A < (R + 1) * (R + 1)

theorem limbs_isR (p : Option Addr) (n cap : Nat) (zs : List Int) (N : Nat) (w : World) (ha : Arg w p n cap zs) (hN : Nm.tsize zs = N) :
    Calls Tryd.prog 61 #[.slice p n cap] w fun e w' => e = .returned (.int .i64 (N : Int)) ∧ w' = w := by
  rw [← hN]
  exact limbs_any p n cap zs w ha

theorem root_big (p : Option Addr) (n cap : Nat) (za : List Int) (w : World) (ha : Arg w p n cap za) (tz : 256 < Nm.tsize za) :
    Calls Tryd.prog 50 #[.slice p n cap] w fun e w' => e = .returned (.tuple #[.slice none 0 0, .bool false, .int .i64 2]) ∧ w' = w := by
  obtain ⟨N, HN⟩ : ∃ N, Hid (Nm.tsize za = N) := ⟨_, rfl⟩
  have hN : (256 : Int) < (N : Int) := by have := HN.out; omega
  have HL := hid (limbs_isR p n cap za N w ha HN.out)
  clear ha tz
  go_enter Tryd.func50, Tryd.ntmps50
  go_wp2_with fail
  refine HL.out.mono ?_
  rintro e w' ⟨rfl, rfl⟩
  go_wp2_with fail
  go_ret3
  exact ⟨rfl, rfl⟩

theorem ret_root {t : Option Addr} {k : Nat} {b c : Bool} {e : Int} (h : b = c) : Ending.returned (.tuple #[.slice t k k, .bool b, .int .i64 e]) = .returned (.tuple #[.slice t k k, .bool c, .int .i64 e]) := by rw [h]

set_option maxRecDepth 100000 in
set_option maxHeartbeats 1000000 in
theorem root_ok (p : Option Addr) (n cap : Nat) (za : List Int) (A : Int) (w : World) (ha : Arg w p n cap za) (hT : Tab w) (tz : Nm.tsize za ≤ 256) (hA : Nm.val za = A) :
    Calls Tryd.prog 50 #[.slice p n cap] w fun e w' => ∃ t os R, e = .returned (.tuple #[.slice t (List.length os) (List.length os), .bool (decide (R * R = A)), .int .i64 0]) ∧ Ans w.heap.size w' t os R ∧ Hid (IsRoot A R) ∧ Below w.heap.size w w' := by
  obtain ⟨N, HN⟩ : ∃ N, Hid (Nm.tsize za = N) := ⟨_, rfl⟩
  have hN : (N : Int) ≤ 256 := by have := HN.out; omega
  have HL := hid (limbs_isR p n cap za N w ha HN.out)
  have hz := Nm.tsize_zero_iff ha.2.2.2.2
  have h0 := (Nm.val_bd za ha.2.2.2.2).1
  have hA2 : A < Nm.pw 256 := by rw [← hA]; exact (Nm.tsize_le_iff ha.2.2.2.2 256).1 tz
  rw [hA] at hz h0
  by_cases hN0 : N = 0
  · have hA0 : A = 0 := hz.1 (by rw [HN.out]; exact hN0)
    subst hN0
    subst hA0
    clear ha tz hz h0 hA2 hA
    go_enter Tryd.func50, Tryd.ntmps50
    go_wp2_with fail
    refine HL.out.mono ?_
    rintro e w' ⟨rfl, rfl⟩
    go_wp2_with fail
    refine HL.out.mono ?_
    rintro e w' ⟨rfl, rfl⟩
    go_wp2_with fail
    go_ret3
    exact ⟨none, [], 0, rfl, ans_none _ _ _ (fun a h => by cases h), show IsRoot 0 0 from ⟨by omega, by omega, by omega⟩, Below.refl _ _⟩
  · have hN1 : ((N : Int) == 0) = false := by rw [beq_eq_false_iff_ne]; omega
    have hA1 : 1 ≤ A := by
      rcases (show A = 0 ∨ 1 ≤ A by omega) with h | h
      · exact absurd (HN.out.symm.trans (hz.2 h)) hN0
      · exact h
    have NW := hid (newton_ok p n cap za A w ha hT hA hA1 hA2)
    have HA := hid ha
    have HV := hid hA
    have room := Rt.room
    have p128 := Nm.pw_pos 128
    have hAs : Hid (A < Nm.pw 4096) := by
      show _ < _
      generalize Nm.pw 4096 = x at *
      generalize Nm.pw 128 = y at *
      generalize Nm.pw 256 = z at *
      omega
    have HS : Hid (Nm.pw 128 < Nm.pw 4096) := by
      have p256 := Nm.pw_pos 256
      show _ < _
      generalize Nm.pw 4096 = x at *
      generalize Nm.pw 128 = y at *
      generalize Nm.pw 256 = z at *
      omega
    clear ha tz hz h0 hA2 hA hT room p128 hA1
    go_enter Tryd.func50, Tryd.ntmps50
    go_wp2_with fail
    refine HL.out.mono ?_
    rintro e w' ⟨rfl, rfl⟩
    go_wp2_with fail
    refine HL.out.mono ?_
    rintro e w' ⟨rfl, rfl⟩
    go_wp2_with fail
    refine NW.out.mono ?_
    rintro e w1 ⟨t, os, R, rfl, B1, HR, hb1⟩
    have HB1 := hid B1
    have D1 := hid hb1
    have HA1 := hid (HA.out.below hb1 (Nat.le_refl _))
    have hR : Hid (R < Nm.pw 4096) := Int.lt_of_le_of_lt HR.out.1.small HS.out
    have hRR : Hid (R * R < Nm.pw 4096) := Int.lt_of_le_of_lt HR.out.2 hAs.out
    clear B1 hb1 NW
    go_wp2_with fail
    refine (mul_ok t t _ _ _ _ os os _ (HB1.out.argR hR.out) (HB1.out.argR hR.out) (HB1.out.tsR hR.out) (HB1.out.tsR hR.out) (by rw [HB1.out.2.2.2.1]; exact hRR.out)).mono ?_
    rintro e w2 ⟨s, ss, rfl, B2, hb2⟩
    rw [HB1.out.2.2.2.1] at B2
    have HB2 := hid B2
    have HB1' := hid (HB1.out.below hb2 (Nat.le_refl _))
    have HA2 := hid (HA1.out.below hb2 (Nat.le_refl _))
    have D2 := hid (chain D1.out hb2 (Nat.le_refl _))
    have FI : Hid (IsRoot A R) := ⟨by have := HR.out.1.one; omega, HR.out.2, HR.out.1.above⟩
    clear B2 hb2 HB1 HA1 D1 HR
    obtain ⟨c, HC⟩ : ∃ c, Hid (cmpI (R * R) A = c) := ⟨_, rfl⟩
    have HE : Hid ((c == 0) = decide (R * R = A)) := by
      show _ = _
      rw [← HC.out, cmpI]
      have := FI.out.2.1
      by_cases h : R * R < A
      · rw [if_pos h]
        simp
        omega
      · rw [if_neg h, if_pos (by omega)]
        simp
        omega
    go_wp2_with fail
    refine (cmp_is c s p _ _ n cap ss za _ (HB2.out.argR hRR.out) HA2.out (by rw [HB2.out.2.2.2.1, HV.out]; exact HC.out)).mono ?_
    rintro e w3 ⟨rfl, hb3⟩
    have HB3 := hid (HB1'.out.below hb3 (Nat.le_refl _))
    have D3 := hid (chain D2.out hb3 (Nat.le_refl _))
    clear hb3
    go_wp2_with fail
    go_ret3
    exact ⟨t, os, R, ret_root HE.out, HB3.out, FI, D3.out⟩
end Go.Proofs.YtkmadibfiikleaaDoor

/-
  The root: what the squares of the middles say.
-/
namespace Go.Proofs.YtkmadibfiikleaaDoor
namespace Ie

theorem sq_le {a b : Int} (h0 : 0 ≤ a) (h : a ≤ b) : a * a ≤ b * b := Int.mul_le_mul h h h0 (by omega)
theorem sq_lt {a b : Int} (h0 : 0 ≤ a) (h : a < b) : a * a < b * b := by
  have h1 : a * a ≤ a * b := Int.mul_le_mul_of_nonneg_left (by omega) h0
  have h2 : a * b < b * b := Int.mul_lt_mul_of_pos_right h (by omega)
  omega

/-- The double x is the root of W, in units of 2^-2150: between the squares of the middles. -/
def RootIs (W x : Int) : Prop :=
  (0 < x ∧ x < 9218868437227405312) ∧ (md (x - 1) * md (x - 1) < W ∨ (md (x - 1) * md (x - 1) = W ∧ x % 2 = 0)) ∧ (W < md x * md x ∨ (W = md x * md x ∧ x % 2 = 0))

/-- What lies between a whole number of 64 bits and the next one holds no middle. -/
theorem no_md {r M : Int} {E a b : Nat} (hr : 18446744073709551616 ≤ r) (_M0 : 0 < M) (M1 : M < 18014398509481984) (h : r * 2 ^ a < M * 2 ^ E * 2 ^ b) : (r + 1) * 2 ^ a ≤ M * 2 ^ E * 2 ^ b := by
  rw [Int.mul_assoc, ← Nm.two_add] at h ⊢
  have lt : a < E + b := by
    rcases Nat.lt_or_ge a (E + b) with h' | h'
    · exact h'
    · exfalso
      have p := Nm.two_pos (E + b)
      have g1 : M * 2 ^ (E + b) < 18014398509481984 * 2 ^ (E + b) := Int.mul_lt_mul_of_pos_right M1 p
      have g2 := Nm.two_mono h'
      have g3 : 18446744073709551616 * 2 ^ a ≤ r * 2 ^ a := Int.mul_le_mul_of_nonneg_right hr (by have := Nm.two_pos a; omega)
      omega
  rw [show E + b = (E + b - a) + a by omega, Nm.two_add (E + b - a) a, ← Int.mul_assoc] at h ⊢
  have p := Nm.two_pos a
  have := Int.lt_of_mul_lt_mul_right h (by omega)
  exact Int.mul_le_mul_of_nonneg_right (by omega) (by omega)

theorem two_sq (a : Nat) : (2 : Int) ^ a * 2 ^ a = 2 ^ (2 * a) := by rw [← Nm.two_add]; congr 1; omega

theorem mul_sq (r : Int) (a : Nat) : r * 2 ^ a * (r * 2 ^ a) = r * r * 2 ^ (2 * a) := by
  rw [← two_sq]; ac_rfl

/-- n the radicand, r its whole root, moved by e; W = n * 2^(2 e + 2150). -/
theorem root_is (n r e x W : Int) (more : Bool) (hr : 18446744073709551616 ≤ r) (h1 : r * r ≤ n) (h2 : n < (r + 1) * (r + 1)) (hm : more = decide (r * r ≠ n)) (h : Rnd r 1 e more x)
    (c d : Nat) (hcd : (c : Int) - d = 2 * e + 2150) (hW : n * 2 ^ c = W * 2 ^ d) (hlo : 1 < W) (hhi : W < 18014398509481983 * 2 ^ 2045 * (18014398509481983 * 2 ^ 2045)) : RootIs W x := by
  obtain ⟨a, b, hab, hN⟩ := h.at
  rw [Int.one_mul] at hN
  have pa := Nm.two_pos a
  have pb := Nm.two_pos b
  have p2a := Nm.two_pos (2 * a)
  have p2b := Nm.two_pos (2 * b)
  -- W * 2^(2b) = n * 2^(2a)
  have key : n * 2 ^ (2 * a) = W * 2 ^ (2 * b) := by
    have pd := Nm.two_pos d
    have pc := Nm.two_pos c
    have e1 : (2 : Int) ^ (2 * a) * 2 ^ d = 2 ^ c * 2 ^ (2 * b) := by rw [← Nm.two_add, ← Nm.two_add]; congr 1; omega
    refine Int.eq_of_mul_eq_mul_right (a := 2 ^ d) (by omega) ?_
    rw [Int.mul_assoc, e1, ← Int.mul_assoc, hW]
    ac_rfl
  have lo : ∀ y, 0 ≤ y → (md y * 2 ^ b < r * 2 ^ a ∨ (md y * 2 ^ b = r * 2 ^ a ∧ (x % 2 = 0 ∨ more = true))) → md y * md y < W ∨ (md y * md y = W ∧ x % 2 = 0) := by
    intro y hy g
    have my := md_nn y hy
    have g0 : md y * 2 ^ b ≤ r * 2 ^ a := by rcases g with g | g <;> omega
    have g1 := sq_le (Int.mul_nonneg (by omega) (by omega)) g0
    rw [mul_sq, mul_sq] at g1
    have g2 : r * r * 2 ^ (2 * a) ≤ n * 2 ^ (2 * a) := Int.mul_le_mul_of_nonneg_right h1 (by omega)
    have g3 : md y * md y * 2 ^ (2 * b) ≤ W * 2 ^ (2 * b) := by omega
    have g4 := Int.le_of_mul_le_mul_right g3 p2b
    rcases (show md y * md y < W ∨ md y * md y = W by omega) with g5 | g5
    · exact .inl g5
    · right
      refine ⟨g5, ?_⟩
      rw [← g5] at key
      have g6 : r * r * 2 ^ (2 * a) = n * 2 ^ (2 * a) := by omega
      have g7 : r * r = n := Int.eq_of_mul_eq_mul_right (by omega) g6
      have g8 : more = false := by rw [hm]; simp [g7]
      rcases g with g | ⟨_, g⟩
      · have g9 := sq_lt (Int.mul_nonneg (by omega) (by omega)) g
        rw [mul_sq, mul_sq] at g9
        omega
      · rcases g with g | g
        · exact g
        · rw [g8] at g; cases g
  have hi : ∀ y, 0 ≤ y → (r * 2 ^ a < md y * 2 ^ b ∨ (r * 2 ^ a = md y * 2 ^ b ∧ x % 2 = 0 ∧ more = false)) → W < md y * md y ∨ (W = md y * md y ∧ x % 2 = 0) := by
    intro y hy g
    rcases g with g | ⟨g, g', g''⟩
    · left
      obtain ⟨M, E, hM, M0, M1⟩ := md_form y hy
      rw [hM] at g
      have g1 := no_md hr M0 M1 g
      rw [← hM] at g1
      have g2 := sq_le (Int.mul_nonneg (by omega) (by omega)) g1
      rw [mul_sq, mul_sq] at g2
      have g3 := Int.mul_lt_mul_of_pos_right h2 p2a
      refine Int.lt_of_mul_lt_mul_right (a := 2 ^ (2 * b)) ?_ (by omega)
      omega
    · right
      refine ⟨?_, g'⟩
      have g1 : r * r = n := by
        rw [hm] at g''
        simpa using g''
      have g2 : r * 2 ^ a * (r * 2 ^ a) = md y * 2 ^ b * (md y * 2 ^ b) := by rw [g]
      rw [mul_sq, mul_sq, g1] at g2
      exact Int.eq_of_mul_eq_mul_right (a := 2 ^ (2 * b)) (by omega) (by omega)
  have x0 : 0 < x := by
    rcases (show x = 0 ∨ 0 < x by have := hN.1.1; omega) with h0 | h0
    · exfalso
      subst h0
      have g := hi 0 (by omega) (hN.2.2 (by omega))
      rw [md_zero] at g
      omega
    · exact h0
  have x1 : x < 9218868437227405312 := by
    rcases (show x = 9218868437227405312 ∨ x < 9218868437227405312 by have := hN.1.2; omega) with h0 | h0
    · exfalso
      subst h0
      have g := lo 9218868437227405311 (by omega) (hN.2.1 (by omega))
      rw [md_last] at g
      omega
    · exact h0
  exact ⟨⟨x0, x1⟩, lo (x - 1) (by omega) (hN.2.1 x0), hi x (by omega) (hN.2.2 x1)⟩

theorem RootIs.one {W x y : Int} (h : RootIs W x) (k : RootIs W y) : x = y := by
  have key : ∀ {x y : Int}, RootIs W x → RootIs W y → ¬ x < y := by
    intro x y h k hl
    have g1 := h.2.2
    have g2 := k.2.1
    have hx := h.1.1
    have m1 := md_nn x (by omega)
    rcases (show x = y - 1 ∨ x < y - 1 by omega) with e | e
    · rw [← e] at g2
      rcases g1 with g1 | ⟨g1, g1'⟩ <;> rcases g2 with g2 | ⟨g2, g2'⟩ <;> omega
    · have := sq_lt (by omega) (md_lt (by omega) e)
      rcases g1 with g1 | ⟨g1, g1'⟩ <;> rcases g2 with g2 | ⟨g2, g2'⟩ <;> omega
  have a := key h k
  have b := key k h
  omega
end Ie
end Go.Proofs.YtkmadibfiikleaaDoor

/-
  soft: root, sqrt, Sqrt (made by mksqrt.py).
-/
namespace Go.Proofs.YtkmadibfiikleaaDoor
open Go Go.RowKit Go.Deep

theorem i64_and1 (n : Int) : bits .and .i64 n 1 = n % 2 := by
  have h1 : (BitVec.ofInt 64 1).toNat = 2 ^ 1 - 1 := by decide
  have key : (BitVec.ofInt 64 n &&& BitVec.ofInt 64 1).toNat = (n % ((2 ^ 64 : Nat) : Int)).toNat % 2 ^ 1 := by
    rw [BitVec.toNat_and, BitVec.toNat_ofInt, h1, Nat.and_two_pow_sub_one_eq_mod]
  show IntKind.i64.wrap ((BitVec.ofInt 64 n &&& BitVec.ofInt 64 1).toNat : Nat) = n % 2
  rw [key, IntKind.wrap_i64]
  omega

/-- What root answers. -/
def RootTold (V e : Int) (w : World) (r : Ending) (w' : World) : Prop :=
  ∃ (p : Option Addr) (os : List Int) (R k : Int) (d : Nat), r = .returned (exactOf false p (List.length os) (List.length os) k (!decide (R * R = V * 2 ^ d))) ∧ Ans w.heap.size w' p os R ∧ (d = 128 ∨ d = 129) ∧ 2 * k = e - d ∧ IsRoot (V * 2 ^ d) R ∧ Below w.heap.size w w'

set_option maxRecDepth 100000 in
set_option maxHeartbeats 4000000 in
theorem root_xany (n1 m1 : Bool) (p1 : Option Addr) (l1 c1 : Nat) (z1 : List Int) (e V : Int) (w : World) (a1 : Arg w p1 l1 c1 z1) (hT : Tab w) (hV : Nm.val z1 = V) (b1 : V < 2 ^ 60) (q1 : -1100 ≤ e) (q2 : e ≤ 1000) :
    Calls Tryd.prog 30 #[exactOf n1 p1 l1 c1 e m1] w fun r w' => RootTold V e w r w' := by
  have v0 : 0 ≤ V := by rw [← hV]; exact (Nm.val_bd z1 a1.2.2.2.2).1
  obtain ⟨m, hm⟩ : ∃ m, e % 2 = m := ⟨_, rfl⟩
  have m0 : 0 ≤ m ∧ m ≤ 1 := by omega
  obtain ⟨d, hd⟩ : ∃ d : Nat, (d : Int) = 128 + m := ⟨(128 + m).toNat, by omega⟩
  obtain ⟨k, hk⟩ : ∃ k, 2 * k = e - (128 + m) := ⟨(e - (128 + m)) / 2, by omega⟩
  have BA := i64_and1 e
  rw [hm] at BA
  have TD : (e - (128 + m)).tdiv 2 = k := by
    rw [← hk, Int.mul_tdiv_cancel_left _ (by decide)]
  have WK : wrap64 k = k := by simp only [wrap64]; omega
  have e4096 := pw_4096
  have big := Nm.two_mono (show 189 ≤ 262144 by omega)
  have b60 := Nm.two_mono (show 60 ≤ 189 by omega)
  have pr : V * 2 ^ d < 2 ^ 189 := by
    have h2 : V * 2 ^ d < 2 ^ 60 * 2 ^ d := Int.mul_lt_mul_of_pos_right b1 (Nm.two_pos d)
    rw [← Nm.two_add] at h2
    have := Nm.two_mono (show 60 + d ≤ 189 by omega)
    omega
  have t1 : Nm.tsize z1 ≤ 4096 := (Nm.tsize_le_iff a1.2.2.2.2 4096).2 (by rw [hV]; omega)
  have S1 : Hid (∀ (wx : World) (j : Int), Below w.heap.size w wx → j = 128 + m → Calls Tryd.prog 40 #[.slice p1 l1 c1, .int .i64 j] wx fun e w' => ∃ r os, e = .returned (.tuple #[.slice r (List.length os) (List.length os), .int .i64 0]) ∧ Ans wx.heap.size w' r os (V * 2 ^ d) ∧ Below wx.heap.size wx w') := by
    intro wx j hx hj
    have := shl_any p1 l1 c1 z1 j d wx (a1.below hx (Nat.le_refl _)) t1 (by omega) (by rw [hV]; omega)
    rw [hV] at this
    exact this
  have R1 : Hid (∀ (wx : World) (p : Option Addr) (os : List Int) (B : Nat), Below w.heap.size w wx → Ans B wx p os (V * 2 ^ d) → Calls Tryd.prog 50 #[.slice p os.length os.length] wx fun e w' => ∃ t qs R, e = .returned (.tuple #[.slice t (List.length qs) (List.length qs), .bool (decide (R * R = V * 2 ^ d)), .int .i64 0]) ∧ Ans wx.heap.size w' t qs R ∧ Hid (IsRoot (V * 2 ^ d) R) ∧ Below wx.heap.size wx w') := by
    intro wx p os B hx A
    have g := (A.tl pr (show 189 ≤ 262144 by omega))
    refine root_ok p _ _ os _ wx (A.arg (by omega)) (hT.below hx) ?_ A.2.2.2.1
    refine (Nm.tsize_le_iff A.2.1 256).2 ?_
    rw [A.2.2.2.1, Nm.pw_two]
    have := Nm.two_mono (show 189 ≤ 64 * 256 by omega)
    omega
  have h1 := alloc_b w (.cells #[.bool n1, .slice p1 l1 c1, .int .i64 e, .bool m1] 47)
  have s1 : (w.alloc (.cells #[.bool n1, .slice p1 l1 c1, .int .i64 e, .bool m1] 47)).heap.size = w.heap.size + 1 := by simp
  have R0 := Row4.new (w.alloc (.cells #[.bool n1, .slice p1 l1 c1, .int .i64 e, .bool m1] 47)) 47 (.bool false) (.slice none 0 0) (.int .i64 0) (.bool false)
  rw [s1] at R0
  have X0 := (Row4.new w 47 (.bool n1) (.slice p1 l1 c1) (.int .i64 e) (.bool m1)).below (alloc_b (w.alloc (.cells #[.bool n1, .slice p1 l1 c1, .int .i64 e, .bool m1] 47)) (.cells #[.bool false, .slice none 0 0, .int .i64 0, .bool false] 47)) (by omega)
  have h2 := Below.alloc h1 h1.size (.cells #[.bool false, .slice none 0 0, .int .i64 0, .bool false] 47)
  have HR := hid R0
  have HX := hid X0
  have HB := hid h2
  have FI : Hid (∀ (w3 : World) (p : Option Addr) (os : List Int) (R : Int), Ans (w.heap.size + 2) w3 p os R → Below w.heap.size w w3 → IsRoot (V * 2 ^ d) R →
      RootTold V e w (.returned (exactOf false p (List.length os) (List.length os) k (!decide (R * R = V * 2 ^ d)))) ((((w3.setCell ⟨w.heap.size + 1, 0, none⟩ (.bool false)).setCell ⟨w.heap.size + 1, 1, none⟩ (.slice p os.length os.length)).setCell ⟨w.heap.size + 1, 2, none⟩ (.int .i64 k)).setCell ⟨w.heap.size + 1, 3, none⟩ (.bool (!decide (R * R = V * 2 ^ d))))) := by
    intro w3 p os R A hB hR
    have A' := A.set4 (b := w.heap.size + 1) (u0 := .bool false) (u1 := .slice p os.length os.length) (u2 := .int .i64 k) (u3 := .bool (!decide (R * R = V * 2 ^ d))) (by omega)
    exact ⟨p, os, R, k, d, rfl, ⟨A'.1, A'.2.1, A'.2.2.1, A'.2.2.2.1, fun a h => by have := A'.2.2.2.2 a h; omega⟩, by omega, by omega, hR, set4_below hB (by omega)⟩
  obtain ⟨⟨y0, y1, y2, y3⟩, -⟩ := X0.cells
  simp only [exactOf]
  clear a1 hT hV b1 v0 hm hd hk e4096 big b60 pr t1 h1 s1 R0 X0 h2
  generalize V * 2 ^ d = N at *
  obtain ⟨m0, m1'⟩ := m0
  go_enter Tryd.func30, Tryd.ntmps30
  go_wp2_with fail
  refine (S1.out _ _ HB.out (by omega)).mono ?_
  rintro r wa ⟨pa, oa, rfl, A, hB⟩
  have Ra := HR.out.below hB HR.out.lt
  have Xa := HX.out.below hB HX.out.lt
  have Ba := HB.out.trans (hB.mono HB.out.size)
  have RO := hid (R1.out wa pa oa _ Ba A)
  have HRa := hid Ra
  have HXa := hid Xa
  have HBa := hid Ba
  have LT := hid (Nat.lt_of_lt_of_le HR.out.lt hB.size)
  clear y0 y1 y2 y3
  obtain ⟨⟨y0, y1, y2, y3⟩, -⟩ := Xa.cells
  clear A hB Ra Xa Ba S1 R1 HR HX HB
  go_wp2_with fail
  refine RO.out.mono ?_
  rintro r wb ⟨pb, ob, R, rfl, A, hIs, hB⟩
  have Rb := HRa.out.below hB HRa.out.lt
  have Xb := HXa.out.below hB HXa.out.lt
  have lt := LT.out
  have KK := hid (FI.out wb pb ob R ⟨A.1, A.2.1, A.2.2.1, A.2.2.2.1, fun a h => by have := A.2.2.2.2 a h; omega⟩ (HBa.out.trans (hB.mono HBa.out.size)) hIs.out)
  clear y0 y1 y2 y3
  obtain ⟨⟨y0, y1, y2, y3⟩, -⟩ := Xb.cells
  have RR := hid Rb
  obtain ⟨⟨r0, r1, r2, r3⟩, ⟨f0, f1, f2, f3⟩⟩ := Rb.cells
  clear A hB Rb Xb RO HRa HXa HBa LT lt FI hIs
  go_wp2_with fail
  (try simp only [Exit.inBlock, Exit.then])
  refine bodyPost_ret (results_cell_row rfl _ _ (w.heap.size + 1) 47 _ (0, 0) _ rfl (Row4.set RR.out) Tryd.underlying47 rfl (by kernel_rfl)) rfl ?_
  exact KK.out

namespace Ie
/-- What sqrt answers. -/
def SqrtIs (a r f : Int) : Prop :=
  if isn a = true then r = 9221120237041090560 ∧ f = 0
  else if isz a = true ∨ a = 9218868437227405312 then r = a ∧ f = 0
  else if ngd a = true then r = 9221120237041090560 ∧ f = 1
  else ∃ (R k : Int) (d : Nat), (d = 128 ∨ d = 129) ∧ 2 * k = de a - d ∧ IsRoot (dm a * 2 ^ d) R ∧ Res false R k (!decide (R * R = dm a * 2 ^ d)) r f

theorem root_small {N R : Int} (h : IsRoot N R) (hN : N < 2 ^ 189) : R < 2 ^ 189 := by
  have h0 := h.1
  have h1 := h.2.1
  rcases (show R = 0 ∨ 1 ≤ R by omega) with g | g
  · have := Nm.two_pos 189; omega
  · have : R * 1 ≤ R * R := Int.mul_le_mul_of_nonneg_left g h0
    omega
end Ie

set_option maxRecDepth 100000 in
set_option maxHeartbeats 4000000 in
theorem sqrt_any (a : Int) (w : World) (a0 : 0 ≤ a) (a1 : a < 18446744073709551616) (hT : Tab w) :
    Calls Tryd.prog 17 #[.int .u64 a] w fun e w' => Told2 (Ie.SqrtIs a) w e w' := by
  have NA := hid (fun (wx : World) => nan_any a wx a0 a1)
  have ZA := hid (fun (wx : World) => zero_any a wx a0 a1)
  have SA := Ib.sign_and a a0 a1
  have KK : Hid (∀ (e : Ending) (r f : Int), e = .returned (.tuple #[.int .u64 r, .int .i64 f]) → Ie.SqrtIs a r f → Told2 (Ie.SqrtIs a) w e w) := fun e r f h1 h2 => ⟨r, f, h1, h2, Below.refl _ _⟩
  cases na : Ie.isn a
  · rw [na] at NA
    cases za : Ie.isz a
    · rw [za] at ZA
      by_cases hi : a = 9218868437227405312
      · have SP : Hid (Ie.SqrtIs a a 0) := by rw [Hid, Ie.SqrtIs, na, za]; simp [hi]
        subst hi
        clear na za hT SA
        go_enter Tryd.func17, Tryd.ntmps17
        go_wp2_with fail
        refine (NA.out _).mono ?_
        rintro e wz ⟨rfl, hz⟩
        replace hz := hz.symm
        subst hz
        go_wp2_with fail
        refine (ZA.out _).mono ?_
        rintro e wz ⟨rfl, hz⟩
        replace hz := hz.symm
        subst hz
        go_wp2_with fail
        go_ret2
        exact KK.out _ _ _ rfl SP.out
      · have hi' : (a == 9218868437227405312) = false := by rw [beq_eq_false_iff_ne]; exact hi
        cases ng : Ie.ngd a
        · have s0 : a / 9223372036854775808 = 0 := by
            rw [Ie.ngd, decide_eq_false_iff_not] at ng
            omega
          rw [s0, Int.zero_mul] at SA
          have fa : Ie.fin a := by
            rw [Ie.isn, decide_eq_false_iff_not] at na
            rw [Ie.ngd, decide_eq_false_iff_not] at ng
            rw [Ie.fin]
            simp only [Ie.ab] at na ⊢
            omega
          obtain ⟨⟨da0, da1⟩, ⟨ea0, ea1⟩, -, -⟩ := Ie.dec_f a fa
          have e60 : (2 : Int) ^ 60 = 1152921504606846976 := by decide
          have da2 : Ie.dm a < 2 ^ 60 := by omega
          have UA := hid (fun (wx : World) => number_any a wx a0 a1 fa)
          have RT : Hid (∀ (wx : World) (p : Option Addr) (os : List Int) (B : Nat), Below w.heap.size w wx → Ans B wx p os (Ie.dm a) → Calls Tryd.prog 30 #[exactOf (Ie.ngd a) p os.length os.length (Ie.de a) false] wx fun r w' => RootTold (Ie.dm a) (Ie.de a) wx r w') := by
            intro wx p os B hx A
            exact root_xany _ _ p _ _ os _ _ wx (A.arg (by have := A.tl da2 (show 60 ≤ 262144 by omega); omega)) (hT.below hx) A.2.2.2.1 da2 (by omega) (by omega)
          have RO : Hid (∀ (wx : World) (p : Option Addr) (os : List Int) (R k : Int) (d : Nat) (more : Bool) (B : Nat), Below w.heap.size w wx → Ans B wx p os R → (d = 128 ∨ d = 129) → 2 * k = Ie.de a - d → IsRoot (Ie.dm a * 2 ^ d) R → Calls Tryd.prog 31 #[exactOf false p os.length os.length k more] wx fun r w' => RoundedTold false R k more wx r w') := by
            intro wx p os R k d more B hx A hd hk hI
            have hN : Ie.dm a * 2 ^ d < 2 ^ 189 := by
              have h2 : Ie.dm a * 2 ^ d < 2 ^ 60 * 2 ^ d := Int.mul_lt_mul_of_pos_right da2 (Nm.two_pos d)
              rw [← Nm.two_add] at h2
              have := Nm.two_mono (show 60 + d ≤ 189 by omega)
              omega
            have vb := Ie.root_small hI hN
            have m5 := Nm.two_mono (show 189 ≤ 5000 by omega)
            exact rounded_any false more p _ _ os k R wx (A.arg (by have := A.tl vb (show 189 ≤ 262144 by omega); omega)) (hT.below hx) A.2.2.2.1 A.len0 (by omega) (by omega) (by omega)
          have FI : Hid (∀ (r f : Int), (∃ (R k : Int) (d : Nat), (d = 128 ∨ d = 129) ∧ 2 * k = Ie.de a - d ∧ IsRoot (Ie.dm a * 2 ^ d) R ∧ Ie.Res false R k (!decide (R * R = Ie.dm a * 2 ^ d)) r f) → Ie.SqrtIs a r f) := by
            intro r f h
            rw [Ie.SqrtIs, na, za, ng]
            simp only [Bool.false_eq_true, hi, or_self, if_false]
            exact h
          clear na za ng hi hT da0 da1 ea0 ea1 e60 da2 fa s0
          go_enter Tryd.func17, Tryd.ntmps17
          go_wp2_with fail
          refine (NA.out _).mono ?_
          rintro e wz ⟨rfl, hz⟩
          replace hz := hz.symm
          subst hz
          go_wp2_with fail
          refine (ZA.out _).mono ?_
          rintro e wz ⟨rfl, hz⟩
          replace hz := hz.symm
          subst hz
          go_wp2_with fail
          refine (UA.out _).mono ?_
          rintro e w1 ⟨pa, oa, rfl, A1, hB1⟩
          have RT1 := hid (RT.out w1 pa oa _ hB1 A1)
          have HB := hid hB1
          simp only [exactOf] at RT1 ⊢
          clear A1 hB1 RT UA
          go_wp2_with fail
          refine RT1.out.mono ?_
          rintro e w2 ⟨p, os, R, k, d, rfl, A2, hd, hk, hI, hB2⟩
          have Bw := HB.out.trans (hB2.mono HB.out.size)
          have RR := hid (RO.out w2 p os R k d (!decide (R * R = Ie.dm a * 2 ^ d)) _ Bw A2 hd hk hI)
          have HC := hid Bw
          have HS := hid (And.intro hd (And.intro hk hI))
          simp only [exactOf] at RR ⊢
          have FI2 : Hid (∀ (r f : Int), Ie.Res false R k (!decide (R * R = Ie.dm a * 2 ^ d)) r f → Ie.SqrtIs a r f) := fun r f h => FI.out r f ⟨R, k, d, hd, hk, hI, h⟩
          generalize (!decide (R * R = Ie.dm a * 2 ^ d)) = mo at *
          clear A2 hB2 Bw RO RT1 HB hd hk hI
          go_wp2_with fail
          refine RR.out.mono ?_
          rintro e w4 ⟨x, t, L, rfl, h1, h2, h3, hB4⟩
          have KR : Hid (Told2 (Ie.SqrtIs a) w (.returned (.tuple #[.int .u64 (Ie.sg false x), .int .i64 (Ie.flg R k mo (Ie.sg false x) t L)])) w4) :=
            ⟨_, _, rfl, FI2.out _ _ ⟨x, t, L, rfl, rfl, h1, h2, h3⟩, HC.out.trans (hB4.mono HC.out.size)⟩
          clear h1 h2 h3 hB4 HC RR FI FI2 HS
          go_wp2_with fail
          go_ret2
          exact KR.out
        · have s0 : a / 9223372036854775808 = 1 := by
            rw [Ie.ngd, decide_eq_true_eq] at ng
            omega
          rw [s0, Int.one_mul] at SA
          have SP : Hid (Ie.SqrtIs a 9221120237041090560 1) := by rw [Hid, Ie.SqrtIs, na, za, ng]; simp [hi]
          clear na za ng hi hT s0
          go_enter Tryd.func17, Tryd.ntmps17
          go_wp2_with fail
          refine (NA.out _).mono ?_
          rintro e wz ⟨rfl, hz⟩
          replace hz := hz.symm
          subst hz
          go_wp2_with fail
          refine (ZA.out _).mono ?_
          rintro e wz ⟨rfl, hz⟩
          replace hz := hz.symm
          subst hz
          go_wp2_with fail
          go_ret2
          exact KK.out _ _ _ rfl SP.out
    · have SP : Hid (Ie.SqrtIs a a 0) := by rw [Hid, Ie.SqrtIs, na, za]; simp
      rw [za] at ZA
      clear na za hT SA
      go_enter Tryd.func17, Tryd.ntmps17
      go_wp2_with fail
      refine (NA.out _).mono ?_
      rintro e wz ⟨rfl, hz⟩
      replace hz := hz.symm
      subst hz
      go_wp2_with fail
      refine (ZA.out _).mono ?_
      rintro e wz ⟨rfl, hz⟩
      replace hz := hz.symm
      subst hz
      go_wp2_with fail
      go_ret2
      exact KK.out _ _ _ rfl SP.out
  · have SP : Hid (Ie.SqrtIs a 9221120237041090560 0) := by rw [Hid, Ie.SqrtIs, na]; simp
    rw [na] at NA
    clear na hT SA
    go_enter Tryd.func17, Tryd.ntmps17
    go_wp2_with fail
    refine (NA.out _).mono ?_
    rintro e wz ⟨rfl, hz⟩
    replace hz := hz.symm
    subst hz
    go_wp2_with fail
    go_ret2
    exact KK.out _ _ _ rfl SP.out
set_option maxRecDepth 100000 in
set_option maxHeartbeats 4000000 in
theorem softSqrt_any (a : Int) (w : World) (a0 : 0 ≤ a) (a1 : a < 18446744073709551616) (hT : Tab w) :
    Calls Tryd.prog 5 #[.int .u64 a] w fun e w' => Told1 (Ie.SqrtIs a) w e w' := by
  have AD := hid (sqrt_any a w a0 a1 hT)
  clear hT
  go_enter Tryd.func5, Tryd.ntmps5
  go_wp2_with fail
  refine AD.out.mono ?_
  rintro e w1 ⟨r, f, rfl, h, hB⟩
  have KK : Hid (Told1 (Ie.SqrtIs a) w (.returned (.int .u64 r)) w1) := ⟨r, f, rfl, h, hB⟩
  clear h hB AD
  go_wp2_with fail
  go_ret
  exact KK.out
end Go.Proofs.YtkmadibfiikleaaDoor

/-
  What sqrt answers of a double above nothing: between the squares of the middles.
-/
namespace Go.Proofs.YtkmadibfiikleaaDoor
namespace Ie

theorem SqrtIs.get {a r f : Int} (fa : fin a) (hz : ab a ≠ 0) (hn : ngd a = false) (h : SqrtIs a r f) : ∃ (R k : Int) (d : Nat), (d = 128 ∨ d = 129) ∧ 2 * k = de a - d ∧ IsRoot (dm a * 2 ^ d) R ∧ Res false R k (!decide (R * R = dm a * 2 ^ d)) r f := by
  have za : isz a = false := by rw [isz, decide_eq_false_iff_not]; exact hz
  have hi : ¬ a = 9218868437227405312 := by
    intro h
    rw [fin, h] at fa
    revert fa
    decide
  rw [SqrtIs, (fin_not fa).1, za, hn] at h
  simp only [Bool.false_eq_true, hi, or_self, if_false] at h
  exact h

theorem SqrtIs.root {a r f : Int} (fa : fin a) (hz : ab a ≠ 0) (hn : ngd a = false) (h : SqrtIs a r f) : RootIs (un (ab a) * 2 ^ 1076) r := by
  obtain ⟨R, k, d, hd, hk, hI, x, t, L, rfl, -, hR, -, -⟩ := h.get fa hz hn
  obtain ⟨⟨da0, da1⟩, ⟨ea0, ea1⟩, ga, za⟩ := dec_f a fa
  have dp : 0 < dm a := by omega
  have up := un_pos (x := ab a) (by have := (ab_bd a).1; omega)
  have nb : (2 : Int) ^ 128 ≤ dm a * 2 ^ d := by
    have h1 : 1 * 2 ^ d ≤ dm a * 2 ^ d := Int.mul_le_mul_of_nonneg_right (by omega) (by have := Nm.two_pos d; omega)
    have h2 := Nm.two_mono (show 128 ≤ d by omega)
    omega
  have rb : 18446744073709551616 ≤ R := by
    rcases (show 18446744073709551616 ≤ R ∨ R + 1 ≤ 18446744073709551616 by omega) with g | g
    · exact g
    · exfalso
      have h1 := sq_le (show 0 ≤ R + 1 by have := hI.1; omega) g
      have h2 : (2 : Int) ^ 128 = 18446744073709551616 * 18446744073709551616 := by decide
      have h3 := hI.2.2
      omega
  obtain ⟨ka, hka⟩ : ∃ k : Nat, (k : Int) = de a + 1074 := ⟨(de a + 1074).toNat, by omega⟩
  obtain ⟨c, hc⟩ : ∃ c : Nat, (c : Int) = de a + 2150 - d := ⟨(de a + 2150 - d).toNat, by omega⟩
  have um : un (ab a) < 2 ^ 2099 := by
    have h1 := un_lt (ab_bd a).1 fa
    have e1 : man 9218868437227405312 = 4503599627370496 := by decide
    have e2 : ex 9218868437227405312 = 2046 := by decide
    have e3 : un 9218868437227405312 = 2 ^ 2098 := by rw [un, e1, e2, show 2098 = 52 + 2046 by rfl, Nm.two_add]; rfl
    have e4 : (2 : Int) ^ 2099 = 2 * 2 ^ 2098 := Nm.two_succ 2098
    have := Nm.two_pos 2098
    omega
  refine root_is (dm a * 2 ^ d) R k r _ _ rb hI.2.1 hI.2.2 (by simp) hR c 0 (by omega) ?_ ?_ ?_
  · rw [← ga ka hka, Int.pow_zero, Int.mul_one, Int.mul_assoc, Int.mul_assoc, ← Nm.two_add, ← Nm.two_add, show d + c = ka + 1076 by omega]
  · have h1 : 1 * 2 ^ 1076 ≤ un (ab a) * 2 ^ 1076 := Int.mul_le_mul_of_nonneg_right (by omega) (by have := Nm.two_pos 1076; omega)
    have h2 := Nm.two_mono (show 1 ≤ 1076 by omega)
    have h3 : (2 : Int) ^ 1 = 2 := rfl
    omega
  · have h1 : un (ab a) * 2 ^ 1076 < 2 ^ 2099 * 2 ^ 1076 := Int.mul_lt_mul_of_pos_right um (Nm.two_pos 1076)
    rw [← Nm.two_add] at h1
    have h2 : (2 : Int) ^ 2045 ≤ 18014398509481983 * 2 ^ 2045 := by have := Nm.two_pos 2045; omega
    have h3 := sq_le (show 0 ≤ (2 : Int) ^ 2045 by have := Nm.two_pos 2045; omega) h2
    rw [← Nm.two_add] at h3
    have h4 := Nm.two_mono (show 2099 + 1076 ≤ 2045 + 2045 by omega)
    omega

/-- A square of a double has it for its root. -/
theorem root_sq (y : Int) (h0 : 0 < y) (h1 : y < 9218868437227405312) : RootIs (vl y * vl y) y := by
  refine ⟨⟨h0, h1⟩, .inl ?_, .inl ?_⟩
  · have g := md_lt_vl (y - 1) (by omega)
    rw [show y - 1 + 1 = y by omega] at g
    exact sq_lt (by have := md_nn (y - 1) (by omega); omega) g
  · exact sq_lt (vl_nn (by omega)) (vl_lt_md y)

theorem sqrt_9 {r f : Int} (h : SqrtIs 4621256167635550208 r f) : r = 4613937818241073152 := by
  have h1 := h.root (by rw [fin]; decide) (by decide) (by decide)
  have e : ab 4621256167635550208 = 4621256167635550208 := by decide
  rw [e] at h1
  have h2 := root_sq 4613937818241073152 (by omega) (by omega)
  have e2 : vl 4613937818241073152 * vl 4613937818241073152 = un 4621256167635550208 * 2 ^ 1076 := by
    rw [vl_un, un_3, un_9]
    have e1 : (2 : Int) ^ 1076 = 18014398509481984 * 2 ^ 1022 := by rw [show 1076 = 54 + 1022 by rfl, Nm.two_add]; rfl
    rw [e1, p1022.1, p1022.2.2]
    generalize (2 : Int) ^ 1022 = P
    have l : (2 : Int) * (6755399441055744 * (2 * P)) * (2 * (6755399441055744 * (2 * P))) = 730166745731460135262101046296576 * (P * P) := by
      rw [show (2 : Int) * (6755399441055744 * (2 * P)) = 27021597764222976 * P by omega]
      rw [show (27021597764222976 : Int) * P * (27021597764222976 * P) = (27021597764222976 * 27021597764222976) * (P * P) by ac_rfl]
      rfl
    have r : (5066549580791808 : Int) * (8 * P) * (18014398509481984 * P) = 730166745731460135262101046296576 * (P * P) := by
      rw [show (5066549580791808 : Int) * (8 * P) * (18014398509481984 * P) = (5066549580791808 * 8 * 18014398509481984) * (P * P) by ac_rfl]
      rfl
    rw [l, r]
  rw [e2] at h2
  exact h1.one h2
end Ie
end Go.Proofs.YtkmadibfiikleaaDoor
