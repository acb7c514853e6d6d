/-
  Texts put together: Walk4, MulOver, QGives, MAns, MLeftF, MLeftR, MFmod, MRem.
-/
import Derived.Test.YtkmadibfiikleaaDoorWalk2a
import Derived.Test.YtkmadibfiikleaaDoorNums
import Derived.Test.YtkmadibfiikleaaDoorQAll
import Derived.Test.YtkmadibfiikleaaDoorFromW
import Derived.Test.YtkmadibfiikleaaDoorTrimW
import Derived.Test.YtkmadibfiikleaaDoorBL
import Derived.Test.YtkmadibfiikleaaDoorIS
import Derived.Test.YtkmadibfiikleaaDoorSmall
import Derived.Test.YtkmadibfiikleaaDoorNSub
import Derived.Test.YtkmadibfiikleaaDoorBitW
import Derived.Test.YtkmadibfiikleaaDoorIRound
import Derived.Test.YtkmadibfiikleaaDoorMA
namespace Go.Proofs.YtkmadibfiikleaaDoor
open Go.RowKit Go.Deep

/-- Behind j limbs of a: the block holds the product of these and b. -/
def ProdInv (g k : Nat) (w : World) (ls bs : List Int) (j : Nat) (os : List Int) (wr : World) : Prop :=
  Own wr g os ∧ os.length = k ∧ Nm.Limbs os ∧ Nm.val os = Nm.val (ls.take j) * Nm.val bs ∧ Below g w wr

theorem ProdInv.step {g k : Nat} {w : World} {ls bs : List Int} {j : Nat} {os : List Int} {wr w' : World} {n : Nat} (hn : bs.length = n) (ha : Nm.Limbs ls) (hb : Nm.Limbs bs) (h : ProdInv g k w ls bs j os wr) (hj : j < ls.length) (hk : j + n < k) {c x : Int} {us : List Int}
    (hx : x = ls.getD j 0) (hm : MulInv g k (j + n) wr os (Nm.val os + Nm.pw j * (Nm.val bs * x)) (j + n) c us w') :
    ProdInv g k w ls bs (j + 1) (us.set (j + n) c) (w'.setCell ⟨g, j + n, none⟩ (.int .u64 c)) := by
  subst hn
  obtain ⟨h1, h2, h3, h4, h5⟩ := h
  obtain ⟨⟨m1, m2, m3, m4, m5, m6⟩, m7, m8⟩ := hm
  have hv : Nm.val os < Nm.pw (j + bs.length) := by
    rw [h4, Nm.pw_add]
    have e1 := Nm.val_bd _ (ha.take j)
    rw [List.length_take, Nat.min_eq_left (by omega)] at e1
    have e2 := Nm.val_bd _ hb
    have e3 : Nm.val (ls.take j) * Nm.val bs ≤ Nm.pw j * Nm.val bs := Int.mul_le_mul_of_nonneg_right (by omega) e2.1
    have e4 : Nm.pw j * (Nm.val bs + 1) ≤ Nm.pw j * Nm.pw bs.length := Int.mul_le_mul_of_nonneg_left (by omega) (by have := Nm.pw_pos j; omega)
    have e5 := Nm.pw_pos j
    rw [Int.mul_add, Int.mul_one] at e4
    omega
  have h0 : us.getD (j + bs.length) 0 = 0 := by rw [m8 _ (Nat.le_refl _)]; exact Nm.zero_of_lt h3 hv _ (Nat.le_refl _)
  refine ⟨m1.set _ _, by simpa using m2, m3.set _ m7.1 m7.2, ?_, h5.trans (m5.setCell (Nat.le_refl _) _)⟩
  rw [Nm.val_set _ _ _ (by omega), h0, Int.sub_zero, m4, h4, hx, Nm.val_take_succ ls j hj, Int.add_mul, Int.mul_assoc, Int.mul_comm (ls.getD j 0)]

theorem prod_bound {zs ys : List Int} (hz : Nm.Limbs zs) (hy : Nm.Limbs ys) (h : Nm.val zs * Nm.val ys < Nm.pw 4096) (h1 : 0 < Nm.tsize zs) (h2 : 0 < Nm.tsize ys) : Nm.tsize zs + Nm.tsize ys ≤ 4097 := by
  have e1 := Nm.val_ge_top hz h1
  have e2 := Nm.val_ge_top hy h2
  have e3 : Nm.pw (Nm.tsize zs - 1) * Nm.pw (Nm.tsize ys - 1) ≤ Nm.val zs * Nm.val ys := Int.mul_le_mul e1 e2 (Int.le_of_lt (Nm.pw_pos _)) (by have := (Nm.val_bd zs hz).1; omega)
  rw [← Nm.pw_add] at e3
  rcases Nat.lt_or_ge (Nm.tsize zs - 1 + (Nm.tsize ys - 1)) 4096 with e | e
  · omega
  · have := Nm.pw_mono e
    omega

set_option maxRecDepth 100000 in
set_option maxHeartbeats 1000000 in
theorem mul_ok (p q : Option Addr) (n cap m cap' : Nat) (zs ys : List Int) (w : World) (ha : Arg w p n cap zs) (hb : Arg w q m cap' ys) (tz : Nm.tsize zs ≤ 4096) (ty : Nm.tsize ys ≤ 4096) (hs : Nm.val zs * Nm.val ys < Nm.pw 4096) :
    Calls Tryd.prog 77 #[.slice p n cap, .slice q m cap'] w fun e w' => ∃ r os, e = .returned (.tuple #[.slice r (List.length os) (List.length os), .int .i64 0]) ∧ Ans w.heap.size w' r os (Nm.val zs * Nm.val ys) ∧ Below w.heap.size w w' := by
  obtain ⟨a1, a2, a3, a4, a5⟩ := ha
  obtain ⟨b1, b2, b3, b4, b5⟩ := hb
  have HS : Hid (Nm.val zs * Nm.val ys < Nm.pw 4096) := hs
  clear hs
  have nil : Nm.val zs * Nm.val ys = 0 → Ans w.heap.size w none [] (Nm.val zs * Nm.val ys) := fun h => ⟨Lies.nil _ _, Nm.Limbs.nil, rfl, by simp [Nm.val, h], fun a h => by cases h⟩
  by_cases h1 : Nm.tsize zs = 0
  · have h1' : ((Nm.tsize zs : Int) == 0) = true := by simp [h1]
    have NIL := hid (nil (by rw [(Nm.tsize_zero_iff a5).1 h1, Int.zero_mul]))
    clear nil h1
    go_enter Tryd.func77, Tryd.ntmps77
    go_wp2_with fail
    refine (pair_ok p q n cap m cap' zs ys _ a1 a2 (by omega) a4 tz b1 b2 (by omega) b4 ty).mono ?_
    rintro e w' ⟨rfl, rfl⟩
    go_wp2_with fail
    go_ret2
    exact ⟨none, [], rfl, NIL.out, Below.refl _ _⟩
  have h1' : ((Nm.tsize zs : Int) == 0) = false := by simp [h1]
  by_cases h2 : Nm.tsize ys = 0
  · have h2' : ((Nm.tsize ys : Int) == 0) = true := by simp [h2]
    have NIL := hid (nil (by rw [(Nm.tsize_zero_iff b5).1 h2, Int.mul_zero]))
    clear nil h1 h2
    go_enter Tryd.func77, Tryd.ntmps77
    go_wp2_with fail
    refine (pair_ok p q n cap m cap' zs ys _ a1 a2 (by omega) a4 tz b1 b2 (by omega) b4 ty).mono ?_
    rintro e w' ⟨rfl, rfl⟩
    go_wp2_with fail
    go_ret2
    exact ⟨none, [], rfl, NIL.out, Below.refl _ _⟩
  have h2' : ((Nm.tsize ys : Int) == 0) = false := by simp [h2]
  clear nil
  have hsum := prod_bound a5 b5 HS.out (by omega) (by omega)
  have hsum' : (Nm.tsize zs : Int) + (Nm.tsize ys : Int) ≤ 4097 := by omega
  have hmk := make64 (Nm.tsize zs + Nm.tsize ys) (by omega) w
  have em : ((Nm.tsize zs + Nm.tsize ys : Nat) : Int) = (Nm.tsize zs : Int) + (Nm.tsize ys : Int) := by omega
  rw [em] at hmk
  clear em
  have ho : Own (w.alloc (.cells (madeCells #[.int .u64 0] (Nm.tsize zs + Nm.tsize ys)) 22)) w.heap.size (List.replicate (Nm.tsize zs + Nm.tsize ys) 0) := by
    rw [made_zero]; exact Own.alloc w _
  have hb0 : Below w.heap.size w (w.alloc (.cells (madeCells #[.int .u64 0] (Nm.tsize zs + Nm.tsize ys)) 22)) := (Below.refl _ _).alloc (Nat.le_refl _) _
  have I0 : ProdInv w.heap.size (Nm.tsize zs + Nm.tsize ys) w (Nm.trim zs) (Nm.trim ys) 0 (List.replicate (Nm.tsize zs + Nm.tsize ys) 0) (w.alloc (.cells (madeCells #[.int .u64 0] (Nm.tsize zs + Nm.tsize ys)) 22)) :=
    ⟨ho, by simp, Nm.Limbs.replicate _, by simp [Nm.val_replicate, Nm.val], hb0⟩
  clear ho hb0
  have hsum2 : decide (4096 < (Nm.tsize zs : Int) + (Nm.tsize ys : Int) - 1) = false := by simp; omega
  have A4 := hid a4.trim
  have B4 := hid b4.trim
  obtain ⟨b, off, rfl, hcell⟩ : ∃ b off, p = some ⟨b, off, none⟩ ∧ Hid (∀ i, i < Nm.tsize zs → w.cell? ⟨b, off + i, none⟩ = some (.int .u64 ((Nm.trim zs).getD i 0))) := by
    have hlen := Nm.trim_length zs
    rcases A4.out with h | ⟨b, off, hp, h⟩
    · exfalso
      rw [h] at hlen
      simp at hlen
      omega
    · exact ⟨b, off, hp, fun i hi => h i (by rw [hlen]; exact hi)⟩
  have hbg : b < w.heap.size := cell_lt (hcell.out 0 (by omega))
  have A5 := hid a5.trim
  have B5 := hid b5.trim
  go_enter Tryd.func77, Tryd.ntmps77
  go_wp2_with fail
  refine (pair_ok (some ⟨b, off, none⟩) q n cap m cap' zs ys _ a1 a2 (by omega) a4 tz b1 b2 (by omega) b4 ty).mono ?_
  rintro e w' ⟨rfl, rfl⟩
  clear a4 b4
  go_wp2_with fail
  go_loopw [43] (fun i wr => ∃ (j : Nat) (os : List Int), j ≤ Nm.tsize zs ∧ i = .int .i64 j ∧ ProdInv w'.heap.size (Nm.tsize zs + Nm.tsize ys) w' (Nm.trim zs) (Nm.trim ys) j os wr) (fun i _ => Nm.tsize zs - (intOf i).toNat)
  case atStart => exact ⟨0, _, Nat.zero_le _, rfl, I0⟩
  case round =>
    clear I0 hmk
    obtain ⟨j, os, hj, rfl, I⟩ := hrel
    by_cases hlt : j < Nm.tsize zs
    · obtain ⟨x, hx, X⟩ : ∃ x, wr.cell? ⟨b, off + j, none⟩ = some (.int .u64 x) ∧ Hid (x = (Nm.trim zs).getD j 0) := ⟨_, (I.2.2.2.2.cell (p := ⟨b, off + j, none⟩) hbg).trans (hcell.out j hlt), rfl⟩
      have hx0 := A5.out.at j
      rw [show (Nm.trim zs).getD j 0 = x from X.out.symm] at hx0
      obtain ⟨hx0, hx1⟩ := hx0
      go_wp2_with fail
      refine (addTimes_any w'.heap.size (Nm.tsize zs + Nm.tsize ys) j (Nm.tsize ys) _ os q _ (Nm.trim ys) x _ I.2.1 (by omega) I.1 I.2.2.1 (Nm.trim_length ys) (by omega) (B4.out.below I.2.2.2.2 (Nat.le_refl _)) B5.out (fun h0 => B4.out.lt h0) hx0 hx1).mono ?_
      rintro e w2 ⟨c, us, rfl, M⟩
      have I2 := I.step (Nm.trim_length ys) A5.out B5.out (by rw [Nm.trim_length]; exact hlt) (by omega) X.out M
      obtain ⟨y, hy⟩ : ∃ y, w2.cell? ⟨w'.heap.size, j + Nm.tsize ys, none⟩ = some (.int .u64 y) := ⟨_, M.1.1.cell _ (by have := M.1.2.1; omega)⟩
      have hfr := M.1.1.free (j + Nm.tsize ys)
      clear M
      go_wp2
      go_roundw
      case rel => exact ⟨j + 1, _, by omega, by go_num, I2⟩
      case measure => simp [intOf]; omega
    · have hjn : j = Nm.tsize zs := by omega
      subst hjn
      have E := I.2.2.2.1
      rw [List.take_of_length_le (by rw [Nm.trim_length]; omega), Nm.val_trim, Nm.val_trim] at E
      have EE := hid E
      clear E
      go_wp2_with fail
      refine (limited_own w'.heap.size (Nm.tsize zs + Nm.tsize ys) os _ I.2.1 (by omega) I.1 I.2.2.1 w'.heap.size (Nat.le_refl _) (by rw [EE.out]; exact HS.out)).mono ?_
      rintro e w3 ⟨r, xs, rfl, hans, rfl⟩
      rw [EE.out] at hans
      have HA := hid hans
      clear hans
      have HB := hid I.2.2.2.2
      clear I
      go_wp2_with fail
      go_ret2
      exact ⟨r, xs, rfl, HA.out, HB.out⟩
end Go.Proofs.YtkmadibfiikleaaDoor

namespace Go.Proofs.YtkmadibfiikleaaDoor
open Go.RowKit Go.Deep

set_option maxRecDepth 100000 in
set_option maxHeartbeats 1000000 in
theorem mul_over (p q : Option Addr) (n cap m cap' : Nat) (zs ys : List Int) (w : World) (ha : Arg w p n cap zs) (hb : Arg w q m cap' ys) (tz : Nm.tsize zs ≤ 4096) (ty : Nm.tsize ys ≤ 4096) (hs : Nm.pw 4096 ≤ Nm.val zs * Nm.val ys) :
    Calls Tryd.prog 77 #[.slice p n cap, .slice q m cap'] w fun e w' => e = .returned (.tuple #[.slice none 0 0, .int .i64 2]) ∧ Below w.heap.size w w' := by
  obtain ⟨a1, a2, a3, a4, a5⟩ := ha
  obtain ⟨b1, b2, b3, b4, b5⟩ := hb
  have HS := hid hs
  clear hs
  have hp := Nm.pw_pos 4096
  have h1 : Nm.tsize zs ≠ 0 := fun h => by
    have e := (Nm.tsize_zero_iff a5).1 h
    have := HS.out
    rw [e, Int.zero_mul] at this
    omega
  have h2 : Nm.tsize ys ≠ 0 := fun h => by
    have e := (Nm.tsize_zero_iff b5).1 h
    have := HS.out
    rw [e, Int.mul_zero] at this
    omega
  have h1' : ((Nm.tsize zs : Int) == 0) = false := by simp [h1]
  have h2' : ((Nm.tsize ys : Int) == 0) = false := by simp [h2]
  clear hp
  by_cases hearly : 4097 < Nm.tsize zs + Nm.tsize ys
  · have he : (4096 : Int) < (Nm.tsize zs : Int) + (Nm.tsize ys : Int) - 1 := by omega
    go_enter Tryd.func77, Tryd.ntmps77
    go_wp2_with fail
    refine (pair_ok p q n cap m cap' zs ys _ a1 a2 (by omega) a4 tz b1 b2 (by omega) b4 ty).mono ?_
    rintro e w' ⟨rfl, rfl⟩
    go_wp2_with fail
    go_ret2
    exact ⟨rfl, Below.refl _ _⟩
  have hsum' : (Nm.tsize zs : Int) + (Nm.tsize ys : Int) ≤ 4097 := by omega
  have hmk := make64 (Nm.tsize zs + Nm.tsize ys) (by omega) w
  have em : ((Nm.tsize zs + Nm.tsize ys : Nat) : Int) = (Nm.tsize zs : Int) + (Nm.tsize ys : Int) := by omega
  rw [em] at hmk
  clear em
  have ho : Own (w.alloc (.cells (madeCells #[.int .u64 0] (Nm.tsize zs + Nm.tsize ys)) 22)) w.heap.size (List.replicate (Nm.tsize zs + Nm.tsize ys) 0) := by
    rw [made_zero]; exact Own.alloc w _
  have hb0 : Below w.heap.size w (w.alloc (.cells (madeCells #[.int .u64 0] (Nm.tsize zs + Nm.tsize ys)) 22)) := (Below.refl _ _).alloc (Nat.le_refl _) _
  have I0 : ProdInv w.heap.size (Nm.tsize zs + Nm.tsize ys) w (Nm.trim zs) (Nm.trim ys) 0 (List.replicate (Nm.tsize zs + Nm.tsize ys) 0) (w.alloc (.cells (madeCells #[.int .u64 0] (Nm.tsize zs + Nm.tsize ys)) 22)) :=
    ⟨ho, by simp, Nm.Limbs.replicate _, by simp [Nm.val_replicate, Nm.val], hb0⟩
  clear ho hb0
  have hsum2 : decide (4096 < (Nm.tsize zs : Int) + (Nm.tsize ys : Int) - 1) = false := by simp; omega
  have A4 := hid a4.trim
  have B4 := hid b4.trim
  obtain ⟨b, off, rfl, hcell⟩ : ∃ b off, p = some ⟨b, off, none⟩ ∧ Hid (∀ i, i < Nm.tsize zs → w.cell? ⟨b, off + i, none⟩ = some (.int .u64 ((Nm.trim zs).getD i 0))) := by
    have hlen := Nm.trim_length zs
    rcases A4.out with h | ⟨b, off, hp, h⟩
    · exfalso
      rw [h] at hlen
      simp at hlen
      omega
    · exact ⟨b, off, hp, fun i hi => h i (by rw [hlen]; exact hi)⟩
  have hbg : b < w.heap.size := cell_lt (hcell.out 0 (by omega))
  have A5 := hid a5.trim
  have B5 := hid b5.trim
  go_enter Tryd.func77, Tryd.ntmps77
  go_wp2_with fail
  refine (pair_ok (some ⟨b, off, none⟩) q n cap m cap' zs ys _ a1 a2 (by omega) a4 tz b1 b2 (by omega) b4 ty).mono ?_
  rintro e w' ⟨rfl, rfl⟩
  clear a4 b4
  go_wp2_with fail
  go_loopw [43] (fun i wr => ∃ (j : Nat) (os : List Int), j ≤ Nm.tsize zs ∧ i = .int .i64 j ∧ ProdInv w'.heap.size (Nm.tsize zs + Nm.tsize ys) w' (Nm.trim zs) (Nm.trim ys) j os wr) (fun i _ => Nm.tsize zs - (intOf i).toNat)
  case atStart => exact ⟨0, _, Nat.zero_le _, rfl, I0⟩
  case round =>
    clear I0 hmk
    obtain ⟨j, os, hj, rfl, I⟩ := hrel
    by_cases hlt : j < Nm.tsize zs
    · obtain ⟨x, hx, X⟩ : ∃ x, wr.cell? ⟨b, off + j, none⟩ = some (.int .u64 x) ∧ Hid (x = (Nm.trim zs).getD j 0) := ⟨_, (I.2.2.2.2.cell (p := ⟨b, off + j, none⟩) hbg).trans (hcell.out j hlt), rfl⟩
      have hx0 := A5.out.at j
      rw [show (Nm.trim zs).getD j 0 = x from X.out.symm] at hx0
      obtain ⟨hx0, hx1⟩ := hx0
      go_wp2_with fail
      refine (addTimes_any w'.heap.size (Nm.tsize zs + Nm.tsize ys) j (Nm.tsize ys) _ os q _ (Nm.trim ys) x _ I.2.1 (by omega) I.1 I.2.2.1 (Nm.trim_length ys) (by omega) (B4.out.below I.2.2.2.2 (Nat.le_refl _)) B5.out (fun h0 => B4.out.lt h0) hx0 hx1).mono ?_
      rintro e w2 ⟨c, us, rfl, M⟩
      have I2 := I.step (Nm.trim_length ys) A5.out B5.out (by rw [Nm.trim_length]; exact hlt) (by omega) X.out M
      obtain ⟨y, hy⟩ : ∃ y, w2.cell? ⟨w'.heap.size, j + Nm.tsize ys, none⟩ = some (.int .u64 y) := ⟨_, M.1.1.cell _ (by have := M.1.2.1; omega)⟩
      have hfr := M.1.1.free (j + Nm.tsize ys)
      clear M
      go_wp2
      go_roundw
      case rel => exact ⟨j + 1, _, by omega, by go_num, I2⟩
      case measure => simp [intOf]; omega
    · have hjn : j = Nm.tsize zs := by omega
      subst hjn
      have E := I.2.2.2.1
      rw [List.take_of_length_le (by rw [Nm.trim_length]; omega), Nm.val_trim, Nm.val_trim] at E
      have EE := hid E
      clear E
      go_wp2_with fail
      refine (limited_own_big w'.heap.size (Nm.tsize zs + Nm.tsize ys) os _ I.2.1 (by omega) I.1 I.2.2.1 (by rw [EE.out]; exact HS.out)).mono ?_
      rintro e w3 ⟨rfl, rfl⟩
      have HB := hid I.2.2.2.2
      clear I
      go_wp2_with fail
      go_ret2
      exact ⟨rfl, HB.out⟩
end Go.Proofs.YtkmadibfiikleaaDoor

namespace Go.Proofs.YtkmadibfiikleaaDoor
open Go.RowKit Go.Deep

/-- A number, or that it is too big. -/
def Gives (T : Int) (w : World) (e : Ending) (w' : World) : Prop :=
  ((T < Nm.pw 4096 ∧ ∃ r os, e = .returned (.tuple #[.slice r (List.length os) (List.length os), .int .i64 0]) ∧ Ans w.heap.size w' r os T) ∨ (Nm.pw 4096 ≤ T ∧ e = .returned (.tuple #[.slice none 0 0, .int .i64 2]))) ∧ Below w.heap.size w w'

theorem Ans.argT {B : Nat} {w : World} {p : Option Addr} {ys : List Int} {n : Int} (h : Ans B w p ys n) (hn : n < Nm.pw 4096) : Arg w p ys.length ys.length ys :=
  h.arg (by have := h.small hn; omega)

theorem Ans.tsT {B : Nat} {w : World} {p : Option Addr} {ys : List Int} {n : Int} (h : Ans B w p ys n) (hn : n < Nm.pw 4096) : Nm.tsize ys ≤ 4096 := by
  rw [h.2.2.1]
  exact h.small hn

theorem Ans.upT {B B' : Nat} {w : World} {p : Option Addr} {ys : List Int} {n : Int} (h : Ans B w p ys n) (hB : B' ≤ B) : Ans B' w p ys n :=
  ⟨h.1, h.2.1, h.2.2.1, h.2.2.2.1, fun a ha => Nat.le_trans hB (h.2.2.2.2 a ha)⟩

theorem mul_gives (p q : Option Addr) (n cap m cap' : Nat) (zs ys : List Int) (T : Int) (w : World) (ha : Arg w p n cap zs) (hb : Arg w q m cap' ys) (tz : Nm.tsize zs ≤ 4096) (ty : Nm.tsize ys ≤ 4096) (hT : Nm.val zs * Nm.val ys = T) :
    Calls Tryd.prog 77 #[.slice p n cap, .slice q m cap'] w fun e w' => Gives T w e w' := by
  by_cases h : T < Nm.pw 4096
  · refine (mul_ok p q n cap m cap' zs ys w ha hb tz ty (by rw [hT]; exact h)).mono ?_
    rintro e w' ⟨r, os, rfl, A, hb⟩
    rw [hT] at A
    exact ⟨.inl ⟨h, r, os, rfl, A⟩, hb⟩
  · refine (mul_over p q n cap m cap' zs ys w ha hb tz ty (by rw [hT]; exact Int.not_lt.1 h)).mono ?_
    rintro e w' ⟨rfl, hb⟩
    exact ⟨.inr ⟨Int.not_lt.1 h, rfl⟩, hb⟩

theorem limbs_isT (p : Option Addr) (n cap : Nat) (zs : List Int) (N : Nat) (w : World) (ha : Arg w p n cap zs) (hN : Nm.tsize zs = N) :
    Calls Tryd.prog 61 #[.slice p n cap] w fun e w' => e = .returned (.int .i64 (N : Int)) ∧ w' = w := by
  rw [← hN]
  exact limbs_any p n cap zs w ha

theorem bitLen_isT (L : Nat) (p : Option Addr) (n cap : Nat) (zs : List Int) (w : World) (ha : Arg w p n cap zs) (hb : blen zs = (L : Int)) :
    Calls Tryd.prog 52 #[.slice p n cap] w fun e w' => e = .returned (.int .i64 (L : Int)) ∧ w' = w := by
  rw [← hb]
  exact bitLen_any p n cap zs w ha
end Go.Proofs.YtkmadibfiikleaaDoor

/-
  nat's and quot's calls over answers: in numbers alone.
-/
namespace Go.Proofs.YtkmadibfiikleaaDoor
open Go Go.RowKit Go.Deep

theorem a_shl {B : Nat} {w : World} {p : Option Addr} {os : List Int} {v : Int} (k : Nat) (A : Ans B w p os v) (h : v * 2 ^ k < Nm.pw 4096) :
    Calls Tryd.prog 40 #[.slice p os.length os.length, .int .i64 (k : Int)] w fun e w' => ∃ r os, e = .returned (.tuple #[.slice r (List.length os) (List.length os), .int .i64 0]) ∧ Ans w.heap.size w' r os (v * 2 ^ k) ∧ Below w.heap.size w w' := by
  have v0 : 0 ≤ v := by rw [← A.2.2.2.1]; exact (Nm.val_bd os A.2.1).1
  have hv : v < Nm.pw 4096 := by
    have := Nm.two_pos k
    have : v * 1 ≤ v * 2 ^ k := Int.mul_le_mul_of_nonneg_left (by omega) v0
    omega
  have := shl_any p _ _ os (k : Int) k w (A.argT hv) (A.tsT hv) rfl (by rw [A.2.2.2.1]; exact h)
  rw [A.2.2.2.1] at this
  exact this

theorem a_cmp {B B' : Nat} {w : World} {p q : Option Addr} {os qs : List Int} {u v : Int} (A : Ans B w p os u) (A' : Ans B' w q qs v) (hu : u < Nm.pw 4096) (hv : v < Nm.pw 4096) :
    Calls Tryd.prog 42 #[.slice p os.length os.length, .slice q qs.length qs.length] w fun e w' => e = .returned (.int .i64 (cmpI u v)) ∧ Below w.heap.size w w' := by
  exact cmp_is (cmpI u v) p q _ _ _ _ os qs w (A.argT hu) (A'.argT hv) (by rw [A.2.2.2.1, A'.2.2.2.1])

theorem a_sub {B B' : Nat} {w : World} {p q : Option Addr} {os qs : List Int} {u v : Int} (A : Ans B w p os u) (A' : Ans B' w q qs v) (hu : u < Nm.pw 4096) (hv : v ≤ u) :
    Calls Tryd.prog 43 #[.slice p os.length os.length, .slice q qs.length qs.length] w fun e w' => ∃ r os, e = .returned (.tuple #[.slice r (List.length os) (List.length os), .int .i64 0]) ∧ Ans w.heap.size w' r os (u - v) ∧ Below w.heap.size w w' := by
  have := sub_ok p q _ _ _ _ os qs w (A.argT hu) (A'.argT (by omega)) (A.tsT hu) (by rw [A.2.2.2.1, A'.2.2.2.1]; exact hv)
  rw [A.2.2.2.1, A'.2.2.2.1] at this
  exact this

theorem a_div {B B' : Nat} {w : World} {p q : Option Addr} {os qs : List Int} {u v : Int} (A : Ans B w p os u) (A' : Ans B' w q qs v) (hu : u < Nm.pw 4096) (hv : v < Nm.pw 4096) (h0 : 0 < v) :
    Calls Tryd.prog 39 #[.slice p os.length os.length, .slice q qs.length qs.length] w fun e w' => Splits u v w e w' := by
  have h1 : 0 < Nm.tsize qs := by
    have := Nm.tsize_zero_iff A'.2.1
    rw [A'.2.2.2.1] at this
    omega
  have := divMod_ok p q _ _ _ _ os qs w (A.argT hu) (A'.argT hv) (A.tsT hu) (A'.tsT hv) h1
  rw [A.2.2.2.1, A'.2.2.2.1] at this
  exact this

theorem a_bit0 {B : Nat} {w : World} {p : Option Addr} {os : List Int} {v : Int} (A : Ans B w p os v) (hv : v < Nm.pw 4096) :
    Calls Tryd.prog 41 #[.slice p os.length os.length, .int .i64 0] w fun e w' => e = .returned (.int .i64 (v % 2)) ∧ w' = w := by
  have := bit_any p _ _ os 0 0 w (A.argT hv) (by omega) rfl
  rw [A.2.2.2.1, Int.pow_zero, Int.ediv_one] at this
  exact this

theorem cmpI_iff {a b c d : Int} (h1 : a < b ↔ c < d) (h2 : a = b ↔ c = d) : cmpI a b = cmpI c d := by
  by_cases g1 : a < b
  · rw [cmpI_lt g1, cmpI_lt (h1.1 g1)]
  · by_cases g2 : a = b
    · rw [cmpI_eq g2, cmpI_eq (h2.1 g2)]
    · have k1 : ¬ c < d := fun h => g1 (h1.2 h)
      have k2 : ¬ c = d := fun h => g2 (h2.2 h)
      rw [cmpI_gt (by omega), cmpI_gt (by omega)]

theorem pw_room {k : Nat} (hk : k ≤ 262144) {v : Int} (h : v < 2 ^ k) : v < Nm.pw 4096 := by
  rw [Nm.pw_two 4096]
  have := Nm.two_mono (show k ≤ 64 * 4096 by omega)
  omega

theorem sh_room {m : Int} {i K : Nat} (h : m < 2 ^ K) (hi : K + i ≤ 262144) : m * 2 ^ i < Nm.pw 4096 := by
  refine pw_room hi ?_
  rw [Nm.two_add]
  exact Int.mul_lt_mul_of_pos_right h (Nm.two_pos i)
end Go.Proofs.YtkmadibfiikleaaDoor

/-
  remain: left (made by mkmleft.py).
-/
namespace Go.Proofs.YtkmadibfiikleaaDoor
open Go Go.RowKit Go.Deep

namespace Ie
/-- What is left, turned or not. -/
def lft (A B : Int) (up : Bool) : Int := if up = true then B - A % B else A % B

theorem left_un {ma mb ea eb x A B : Int} {i j : Nat} (hx : x = min ea eb) (hi : (i : Int) = ea - x) (hj : (j : Int) = eb - x) (e0 : -1074 ≤ ea) (e1 : -1074 ≤ eb) (e2 : ea ≤ 971) (gA : ∀ k : Nat, (k : Int) = ea + 1074 → ma * 2 ^ k = A) (gB : ∀ k : Nat, (k : Int) = eb + 1074 → mb * 2 ^ k = B) :
    ∃ c : Nat, (c : Int) = x + 1074 ∧ c ≤ 2045 ∧ A = ma * 2 ^ i * 2 ^ c ∧ B = mb * 2 ^ j * 2 ^ c := by
  obtain ⟨c, hc⟩ : ∃ c : Nat, (c : Int) = x + 1074 := ⟨(x + 1074).toNat, by omega⟩
  refine ⟨c, hc, by omega, ?_, ?_⟩
  · rw [← gA (i + c) (by omega), Nm.two_add, Int.mul_assoc]
  · rw [← gB (j + c) (by omega), Nm.two_add, Int.mul_assoc]

/-- What left answers. -/
def LeftIs (a b : Int) (up : Bool) (r : Int) : Prop :=
  (isn a = true ∨ isn b = true ∨ isi a = true ∨ isz b = true → r = 9221120237041090560) ∧
  (fin a → isi b = true → r = a) ∧
  (fin a → fin b → ab b ≠ 0 → ∃ y, r = sg (ngd a != up) y ∧ 0 ≤ y ∧ y < 9218868437227405312 ∧ un y = lft (un (ab a)) (un (ab b)) up)
end Ie

set_option maxRecDepth 100000 in
set_option maxHeartbeats 8000000 in
theorem left_F (a b : Int) (up : Bool) (w : World) (hT : Tab w) (a0 : 0 ≤ a) (a1 : a < 18446744073709551616) (b0 : 0 ≤ b) (b1 : b < 18446744073709551616) (fa : Ie.fin a) (fb : Ie.fin b) (zb : Ie.ab b ≠ 0)
    (AW : ∀ wx : World, Below w.heap.size w wx → Calls Tryd.prog 21 #[.bool (Ie.un (Ie.ab a) / Ie.un (Ie.ab b) % 2 == 1), .int .i64 (cmpI (2 * (Ie.un (Ie.ab a) % Ie.un (Ie.ab b))) (Ie.un (Ie.ab b)))] wx fun e w' => e = .returned (.bool up) ∧ w' = wx)
    (UP : up = true → Ie.un (Ie.ab b) ≤ 2 * (Ie.un (Ie.ab a) % Ie.un (Ie.ab b))) :
    Calls Tryd.prog 20 #[.int .u64 a, .int .u64 b, .func (Fn.func 21) #[] #[]] w fun e w' => ∃ y, e = .returned (.int .u64 (Ie.sg (Ie.ngd a != up) y)) ∧ Hid (Ie.un y = Ie.lft (Ie.un (Ie.ab a)) (Ie.un (Ie.ab b)) up ∧ 0 ≤ y ∧ y < 9218868437227405312) ∧ Below w.heap.size w w' := by
  have NA := hid (fun (wx : World) => mnan_any a wx a0 a1)
  have NB := hid (fun (wx : World) => mnan_any b wx b0 b1)
  have IA := hid (fun (wx : World) => minfinite_any a wx a0 a1)
  have IB := hid (fun (wx : World) => minfinite_any b wx b0 b1)
  have ZB := hid (fun (wx : World) => mzero_any b wx b0 b1)
  rw [(Ie.fin_kinds fa).1] at NA
  rw [(Ie.fin_kinds fb).1] at NB
  rw [(Ie.fin_kinds fa).2] at IA
  rw [(Ie.fin_kinds fb).2] at IB
  have zb' : Ie.isz b = false := by rw [Ie.isz, decide_eq_false_iff_not]; exact zb
  rw [zb'] at ZB
  have AL := hid (aligned_any a b w a0 a1 b0 b1 fa fb)
  have SV := Ib.sign_and a a0 a1
  have HT := hid hT
  obtain ⟨⟨ma0, ma1⟩, ⟨ea0, ea1⟩, gA, -⟩ := Ie.dec_f a fa
  obtain ⟨⟨mb0, mb1⟩, ⟨eb0, eb1⟩, gB, mz⟩ := Ie.dec_f b fb
  have mbp : 0 < Ie.dm b := by have := fun g => zb (mz.1 g); omega
  have AW := hid AW
  have e53 : (2 : Int) ^ 53 = 9007199254740992 := by decide
  -- all that is said of numbers
  have NU : Hid (∀ (i j : Nat) (x : Int), x = min (Ie.de a) (Ie.de b) → (i : Int) = Ie.de a - x → (j : Int) = Ie.de b - x → ∃ V1 V2 : Int, V1 = Ie.dm a * 2 ^ i ∧ V2 = Ie.dm b * 2 ^ j ∧ V1 < Nm.pw 4096 ∧ V2 < Nm.pw 4096 ∧ 0 < V2 ∧ 0 ≤ V1 % V2 ∧ V1 % V2 < V2 ∧ V1 % V2 * 2 ^ 1 < Nm.pw 4096 ∧ V1 / V2 < Nm.pw 4096 ∧ V1 / V2 = Ie.un (Ie.ab a) / Ie.un (Ie.ab b) ∧ cmpI (V1 % V2 * 2 ^ 1) V2 = cmpI (2 * (Ie.un (Ie.ab a) % Ie.un (Ie.ab b))) (Ie.un (Ie.ab b)) ∧ (∀ y, Ie.Rnd (Ie.lft V1 V2 up) 1 x false y → Ie.un y = Ie.lft (Ie.un (Ie.ab a)) (Ie.un (Ie.ab b)) up ∧ 0 ≤ y ∧ y < 9218868437227405312)) := by
    intro i j x hx hi hj
    obtain ⟨c, hc, hc2, hA, hB⟩ := Ie.left_un hx hi hj ea0 eb0 ea1 gA gB
    obtain ⟨v2, v1, r0, r1, r2, r3⟩ := Ie.left_bd (i := i) (j := j) (by omega) ma0 ma1 mbp mb1
    have l1 := sh_room (m := Ie.dm a) (i := i) (K := 53) (by omega) (by omega)
    have l2 := sh_room (m := Ie.dm b) (i := j) (K := 53) (by omega) (by omega)
    have hp := Nm.two_pos c
    rw [hA, hB] at UP ⊢
    generalize Ie.dm a * 2 ^ i = V1 at *
    generalize Ie.dm b * 2 ^ j = V2 at *
    have q1 : V1 / V2 ≤ V1 := Int.ediv_le_self _ v1
    have t1 : 2 * (V1 * 2 ^ c % (V2 * 2 ^ c)) = V1 % V2 * 2 ^ 1 * 2 ^ c := by rw [Ie.emod_scale _ _ _ hp, Int.pow_one, Int.mul_comm (V1 % V2) 2, Int.mul_assoc]
    refine ⟨V1, V2, rfl, rfl, l1, l2, v2, r0, r1, ?_, by omega, (Ie.ediv_scale _ _ _ hp).symm, ?_, ?_⟩
    · exact sh_room (K := 53) (i := 1) (by omega) (by omega)
    · rw [t1]
      have g1 := Ie.lt_scale (a := V1 % V2 * 2 ^ 1) (b := V2) hp
      have g2 := Ie.eq_scale (a := V1 % V2 * 2 ^ 1) (b := V2) hp
      exact cmpI_iff g1.symm g2.symm
    · intro y hy
      have key : Ie.lft (V1 * 2 ^ c) (V2 * 2 ^ c) up = Ie.lft V1 V2 up * 2 ^ c := by
        rw [Ie.lft, Ie.lft, Ie.emod_scale _ _ _ hp]
        split
        · rw [Int.sub_mul]
        · rfl
      rw [key]
      refine Ie.rnd_rep hc ?_ ?_ hc2 hy
      · rw [Ie.lft]; split <;> omega
      · rw [Ie.lft]
        split
        · rename_i hu
          have u1 := UP hu
          rw [t1] at u1
          have u2 := Int.le_of_mul_le_mul_right u1 hp
          rw [Int.pow_one] at u2
          exact r3 (by omega)
        · exact r2
  have SG : (a / 9223372036854775808 * 9223372036854775808 != 0) = Ie.ngd a := by
    rcases (show a < 9223372036854775808 ∨ 9223372036854775808 ≤ a by omega) with g | g
    · rw [show a / 9223372036854775808 * 9223372036854775808 = 0 by omega, Ie.ngd, decide_eq_false (by omega)]; rfl
    · rw [show a / 9223372036854775808 * 9223372036854775808 = 9223372036854775808 by omega, Ie.ngd, decide_eq_true (by omega)]; rfl
  clear UP hT ma0 ma1 mb0 mb1 ea0 ea1 eb0 eb1 gA gB mz mbp zb zb' fa fb a0 a1 b0 b1 e53
  generalize a / 9223372036854775808 * 9223372036854775808 = sv at *
  generalize Ie.un (Ie.ab a) = UA at *
  generalize Ie.un (Ie.ab b) = UB at *
  generalize Ie.ngd a = neg at *
  go_enter Tryd.func20, Tryd.ntmps20
  go_wp2_with fail
  refine (NA.out _).mono ?_
  rintro e wz ⟨rfl, hz⟩
  replace hz := hz.symm
  subst hz
  go_wp2_with fail
  refine (NB.out _).mono ?_
  rintro e wz ⟨rfl, hz⟩
  replace hz := hz.symm
  subst hz
  go_wp2_with fail
  refine (IA.out _).mono ?_
  rintro e wz ⟨rfl, hz⟩
  replace hz := hz.symm
  subst hz
  go_wp2_with fail
  refine (ZB.out _).mono ?_
  rintro e wz ⟨rfl, hz⟩
  replace hz := hz.symm
  subst hz
  go_wp2_with fail
  refine (IB.out _).mono ?_
  rintro e wz ⟨rfl, hz⟩
  replace hz := hz.symm
  subst hz
  clear NA NB IA IB ZB
  go_wp2_with fail
  refine AL.out.mono ?_
  rintro e w1 ⟨p, q, os, qs, i, j, x, rfl, A1, A2, hx, hi, hj, hB1⟩
  obtain ⟨V1, V2, hV1, hV2, l1, l2, v2, r0, r1, l3, l4, hq, hc, hy⟩ := NU.out i j x hx hi hj
  rw [← hV1] at A1
  rw [← hV2] at A2
  have D1 := hid (a_div A1 A2 l1 l2 v2)
  have HA2 := hid A2
  have HB1 := hid hB1
  have R1 := hid (And.intro l1 (And.intro l2 (And.intro v2 (And.intro r0 r1))))
  have R2 := hid (And.intro l3 l4)
  have HQ := hid hq
  have HC := hid hc
  have HY := hid hy
  clear A1 A2 hB1 l1 l2 v2 r0 r1 l3 l4 hq hc hy hV1 hV2 hx hi hj NU AL
  go_wp2_with fail
  refine D1.out.mono ?_
  rintro e w2 ⟨r3, o3, r4, o4, rfl, A3, A4, hB⟩
  have HB2 := hid (HB1.out.trans (hB.mono HB1.out.size))
  have HA3 := hid A3
  have HA4 := hid A4
  have HA5 := hid (HA2.out.below hB (Nat.le_refl _))
  have S1 := hid (a_shl 1 A4 R2.out.1)
  clear A3 A4 hB D1 HA2 HB1
  go_wp2_with fail
  refine S1.out.mono ?_
  rintro e w3 ⟨r5, o5, rfl, A, hB⟩
  have HB3 := hid (HB2.out.trans (hB.mono HB2.out.size))
  have HA6 := hid (HA3.out.below hB (Nat.le_refl _))
  have HA7 := hid (HA4.out.below hB (Nat.le_refl _))
  have HA8 := hid (HA5.out.below hB (Nat.le_refl _))
  have BI := hid (a_bit0 HA6.out R2.out.2)
  have CM := hid (a_cmp A HA8.out R2.out.1 R1.out.2.1)
  rw [HQ.out] at BI
  rw [HC.out] at CM
  clear A hB HA3 HA4 HA5 S1 HB2 HA6 HQ HC
  go_wp2_with fail
  refine BI.out.mono ?_
  rintro e wz ⟨rfl, hz⟩
  replace hz := hz.symm
  subst hz
  clear BI
  go_wp2_with fail
  refine CM.out.mono ?_
  rintro e w4 ⟨rfl, hB⟩
  have HB4 := hid (HB3.out.trans (hB.mono HB3.out.size))
  have HA9 := hid (HA7.out.below hB (Nat.le_refl _))
  have HA10 := hid (HA8.out.below hB (Nat.le_refl _))
  have HT4 := hid (HT.out.below HB4.out)
  clear hB HA7 HA8 HB3 CM HT
  go_wp2_with fail
  refine (AW.out _ HB4.out).mono ?_
  rintro e wz ⟨rfl, hz⟩
  replace hz := hz.symm
  subst hz
  clear AW
  cases up
  · have RO := round_any neg r4 _ _ o4 w4 (HA9.out.argT (by have := R1.out.2.2.2.2; have := R1.out.2.1; omega)) HT4.out (HA9.out.tsT (by have := R1.out.2.2.2.2; have := R1.out.2.1; omega)) (V1 % V2) x false HA9.out.2.2.2.1
    have HRO := hid RO
    clear RO HA9 HA10 R1 R2
    go_wp2_with fail
    refine HRO.out.mono ?_
    rintro e w5 ⟨y, rfl, hR, hB⟩
    have HB5 := hid (HB4.out.trans (hB.mono HB4.out.size))
    have KY := hid (HY.out y hR)
    clear hB hR HRO HY HB4
    go_wp2_with fail
    go_ret
    exact ⟨y, i_retU (show Ie.sg neg y = _ by rw [Bool.bne_false]), KY.out, HB5.out⟩
  · have SU := hid (a_sub HA10.out HA9.out R1.out.2.1 (Int.le_of_lt R1.out.2.2.2.2))
    have RB : Hid (V2 - V1 % V2 < Nm.pw 4096) := by
      have := R1.out.2.2.2.1
      have := R1.out.2.1
      show V2 - V1 % V2 < Nm.pw 4096
      omega
    clear HA9 HA10 R1 R2
    go_wp2_with fail
    refine SU.out.mono ?_
    rintro e w5 ⟨r6, o6, rfl, A, hB⟩
    have HB5 := hid (HB4.out.trans (hB.mono HB4.out.size))
    have HT5 := hid (HT4.out.below hB)
    have HRO := hid (round_any (!neg) r6 _ _ o6 w5 (A.argT RB.out) HT5.out (A.tsT RB.out) (V2 - V1 % V2) x false A.2.2.2.1)
    clear A hB SU HB4 HT4 RB
    go_wp2_with fail
    refine HRO.out.mono ?_
    rintro e w6 ⟨y, rfl, hR, hB⟩
    have HB6 := hid (HB5.out.trans (hB.mono HB5.out.size))
    have KY := hid (HY.out y hR)
    clear hB hR HRO HY HB5
    go_wp2_with fail
    go_ret
    exact ⟨y, i_retU (show Ie.sg (!neg) y = _ by rw [Bool.bne_true]), KY.out, HB6.out⟩
end Go.Proofs.YtkmadibfiikleaaDoor

/-
  remain: left, by Remainder's rule (made by mkmleft.py).
-/
namespace Go.Proofs.YtkmadibfiikleaaDoor
open Go Go.RowKit Go.Deep

set_option maxRecDepth 100000 in
set_option maxHeartbeats 8000000 in
theorem left_R (a b : Int) (up : Bool) (w : World) (hT : Tab w) (a0 : 0 ≤ a) (a1 : a < 18446744073709551616) (b0 : 0 ≤ b) (b1 : b < 18446744073709551616) (fa : Ie.fin a) (fb : Ie.fin b) (zb : Ie.ab b ≠ 0)
    (AW : ∀ wx : World, Below w.heap.size w wx → Calls Tryd.prog 25 #[.bool (Ie.un (Ie.ab a) / Ie.un (Ie.ab b) % 2 == 1), .int .i64 (cmpI (2 * (Ie.un (Ie.ab a) % Ie.un (Ie.ab b))) (Ie.un (Ie.ab b)))] wx fun e w' => e = .returned (.bool up) ∧ w' = wx)
    (UP : up = true → Ie.un (Ie.ab b) ≤ 2 * (Ie.un (Ie.ab a) % Ie.un (Ie.ab b))) :
    Calls Tryd.prog 20 #[.int .u64 a, .int .u64 b, .func (Fn.func 25) #[] #[]] w fun e w' => ∃ y, e = .returned (.int .u64 (Ie.sg (Ie.ngd a != up) y)) ∧ Hid (Ie.un y = Ie.lft (Ie.un (Ie.ab a)) (Ie.un (Ie.ab b)) up ∧ 0 ≤ y ∧ y < 9218868437227405312) ∧ Below w.heap.size w w' := by
  have NA := hid (fun (wx : World) => mnan_any a wx a0 a1)
  have NB := hid (fun (wx : World) => mnan_any b wx b0 b1)
  have IA := hid (fun (wx : World) => minfinite_any a wx a0 a1)
  have IB := hid (fun (wx : World) => minfinite_any b wx b0 b1)
  have ZB := hid (fun (wx : World) => mzero_any b wx b0 b1)
  rw [(Ie.fin_kinds fa).1] at NA
  rw [(Ie.fin_kinds fb).1] at NB
  rw [(Ie.fin_kinds fa).2] at IA
  rw [(Ie.fin_kinds fb).2] at IB
  have zb' : Ie.isz b = false := by rw [Ie.isz, decide_eq_false_iff_not]; exact zb
  rw [zb'] at ZB
  have AL := hid (aligned_any a b w a0 a1 b0 b1 fa fb)
  have SV := Ib.sign_and a a0 a1
  have HT := hid hT
  obtain ⟨⟨ma0, ma1⟩, ⟨ea0, ea1⟩, gA, -⟩ := Ie.dec_f a fa
  obtain ⟨⟨mb0, mb1⟩, ⟨eb0, eb1⟩, gB, mz⟩ := Ie.dec_f b fb
  have mbp : 0 < Ie.dm b := by have := fun g => zb (mz.1 g); omega
  have AW := hid AW
  have e53 : (2 : Int) ^ 53 = 9007199254740992 := by decide
  -- all that is said of numbers
  have NU : Hid (∀ (i j : Nat) (x : Int), x = min (Ie.de a) (Ie.de b) → (i : Int) = Ie.de a - x → (j : Int) = Ie.de b - x → ∃ V1 V2 : Int, V1 = Ie.dm a * 2 ^ i ∧ V2 = Ie.dm b * 2 ^ j ∧ V1 < Nm.pw 4096 ∧ V2 < Nm.pw 4096 ∧ 0 < V2 ∧ 0 ≤ V1 % V2 ∧ V1 % V2 < V2 ∧ V1 % V2 * 2 ^ 1 < Nm.pw 4096 ∧ V1 / V2 < Nm.pw 4096 ∧ V1 / V2 = Ie.un (Ie.ab a) / Ie.un (Ie.ab b) ∧ cmpI (V1 % V2 * 2 ^ 1) V2 = cmpI (2 * (Ie.un (Ie.ab a) % Ie.un (Ie.ab b))) (Ie.un (Ie.ab b)) ∧ (∀ y, Ie.Rnd (Ie.lft V1 V2 up) 1 x false y → Ie.un y = Ie.lft (Ie.un (Ie.ab a)) (Ie.un (Ie.ab b)) up ∧ 0 ≤ y ∧ y < 9218868437227405312)) := by
    intro i j x hx hi hj
    obtain ⟨c, hc, hc2, hA, hB⟩ := Ie.left_un hx hi hj ea0 eb0 ea1 gA gB
    obtain ⟨v2, v1, r0, r1, r2, r3⟩ := Ie.left_bd (i := i) (j := j) (by omega) ma0 ma1 mbp mb1
    have l1 := sh_room (m := Ie.dm a) (i := i) (K := 53) (by omega) (by omega)
    have l2 := sh_room (m := Ie.dm b) (i := j) (K := 53) (by omega) (by omega)
    have hp := Nm.two_pos c
    rw [hA, hB] at UP ⊢
    generalize Ie.dm a * 2 ^ i = V1 at *
    generalize Ie.dm b * 2 ^ j = V2 at *
    have q1 : V1 / V2 ≤ V1 := Int.ediv_le_self _ v1
    have t1 : 2 * (V1 * 2 ^ c % (V2 * 2 ^ c)) = V1 % V2 * 2 ^ 1 * 2 ^ c := by rw [Ie.emod_scale _ _ _ hp, Int.pow_one, Int.mul_comm (V1 % V2) 2, Int.mul_assoc]
    refine ⟨V1, V2, rfl, rfl, l1, l2, v2, r0, r1, ?_, by omega, (Ie.ediv_scale _ _ _ hp).symm, ?_, ?_⟩
    · exact sh_room (K := 53) (i := 1) (by omega) (by omega)
    · rw [t1]
      have g1 := Ie.lt_scale (a := V1 % V2 * 2 ^ 1) (b := V2) hp
      have g2 := Ie.eq_scale (a := V1 % V2 * 2 ^ 1) (b := V2) hp
      exact cmpI_iff g1.symm g2.symm
    · intro y hy
      have key : Ie.lft (V1 * 2 ^ c) (V2 * 2 ^ c) up = Ie.lft V1 V2 up * 2 ^ c := by
        rw [Ie.lft, Ie.lft, Ie.emod_scale _ _ _ hp]
        split
        · rw [Int.sub_mul]
        · rfl
      rw [key]
      refine Ie.rnd_rep hc ?_ ?_ hc2 hy
      · rw [Ie.lft]; split <;> omega
      · rw [Ie.lft]
        split
        · rename_i hu
          have u1 := UP hu
          rw [t1] at u1
          have u2 := Int.le_of_mul_le_mul_right u1 hp
          rw [Int.pow_one] at u2
          exact r3 (by omega)
        · exact r2
  have SG : (a / 9223372036854775808 * 9223372036854775808 != 0) = Ie.ngd a := by
    rcases (show a < 9223372036854775808 ∨ 9223372036854775808 ≤ a by omega) with g | g
    · rw [show a / 9223372036854775808 * 9223372036854775808 = 0 by omega, Ie.ngd, decide_eq_false (by omega)]; rfl
    · rw [show a / 9223372036854775808 * 9223372036854775808 = 9223372036854775808 by omega, Ie.ngd, decide_eq_true (by omega)]; rfl
  clear UP hT ma0 ma1 mb0 mb1 ea0 ea1 eb0 eb1 gA gB mz mbp zb zb' fa fb a0 a1 b0 b1 e53
  generalize a / 9223372036854775808 * 9223372036854775808 = sv at *
  generalize Ie.un (Ie.ab a) = UA at *
  generalize Ie.un (Ie.ab b) = UB at *
  generalize Ie.ngd a = neg at *
  go_enter Tryd.func20, Tryd.ntmps20
  go_wp2_with fail
  refine (NA.out _).mono ?_
  rintro e wz ⟨rfl, hz⟩
  replace hz := hz.symm
  subst hz
  go_wp2_with fail
  refine (NB.out _).mono ?_
  rintro e wz ⟨rfl, hz⟩
  replace hz := hz.symm
  subst hz
  go_wp2_with fail
  refine (IA.out _).mono ?_
  rintro e wz ⟨rfl, hz⟩
  replace hz := hz.symm
  subst hz
  go_wp2_with fail
  refine (ZB.out _).mono ?_
  rintro e wz ⟨rfl, hz⟩
  replace hz := hz.symm
  subst hz
  go_wp2_with fail
  refine (IB.out _).mono ?_
  rintro e wz ⟨rfl, hz⟩
  replace hz := hz.symm
  subst hz
  clear NA NB IA IB ZB
  go_wp2_with fail
  refine AL.out.mono ?_
  rintro e w1 ⟨p, q, os, qs, i, j, x, rfl, A1, A2, hx, hi, hj, hB1⟩
  obtain ⟨V1, V2, hV1, hV2, l1, l2, v2, r0, r1, l3, l4, hq, hc, hy⟩ := NU.out i j x hx hi hj
  rw [← hV1] at A1
  rw [← hV2] at A2
  have D1 := hid (a_div A1 A2 l1 l2 v2)
  have HA2 := hid A2
  have HB1 := hid hB1
  have R1 := hid (And.intro l1 (And.intro l2 (And.intro v2 (And.intro r0 r1))))
  have R2 := hid (And.intro l3 l4)
  have HQ := hid hq
  have HC := hid hc
  have HY := hid hy
  clear A1 A2 hB1 l1 l2 v2 r0 r1 l3 l4 hq hc hy hV1 hV2 hx hi hj NU AL
  go_wp2_with fail
  refine D1.out.mono ?_
  rintro e w2 ⟨r3, o3, r4, o4, rfl, A3, A4, hB⟩
  have HB2 := hid (HB1.out.trans (hB.mono HB1.out.size))
  have HA3 := hid A3
  have HA4 := hid A4
  have HA5 := hid (HA2.out.below hB (Nat.le_refl _))
  have S1 := hid (a_shl 1 A4 R2.out.1)
  clear A3 A4 hB D1 HA2 HB1
  go_wp2_with fail
  refine S1.out.mono ?_
  rintro e w3 ⟨r5, o5, rfl, A, hB⟩
  have HB3 := hid (HB2.out.trans (hB.mono HB2.out.size))
  have HA6 := hid (HA3.out.below hB (Nat.le_refl _))
  have HA7 := hid (HA4.out.below hB (Nat.le_refl _))
  have HA8 := hid (HA5.out.below hB (Nat.le_refl _))
  have BI := hid (a_bit0 HA6.out R2.out.2)
  have CM := hid (a_cmp A HA8.out R2.out.1 R1.out.2.1)
  rw [HQ.out] at BI
  rw [HC.out] at CM
  clear A hB HA3 HA4 HA5 S1 HB2 HA6 HQ HC
  go_wp2_with fail
  refine BI.out.mono ?_
  rintro e wz ⟨rfl, hz⟩
  replace hz := hz.symm
  subst hz
  clear BI
  go_wp2_with fail
  refine CM.out.mono ?_
  rintro e w4 ⟨rfl, hB⟩
  have HB4 := hid (HB3.out.trans (hB.mono HB3.out.size))
  have HA9 := hid (HA7.out.below hB (Nat.le_refl _))
  have HA10 := hid (HA8.out.below hB (Nat.le_refl _))
  have HT4 := hid (HT.out.below HB4.out)
  clear hB HA7 HA8 HB3 CM HT
  go_wp2_with fail
  refine (AW.out _ HB4.out).mono ?_
  rintro e wz ⟨rfl, hz⟩
  replace hz := hz.symm
  subst hz
  clear AW
  cases up
  · have RO := round_any neg r4 _ _ o4 w4 (HA9.out.argT (by have := R1.out.2.2.2.2; have := R1.out.2.1; omega)) HT4.out (HA9.out.tsT (by have := R1.out.2.2.2.2; have := R1.out.2.1; omega)) (V1 % V2) x false HA9.out.2.2.2.1
    have HRO := hid RO
    clear RO HA9 HA10 R1 R2
    go_wp2_with fail
    refine HRO.out.mono ?_
    rintro e w5 ⟨y, rfl, hR, hB⟩
    have HB5 := hid (HB4.out.trans (hB.mono HB4.out.size))
    have KY := hid (HY.out y hR)
    clear hB hR HRO HY HB4
    go_wp2_with fail
    go_ret
    exact ⟨y, i_retU (show Ie.sg neg y = _ by rw [Bool.bne_false]), KY.out, HB5.out⟩
  · have SU := hid (a_sub HA10.out HA9.out R1.out.2.1 (Int.le_of_lt R1.out.2.2.2.2))
    have RB : Hid (V2 - V1 % V2 < Nm.pw 4096) := by
      have := R1.out.2.2.2.1
      have := R1.out.2.1
      show V2 - V1 % V2 < Nm.pw 4096
      omega
    clear HA9 HA10 R1 R2
    go_wp2_with fail
    refine SU.out.mono ?_
    rintro e w5 ⟨r6, o6, rfl, A, hB⟩
    have HB5 := hid (HB4.out.trans (hB.mono HB4.out.size))
    have HT5 := hid (HT4.out.below hB)
    have HRO := hid (round_any (!neg) r6 _ _ o6 w5 (A.argT RB.out) HT5.out (A.tsT RB.out) (V2 - V1 % V2) x false A.2.2.2.1)
    clear A hB SU HB4 HT4 RB
    go_wp2_with fail
    refine HRO.out.mono ?_
    rintro e w6 ⟨y, rfl, hR, hB⟩
    have HB6 := hid (HB5.out.trans (hB.mono HB5.out.size))
    have KY := hid (HY.out y hR)
    clear hB hR HRO HY HB5
    go_wp2_with fail
    go_ret
    exact ⟨y, i_retU (show Ie.sg (!neg) y = _ by rw [Bool.bne_true]), KY.out, HB6.out⟩
end Go.Proofs.YtkmadibfiikleaaDoor

/-
  remain: left where nothing is divided; Fmod (made by mkmfmod.py).
-/
namespace Go.Proofs.YtkmadibfiikleaaDoor
open Go Go.RowKit Go.Deep

namespace Ie
theorem left_nan {a b : Int} (up : Bool) (h : isn a = true ∨ isn b = true ∨ isi a = true ∨ isz b = true) : LeftIs a b up 9221120237041090560 := by
  refine ⟨fun _ => rfl, fun fa ib => ?_, fun fa fb zb => ?_⟩
  · rcases h with h | h | h | h
    · rw [(fin_kinds fa).1] at h; cases h
    · simp only [isn, isi, decide_eq_true_iff] at h ib; omega
    · rw [(fin_kinds fa).2] at h; cases h
    · simp only [isz, isi, decide_eq_true_iff] at h ib; omega
  · rcases h with h | h | h | h
    · rw [(fin_kinds fa).1] at h; cases h
    · rw [(fin_kinds fb).1] at h; cases h
    · rw [(fin_kinds fa).2] at h; cases h
    · simp only [isz, decide_eq_true_iff] at h; exact absurd h zb
theorem left_inf {a b : Int} (up : Bool) (fa : fin a) (ib : isi b = true) : LeftIs a b up a := by
  refine ⟨fun h => ?_, fun _ _ => rfl, fun _ fb _ => ?_⟩
  · rcases h with h | h | h | h
    · rw [(fin_kinds fa).1] at h; cases h
    · simp only [isn, isi, decide_eq_true_iff] at h ib; omega
    · rw [(fin_kinds fa).2] at h; cases h
    · simp only [isz, isi, decide_eq_true_iff] at h ib; omega
  · rw [(fin_kinds fb).2] at ib; cases ib
theorem left_fin {a b y : Int} {up : Bool} (fa : fin a) (fb : fin b) (zb : ab b ≠ 0) (h : un y = lft (un (ab a)) (un (ab b)) up ∧ 0 ≤ y ∧ y < 9218868437227405312) : LeftIs a b up (sg (ngd a != up) y) := by
  refine ⟨fun h => ?_, fun _ ib => ?_, fun _ _ _ => ⟨y, rfl, h.2.1, h.2.2, h.1⟩⟩
  · rcases h with h | h | h | h
    · rw [(fin_kinds fa).1] at h; cases h
    · rw [(fin_kinds fb).1] at h; cases h
    · rw [(fin_kinds fa).2] at h; cases h
    · simp only [isz, decide_eq_true_iff] at h; exact absurd h zb
  · rw [(fin_kinds fb).2] at ib; cases ib
end Ie

set_option maxRecDepth 100000 in
theorem left_stay (fv : Value) (up : Bool) (a b : Int) (w : World) (a0 : 0 ≤ a) (a1 : a < 18446744073709551616) (b0 : 0 ≤ b) (b1 : b < 18446744073709551616) (h : ¬ (Ie.fin a ∧ Ie.fin b ∧ Ie.ab b ≠ 0)) :
    Calls Tryd.prog 20 #[.int .u64 a, .int .u64 b, fv] w fun e w' => ∃ r, e = .returned (.int .u64 r) ∧ Ie.LeftIs a b up r ∧ Below w.heap.size w w' := by
  have NA := hid (fun (wx : World) => mnan_any a wx a0 a1)
  have NB := hid (fun (wx : World) => mnan_any b wx b0 b1)
  have IA := hid (fun (wx : World) => minfinite_any a wx a0 a1)
  have IB := hid (fun (wx : World) => minfinite_any b wx b0 b1)
  have ZB := hid (fun (wx : World) => mzero_any b wx b0 b1)
  clear a0 a1 b0 b1
  rcases Ie.kinds a with ga | ⟨ga, ia, -⟩ | ⟨ga, ia, fa⟩
  · have E := hid (Ie.left_nan (a := a) (b := b) up (.inl ga))
    rw [ga] at NA
    clear ga h NB IA IB ZB
    go_enter Tryd.func20, Tryd.ntmps20
    go_wp2_with fail
    refine (NA.out _).mono ?_
    rintro e wz ⟨rfl, hz⟩
    replace hz := hz.symm
    subst hz
    go_wp2_with fail
    go_ret
    exact ⟨_, rfl, E.out, Below.refl _ _⟩
  · cases gb : Ie.isn b
    · have E := hid (Ie.left_nan (a := a) (b := b) up (.inr (.inr (.inl ia))))
      rw [ga] at NA
      rw [gb] at NB
      rw [ia] at IA
      clear ga gb ia h IB ZB
      go_enter Tryd.func20, Tryd.ntmps20
      go_wp2_with fail
      refine (NA.out _).mono ?_
      rintro e wz ⟨rfl, hz⟩
      replace hz := hz.symm
      subst hz
      go_wp2_with fail
      refine (NB.out _).mono ?_
      rintro e wz ⟨rfl, hz⟩
      replace hz := hz.symm
      subst hz
      go_wp2_with fail
      refine (IA.out _).mono ?_
      rintro e wz ⟨rfl, hz⟩
      replace hz := hz.symm
      subst hz
      go_wp2_with fail
      go_ret
      exact ⟨_, rfl, E.out, Below.refl _ _⟩
    · have E := hid (Ie.left_nan (a := a) (b := b) up (.inr (.inl gb)))
      rw [ga] at NA
      rw [gb] at NB
      clear ga gb ia h IA IB ZB
      go_enter Tryd.func20, Tryd.ntmps20
      go_wp2_with fail
      refine (NA.out _).mono ?_
      rintro e wz ⟨rfl, hz⟩
      replace hz := hz.symm
      subst hz
      go_wp2_with fail
      refine (NB.out _).mono ?_
      rintro e wz ⟨rfl, hz⟩
      replace hz := hz.symm
      subst hz
      go_wp2_with fail
      go_ret
      exact ⟨_, rfl, E.out, Below.refl _ _⟩
  · rcases Ie.kinds b with gb | ⟨gb, ib, -⟩ | ⟨gb, ib, fb⟩
    · have E := hid (Ie.left_nan (a := a) (b := b) up (.inr (.inl gb)))
      rw [ga] at NA
      rw [gb] at NB
      clear ga gb ia fa h IA IB ZB
      go_enter Tryd.func20, Tryd.ntmps20
      go_wp2_with fail
      refine (NA.out _).mono ?_
      rintro e wz ⟨rfl, hz⟩
      replace hz := hz.symm
      subst hz
      go_wp2_with fail
      refine (NB.out _).mono ?_
      rintro e wz ⟨rfl, hz⟩
      replace hz := hz.symm
      subst hz
      go_wp2_with fail
      go_ret
      exact ⟨_, rfl, E.out, Below.refl _ _⟩
    · have E := hid (Ie.left_inf (a := a) (b := b) up fa ib)
      have z : Ie.isz b = false := by simp only [Ie.isi, Ie.isz, decide_eq_true_iff, decide_eq_false_iff_not] at ib ⊢; omega
      rw [ga] at NA
      rw [gb] at NB
      rw [ia] at IA
      rw [ib] at IB
      rw [z] at ZB
      clear ga gb ia ib fa z h
      go_enter Tryd.func20, Tryd.ntmps20
      go_wp2_with fail
      refine (NA.out _).mono ?_
      rintro e wz ⟨rfl, hz⟩
      replace hz := hz.symm
      subst hz
      go_wp2_with fail
      refine (NB.out _).mono ?_
      rintro e wz ⟨rfl, hz⟩
      replace hz := hz.symm
      subst hz
      go_wp2_with fail
      refine (IA.out _).mono ?_
      rintro e wz ⟨rfl, hz⟩
      replace hz := hz.symm
      subst hz
      go_wp2_with fail
      refine (ZB.out _).mono ?_
      rintro e wz ⟨rfl, hz⟩
      replace hz := hz.symm
      subst hz
      go_wp2_with fail
      refine (IB.out _).mono ?_
      rintro e wz ⟨rfl, hz⟩
      replace hz := hz.symm
      subst hz
      go_wp2_with fail
      go_ret
      exact ⟨_, rfl, E.out, Below.refl _ _⟩
    · have z : Ie.isz b = true := by
        rw [Ie.isz, decide_eq_true_iff]
        rcases (show Ie.ab b = 0 ∨ Ie.ab b ≠ 0 by omega) with g | g
        · exact g
        · exact absurd ⟨fa, fb, g⟩ h
      have E := hid (Ie.left_nan (a := a) (b := b) up (.inr (.inr (.inr z))))
      rw [ga] at NA
      rw [gb] at NB
      rw [ia] at IA
      rw [z] at ZB
      clear ga gb ia ib fa fb z h IB
      go_enter Tryd.func20, Tryd.ntmps20
      go_wp2_with fail
      refine (NA.out _).mono ?_
      rintro e wz ⟨rfl, hz⟩
      replace hz := hz.symm
      subst hz
      go_wp2_with fail
      refine (NB.out _).mono ?_
      rintro e wz ⟨rfl, hz⟩
      replace hz := hz.symm
      subst hz
      go_wp2_with fail
      refine (IA.out _).mono ?_
      rintro e wz ⟨rfl, hz⟩
      replace hz := hz.symm
      subst hz
      go_wp2_with fail
      refine (ZB.out _).mono ?_
      rintro e wz ⟨rfl, hz⟩
      replace hz := hz.symm
      subst hz
      go_wp2_with fail
      go_ret
      exact ⟨_, rfl, E.out, Below.refl _ _⟩

set_option maxRecDepth 100000 in
theorem fmodRule_any (a b : Value) (w : World) : Calls Tryd.prog 21 #[a, b] w fun e w' => e = .returned (.bool false) ∧ w' = w := by
  go_enter Tryd.func21, Tryd.ntmps21
  go_wp2_with fail
  go_ret
  exact ⟨rfl, rfl⟩

set_option maxRecDepth 100000 in
theorem fmod_any (a b : Int) (w : World) (hT : Tab w) (a0 : 0 ≤ a) (a1 : a < 18446744073709551616) (b0 : 0 ≤ b) (b1 : b < 18446744073709551616) :
    Calls Tryd.prog 10 #[.int .u64 a, .int .u64 b] w fun e w' => ∃ r, e = .returned (.int .u64 r) ∧ Ie.LeftIs a b false r ∧ Below w.heap.size w w' := by
  have L : Hid (Calls Tryd.prog 20 #[.int .u64 a, .int .u64 b, .func (Fn.func 21) #[] #[]] w fun e w' => ∃ r, e = .returned (.int .u64 r) ∧ Hid (Ie.LeftIs a b false r ∧ Below w.heap.size w w')) := by
    by_cases h : Ie.fin a ∧ Ie.fin b ∧ Ie.ab b ≠ 0
    · refine (left_F a b false w hT a0 a1 b0 b1 h.1 h.2.1 h.2.2 (fun wx _ => fmodRule_any _ _ wx) (fun g => by cases g)).mono ?_
      rintro e w' ⟨y, rfl, hy, hB⟩
      exact ⟨_, rfl, Ie.left_fin h.1 h.2.1 h.2.2 hy.out, hB⟩
    · exact left_stay _ false a b w a0 a1 b0 b1 h
  clear hT
  go_enter Tryd.func10, Tryd.ntmps10
  go_wp2_with fail
  refine L.out.mono ?_
  rintro e w' ⟨r, rfl, h⟩
  go_wp2_with fail
  go_ret
  exact ⟨_, rfl, h.out⟩
end Go.Proofs.YtkmadibfiikleaaDoor

/-
  remain: Remainder.
-/
namespace Go.Proofs.YtkmadibfiikleaaDoor
open Go Go.RowKit Go.Deep

/-- Does the nearest whole number lie farther from nothing? -/
def Ie.nup (odd : Bool) (c : Int) : Bool := decide (0 < c ∨ (c = 0 ∧ odd = true))

theorem cmpI_cases (a b : Int) : (cmpI a b = -1 ∧ a < b) ∨ (cmpI a b = 0 ∧ a = b) ∨ (cmpI a b = 1 ∧ b < a) := by
  by_cases h : a < b
  · exact .inl ⟨cmpI_lt h, h⟩
  · by_cases g : a = b
    · exact .inr (.inl ⟨cmpI_eq g, g⟩)
    · exact .inr (.inr ⟨cmpI_gt (by omega), by omega⟩)

set_option maxRecDepth 100000 in
theorem remRule_any (odd : Bool) (c : Int) (w : World) (hc : c = -1 ∨ c = 0 ∨ c = 1) : Calls Tryd.prog 25 #[.bool odd, .int .i64 c] w fun e w' => e = .returned (.bool (Ie.nup odd c)) ∧ w' = w := by
  rcases hc with rfl | rfl | rfl
  · go_enter Tryd.func25, Tryd.ntmps25
    go_wp2_with fail
    go_ret
    exact ⟨by cases odd <;> rfl, rfl⟩
  · go_enter Tryd.func25, Tryd.ntmps25
    go_wp2_with fail
    go_ret
    exact ⟨by cases odd <;> rfl, rfl⟩
  · go_enter Tryd.func25, Tryd.ntmps25
    go_wp2_with fail
    go_ret
    exact ⟨by cases odd <;> rfl, rfl⟩

/-- Remainder's turn. -/
def Ie.rup (A B : Int) : Bool := Ie.nup (A / B % 2 == 1) (cmpI (2 * (A % B)) B)

set_option maxRecDepth 100000 in
theorem remainder_any (a b : Int) (w : World) (hT : Tab w) (a0 : 0 ≤ a) (a1 : a < 18446744073709551616) (b0 : 0 ≤ b) (b1 : b < 18446744073709551616) :
    Calls Tryd.prog 14 #[.int .u64 a, .int .u64 b] w fun e w' => ∃ r, e = .returned (.int .u64 r) ∧ Ie.LeftIs a b (Ie.rup (Ie.un (Ie.ab a)) (Ie.un (Ie.ab b))) r ∧ Below w.heap.size w w' := by
  have L : Hid (Calls Tryd.prog 20 #[.int .u64 a, .int .u64 b, .func (Fn.func 25) #[] #[]] w fun e w' => ∃ r, e = .returned (.int .u64 r) ∧ Hid (Ie.LeftIs a b (Ie.rup (Ie.un (Ie.ab a)) (Ie.un (Ie.ab b))) r ∧ Below w.heap.size w w')) := by
    by_cases h : Ie.fin a ∧ Ie.fin b ∧ Ie.ab b ≠ 0
    · refine (left_R a b _ w hT a0 a1 b0 b1 h.1 h.2.1 h.2.2 (fun wx _ => remRule_any _ _ wx ?_) (fun g => ?_)).mono ?_
      · rcases cmpI_cases (2 * (Ie.un (Ie.ab a) % Ie.un (Ie.ab b))) (Ie.un (Ie.ab b)) with g | g | g <;> omega
      · rw [Ie.nup, decide_eq_true_iff] at g
        rcases cmpI_cases (2 * (Ie.un (Ie.ab a) % Ie.un (Ie.ab b))) (Ie.un (Ie.ab b)) with k | k | k
        · rw [k.1] at g; omega
        · omega
        · omega
      · rintro e w' ⟨y, rfl, hy, hB⟩
        exact ⟨_, rfl, Ie.left_fin h.1 h.2.1 h.2.2 hy.out, hB⟩
    · exact left_stay _ _ a b w a0 a1 b0 b1 h
  clear hT
  go_enter Tryd.func14, Tryd.ntmps14
  go_wp2_with fail
  refine L.out.mono ?_
  rintro e w' ⟨r, rfl, h⟩
  go_wp2_with fail
  go_ret
  exact ⟨_, rfl, h.out⟩
end Go.Proofs.YtkmadibfiikleaaDoor
