/-
  Texts put together: NSub, Walk4, IRatio2, ZRatio2, IRound, EAny, OpenList.
-/
import Derived.Test.YtbmbijadnojfaaaGreatDoorRA
import Derived.Test.YtbmbijadnojfaaaGreatDoorWalk2a
import Derived.Test.YtbmbijadnojfaaaGreatDoorSmall
import Derived.Test.YtbmbijadnojfaaaGreatDoorRH
import Derived.Test.YtbmbijadnojfaaaGreatDoorRB
import Derived.Test.YtbmbijadnojfaaaGreatDoorRG
import Derived.Test.YtbmbijadnojfaaaGreatDoorIRoundN
import Derived.Test.YtbmbijadnojfaaaGreatDoorRE
import Derived.Test.YtbmbijadnojfaaaGreatDoorMem
import Derived.SizedLaws
import Derived.ProofKit
namespace Go.Proofs.YtbmbijadnojfaaaGreatDoor
open Go.RowKit Go.Deep

set_option maxHeartbeats 1000000 in
theorem subFrom_any (g k : Nat) (zs : List Int) (q : Option Addr) (m cap : Nat) (ys : List Int) (w : World) (hk : zs.length = k) (hkm : k ≤ 35184372088832) (ho : Own w g zs) (hl : Nm.Limbs zs)
    (hm : ys.length = m) (hmk : m ≤ k) (hy : Lies w q ys) (hly : Nm.Limbs ys) (hq : 0 < ys.length → ∀ a, q = some a → a.block < g) (hT : 0 ≤ Nm.val zs - Nm.val ys) :
    Calls Tryz.prog 102 #[.slice (some ⟨g, 0, none⟩) k k, .slice q m cap] w fun e w' => e = .returned (.tuple #[]) ∧ Wrote g k (Nm.val zs - Nm.val ys) w w' := by
  rcases hy with rfl | ⟨b, off, rfl, hcell⟩
  · have hm0 : m = 0 := by simpa using hm.symm
    subst hm0
    have E : Wrote g k (Nm.val zs - Nm.val []) w w := ⟨zs, ho, hk, hl, by simp [Nm.val], Below.refl _ _, rfl⟩
    clear ho hl hT hq hm hk
    go_enter Tryz.func102, Tryz.ntmps102
    go_wp2
    refine wp_loop_rounds 1 ?_
    rw [rounds_succ]
    go_wp2
    refine wp_loop_rounds 1 ?_
    rw [rounds_succ]
    go_wp2
    go_end0
    exact ⟨rfl, E⟩
  · have hbg : 0 < ys.length → b < g := fun h => hq h _ rfl
    have I0 : AddInv g k w (Nm.val zs - Nm.val (ys.take 0)) 0 (-0) zs w := ⟨ho, hk, hl, by simp [Nm.val], Below.refl _ _, rfl⟩
    have HC : Hid (∀ i, i < ys.length → w.cell? ⟨b, off + i, none⟩ = some (.int .u64 (ys.getD i 0))) := hcell
    have HM : Hid (ys.length = m) := hm
    have HT : Hid (0 ≤ Nm.val zs - Nm.val ys) := hT
    have HY : Hid (Nm.Limbs ys) := hly
    clear hcell hm hT hly hq ho hk hl
    go_enter Tryz.func102, Tryz.ntmps102
    go_wp2
    go_loopw [4, 10] (fun c i wr => ∃ (j : Nat) (cc : Int) (os : List Int), j ≤ m ∧ i = .int .i64 j ∧ c = .int .u64 cc ∧ 0 ≤ cc ∧ cc ≤ 1 ∧ AddInv g k w (Nm.val zs - Nm.val (ys.take j)) j (-cc) os wr) (fun _ i _ => m - (intOf i).toNat)
    case atStart => exact ⟨0, 0, zs, Nat.zero_le _, rfl, rfl, by omega, by omega, I0⟩
    case round =>
      clear I0
      obtain ⟨j, cc, os, hj, rfl, rfl, hc0, hc1, I⟩ := hrel
      by_cases hlt : j < m
      · obtain ⟨x, hx, X⟩ : ∃ x, wr.cell? ⟨b, off + j, none⟩ = some (.int .u64 x) ∧ Hid (x = ys.getD j 0) :=
          ⟨_, (I.2.2.2.2.1.cell (p := ⟨b, off + j, none⟩) (hbg (by have := HM.out; omega))).trans (HC.out j (by have := HM.out; omega)), rfl⟩
        obtain ⟨y, hyc, Y⟩ : ∃ y, wr.cell? ⟨g, j, none⟩ = some (.int .u64 y) ∧ Hid (y = os.getD j 0) := ⟨_, I.1.cell j (by have := I.2.1; omega), rfl⟩
        have hfr := I.1.free j
        have hx0 := HY.out.at j
        rw [← X.out] at hx0
        obtain ⟨hx0, hx1⟩ := hx0
        have hy0 := I.2.2.1.at j
        rw [← Y.out] at hy0
        obtain ⟨hy0, hy1⟩ := hy0
        obtain ⟨s, c', hs, hc', E⟩ := sub_names y x cc hy0 hy1 hx0 hx1 hc0 hc1
        have hjk : (j : Int) < (k : Int) := by omega
        go_wp2_with (simp only [sub64' y x cc s c' hy0 hy1 hx0 hx1 hc0 hc1 hs hc' E.out])
        go_roundw
        case rel =>
          have hst := I.down (by omega) (x := -x) (s := s) (c' := -c') hs (by rw [← Y.out]; exact E.out)
          refine ⟨j + 1, c', os.set j s, by omega, by go_num, rfl, hc'.1, hc'.2, ?_⟩
          have e : Nm.val zs - Nm.val (ys.take (j + 1)) = Nm.val zs - Nm.val (ys.take j) + Nm.pw j * (-x) := by
            rw [Nm.val_take_succ ys j (by have := HM.out; omega), ← X.out, Int.mul_neg]
            omega
          rw [e]
          exact hst
        case measure => simp [intOf]; omega
      · have hjm : j = m := by omega
        subst hjm
        rw [List.take_of_length_le (by have := HM.out; omega)] at I
        go_wp2
        go_loopw [4, 7] (fun c i wr => ∃ (t : Nat) (cc : Int) (os : List Int), t ≤ k ∧ i = .int .i64 t ∧ c = .int .u64 cc ∧ 0 ≤ cc ∧ cc ≤ 1 ∧ AddInv g k w (Nm.val zs - Nm.val ys) t (-cc) os wr) (fun _ i _ => k - (intOf i).toNat)
        case atStart => exact ⟨j, cc, os, hmk, rfl, rfl, hc0, hc1, I⟩
        case round =>
          clear I hc0 hc1
          obtain ⟨t, cc, os, ht, rfl, rfl, hc0, hc1, I⟩ := hrel
          by_cases hz : cc = 0
          · subst hz
            have E : Wrote g k (Nm.val zs - Nm.val ys) w wr := ⟨os, I.1, I.2.1, I.2.2.1, by have := I.2.2.2.1; simp at this; omega, I.2.2.2.2.1, I.2.2.2.2.2⟩
            clear I
            go_wp2
            go_end0
            exact ⟨rfl, E⟩
          · have htk := I.stop HT.out (by omega)
            have htk' : (t : Int) < (k : Int) := by omega
            obtain ⟨y, hyc, Y⟩ : ∃ y, wr.cell? ⟨g, t, none⟩ = some (.int .u64 y) ∧ Hid (y = os.getD t 0) := ⟨_, I.1.cell t (by have := I.2.1; omega), rfl⟩
            have hfr := I.1.free t
            have hy0 := I.2.2.1.at t
            rw [← Y.out] at hy0
            obtain ⟨hy0, hy1⟩ := hy0
            obtain ⟨s, c', hs, hc', E⟩ := sub_names y 0 cc hy0 hy1 (by omega) (by omega) hc0 hc1
            go_wp2_with (simp only [sub64' y 0 cc s c' hy0 hy1 (Int.le_refl 0) (by decide) hc0 hc1 hs hc' E.out])
            go_roundw
            case rel =>
              have hst := I.down (by omega) (x := -0) (s := s) (c' := -c') hs (by rw [← Y.out]; exact E.out)
              rw [Int.neg_zero, Int.mul_zero, Int.add_zero] at hst
              exact ⟨t + 1, c', os.set t s, by omega, by go_num, rfl, hc'.1, hc'.2, hst⟩
            case measure => simp [intOf]; omega

theorem Arg.trim {w : World} {p : Option Addr} {n cap : Nat} {zs : List Int} (h : Arg w p n cap zs) : Arg w p (Nm.tsize zs) (Nm.tsize zs) (Nm.trim zs) :=
  ⟨Nm.trim_length zs, Nat.le_refl _, by have := h.tl; have := h.2.1; have := h.2.2.1; omega, h.2.2.2.1.trim, h.2.2.2.2.trim⟩

set_option maxHeartbeats 1000000 in
theorem sub_ok (p q : Option Addr) (n cap m cap' : Nat) (zs ys : List Int) (w : World) (ha : Arg w p n cap zs) (hb : Arg w q m cap' ys) (tz : Nm.tsize zs ≤ 4096) (hle : Nm.val ys ≤ Nm.val zs) :
    Calls Tryz.prog 89 #[.slice p n cap, .slice q m cap'] w fun e w' => ∃ r os, e = .returned (.tuple #[.slice r (List.length os) (List.length os), .int .i64 0]) ∧ Ans w.heap.size w' r os (Nm.val zs - Nm.val ys) ∧ Below w.heap.size w w' := by
  have hs : Nm.val zs < Nm.pw 4096 := (Nm.tsize_le_iff ha.2.2.2.2 4096).1 tz
  have y0 := (Nm.val_bd ys hb.2.2.2.2).1
  have ty : Nm.tsize ys ≤ 4096 := (Nm.tsize_le_iff hb.2.2.2.2 4096).2 (by omega)
  have tyz : Nm.tsize ys ≤ Nm.tsize zs := by
    have h1 := Nm.val_lt_tsize ha.2.2.2.2
    exact (Nm.tsize_le_iff hb.2.2.2.2 _).2 (by omega)
  have AT := hid ha.trim
  have BT := hid hb.trim
  obtain ⟨a1, a2, a3, a4, a5⟩ := ha
  obtain ⟨b1, b2, b3, b4, b5⟩ := hb
  obtain ⟨c, C⟩ : ∃ c, Hid (cmpI (Nm.val (Nm.trim zs)) (Nm.val (Nm.trim ys)) = c) := ⟨_, rfl⟩
  have hc : ¬ c < 0 := by
    rw [← C.out, Nm.val_trim, Nm.val_trim]
    unfold cmpI
    rw [if_neg (by omega)]
    split <;> omega
  have V : Hid (Nm.val (Nm.trim zs) - Nm.val (Nm.trim ys) = Nm.val zs - Nm.val ys) := by rw [Hid, Nm.val_trim, Nm.val_trim]
  have HS : Hid (0 ≤ Nm.val (Nm.trim zs) - Nm.val (Nm.trim ys) ∧ Nm.val (Nm.trim zs) - Nm.val (Nm.trim ys) < Nm.pw 4096) := by rw [Hid, Nm.val_trim, Nm.val_trim]; omega
  clear hs y0 hle
  go_enter Tryz.func89, Tryz.ntmps89
  go_wp2_with fail
  refine (pair_ok p q n cap m cap' zs ys _ a1 a2 (by omega) a4 tz b1 b2 (by omega) b4 ty).mono ?_
  rintro e w' ⟨rfl, rfl⟩
  go_wp2_with fail
  refine (cmp_is c p q _ _ _ _ (Nm.trim zs) (Nm.trim ys) _ AT.out BT.out C.out).mono ?_
  rintro e w1 ⟨rfl, hb1⟩
  have D1 := hid hb1
  clear hb1
  go_wp2_with fail
  refine (widened_any p (Nm.tsize zs) (Nm.tsize zs) 0 0 (Nm.trim zs) _ rfl (Nm.trim_length zs) (by omega) (AT.out.below D1.out (Nat.le_refl _)).2.2.2.1).mono ?_
  rintro e w2 ⟨rfl, ho, hb1, hz1⟩
  rw [List.replicate_zero, List.append_nil] at ho
  have HO := hid ho
  have D2 := hid hb1
  have S1 := hid D1.out.size
  clear ho hb1 hz1
  go_wp2_with fail
  refine (subFrom_any w1.heap.size (Nm.tsize zs) (Nm.trim zs) q (Nm.tsize ys) (Nm.tsize ys) (Nm.trim ys) _ (Nm.trim_length zs) (by omega) HO.out a5.trim (Nm.trim_length ys) tyz ((BT.out.below D1.out (Nat.le_refl _)).2.2.2.1.below D2.out (Nat.le_refl _)) b5.trim (fun h0 => (BT.out.below D1.out (Nat.le_refl _)).2.2.2.1.lt h0) HS.out.1).mono ?_
  rintro e w3 ⟨rfl, hw⟩
  obtain ⟨os, o1, o2, o3, o4, o5, o6⟩ := hw
  have HO3 := hid o1
  have O4 := hid o4
  have HB2 := hid o5
  clear o1 o4 o5 o6
  go_wp2_with fail
  refine (limited_own w1.heap.size (Nm.tsize zs) os _ o2 (by omega) HO3.out o3 w'.heap.size S1.out (by rw [O4.out]; exact HS.out.2)).mono ?_
  rintro e w4 ⟨r, xs, rfl, hans, rfl⟩
  rw [O4.out, V.out] at hans
  have HA := hid hans
  clear hans
  go_wp2_with fail
  go_ret2
  exact ⟨r, xs, rfl, HA.out, D1.out.trans ((D2.out.trans HB2.out).mono S1.out)⟩

set_option maxHeartbeats 1000000 in
theorem sub_below (p q : Option Addr) (n cap m cap' : Nat) (zs ys : List Int) (w : World) (ha : Arg w p n cap zs) (hb : Arg w q m cap' ys) (tz : Nm.tsize zs ≤ 4096) (ty : Nm.tsize ys ≤ 4096) (hlt : Nm.val zs < Nm.val ys) :
    Calls Tryz.prog 89 #[.slice p n cap, .slice q m cap'] w fun e w' => e = .returned (.tuple #[.slice none 0 0, .int .i64 10]) ∧ Below w.heap.size w w' := by
  have AT := hid ha.trim
  have BT := hid hb.trim
  obtain ⟨a1, a2, a3, a4, a5⟩ := ha
  obtain ⟨b1, b2, b3, b4, b5⟩ := hb
  have C := hid (cmpI_lt hlt)
  rw [← Nm.val_trim zs, ← Nm.val_trim ys] at C
  clear hlt
  go_enter Tryz.func89, Tryz.ntmps89
  go_wp2_with fail
  refine (pair_ok p q n cap m cap' zs ys _ a1 a2 (by omega) a4 tz b1 b2 (by omega) b4 ty).mono ?_
  rintro e w' ⟨rfl, rfl⟩
  go_wp2_with fail
  refine (cmp_is _ p q _ _ _ _ (Nm.trim zs) (Nm.trim ys) _ AT.out BT.out C.out).mono ?_
  rintro e w1 ⟨rfl, hb1⟩
  have D1 := hid hb1
  clear hb1
  go_wp2_with fail
  go_ret2
  exact ⟨rfl, D1.out⟩
end Go.Proofs.YtbmbijadnojfaaaGreatDoor

namespace Go.Proofs.YtbmbijadnojfaaaGreatDoor
open Go.RowKit Go.Deep

/-- Behind j limbs of a: the block holds the product of these and b. -/
def ProdInv (g k : Nat) (w : World) (ls bs : List Int) (j : Nat) (os : List Int) (wr : World) : Prop :=
  Own wr g os ∧ os.length = k ∧ Nm.Limbs os ∧ Nm.val os = Nm.val (ls.take j) * Nm.val bs ∧ Below g w wr

theorem ProdInv.step {g k : Nat} {w : World} {ls bs : List Int} {j : Nat} {os : List Int} {wr w' : World} {n : Nat} (hn : bs.length = n) (ha : Nm.Limbs ls) (hb : Nm.Limbs bs) (h : ProdInv g k w ls bs j os wr) (hj : j < ls.length) (hk : j + n < k) {c x : Int} {us : List Int}
    (hx : x = ls.getD j 0) (hm : MulInv g k (j + n) wr os (Nm.val os + Nm.pw j * (Nm.val bs * x)) (j + n) c us w') :
    ProdInv g k w ls bs (j + 1) (us.set (j + n) c) (w'.setCell ⟨g, j + n, none⟩ (.int .u64 c)) := by
  subst hn
  obtain ⟨h1, h2, h3, h4, h5⟩ := h
  obtain ⟨⟨m1, m2, m3, m4, m5, m6⟩, m7, m8⟩ := hm
  have hv : Nm.val os < Nm.pw (j + bs.length) := by
    rw [h4, Nm.pw_add]
    have e1 := Nm.val_bd _ (ha.take j)
    rw [List.length_take, Nat.min_eq_left (by omega)] at e1
    have e2 := Nm.val_bd _ hb
    have e3 : Nm.val (ls.take j) * Nm.val bs ≤ Nm.pw j * Nm.val bs := Int.mul_le_mul_of_nonneg_right (by omega) e2.1
    have e4 : Nm.pw j * (Nm.val bs + 1) ≤ Nm.pw j * Nm.pw bs.length := Int.mul_le_mul_of_nonneg_left (by omega) (by have := Nm.pw_pos j; omega)
    have e5 := Nm.pw_pos j
    rw [Int.mul_add, Int.mul_one] at e4
    omega
  have h0 : us.getD (j + bs.length) 0 = 0 := by rw [m8 _ (Nat.le_refl _)]; exact Nm.zero_of_lt h3 hv _ (Nat.le_refl _)
  refine ⟨m1.set _ _, by simpa using m2, m3.set _ m7.1 m7.2, ?_, h5.trans (m5.setCell (Nat.le_refl _) _)⟩
  rw [Nm.val_set _ _ _ (by omega), h0, Int.sub_zero, m4, h4, hx, Nm.val_take_succ ls j hj, Int.add_mul, Int.mul_assoc, Int.mul_comm (ls.getD j 0)]

theorem prod_bound {zs ys : List Int} (hz : Nm.Limbs zs) (hy : Nm.Limbs ys) (h : Nm.val zs * Nm.val ys < Nm.pw 4096) (h1 : 0 < Nm.tsize zs) (h2 : 0 < Nm.tsize ys) : Nm.tsize zs + Nm.tsize ys ≤ 4097 := by
  have e1 := Nm.val_ge_top hz h1
  have e2 := Nm.val_ge_top hy h2
  have e3 : Nm.pw (Nm.tsize zs - 1) * Nm.pw (Nm.tsize ys - 1) ≤ Nm.val zs * Nm.val ys := Int.mul_le_mul e1 e2 (Int.le_of_lt (Nm.pw_pos _)) (by have := (Nm.val_bd zs hz).1; omega)
  rw [← Nm.pw_add] at e3
  rcases Nat.lt_or_ge (Nm.tsize zs - 1 + (Nm.tsize ys - 1)) 4096 with e | e
  · omega
  · have := Nm.pw_mono e
    omega

set_option maxRecDepth 100000 in
set_option maxHeartbeats 1000000 in
theorem mul_ok (p q : Option Addr) (n cap m cap' : Nat) (zs ys : List Int) (w : World) (ha : Arg w p n cap zs) (hb : Arg w q m cap' ys) (tz : Nm.tsize zs ≤ 4096) (ty : Nm.tsize ys ≤ 4096) (hs : Nm.val zs * Nm.val ys < Nm.pw 4096) :
    Calls Tryz.prog 87 #[.slice p n cap, .slice q m cap'] w fun e w' => ∃ r os, e = .returned (.tuple #[.slice r (List.length os) (List.length os), .int .i64 0]) ∧ Ans w.heap.size w' r os (Nm.val zs * Nm.val ys) ∧ Below w.heap.size w w' := by
  obtain ⟨a1, a2, a3, a4, a5⟩ := ha
  obtain ⟨b1, b2, b3, b4, b5⟩ := hb
  have HS : Hid (Nm.val zs * Nm.val ys < Nm.pw 4096) := hs
  clear hs
  have nil : Nm.val zs * Nm.val ys = 0 → Ans w.heap.size w none [] (Nm.val zs * Nm.val ys) := fun h => ⟨Lies.nil _ _, Nm.Limbs.nil, rfl, by simp [Nm.val, h], fun a h => by cases h⟩
  by_cases h1 : Nm.tsize zs = 0
  · have h1' : ((Nm.tsize zs : Int) == 0) = true := by simp [h1]
    have NIL := hid (nil (by rw [(Nm.tsize_zero_iff a5).1 h1, Int.zero_mul]))
    clear nil h1
    go_enter Tryz.func87, Tryz.ntmps87
    go_wp2_with fail
    refine (pair_ok p q n cap m cap' zs ys _ a1 a2 (by omega) a4 tz b1 b2 (by omega) b4 ty).mono ?_
    rintro e w' ⟨rfl, rfl⟩
    go_wp2_with fail
    go_ret2
    exact ⟨none, [], rfl, NIL.out, Below.refl _ _⟩
  have h1' : ((Nm.tsize zs : Int) == 0) = false := by simp [h1]
  by_cases h2 : Nm.tsize ys = 0
  · have h2' : ((Nm.tsize ys : Int) == 0) = true := by simp [h2]
    have NIL := hid (nil (by rw [(Nm.tsize_zero_iff b5).1 h2, Int.mul_zero]))
    clear nil h1 h2
    go_enter Tryz.func87, Tryz.ntmps87
    go_wp2_with fail
    refine (pair_ok p q n cap m cap' zs ys _ a1 a2 (by omega) a4 tz b1 b2 (by omega) b4 ty).mono ?_
    rintro e w' ⟨rfl, rfl⟩
    go_wp2_with fail
    go_ret2
    exact ⟨none, [], rfl, NIL.out, Below.refl _ _⟩
  have h2' : ((Nm.tsize ys : Int) == 0) = false := by simp [h2]
  clear nil
  have hsum := prod_bound a5 b5 HS.out (by omega) (by omega)
  have hsum' : (Nm.tsize zs : Int) + (Nm.tsize ys : Int) ≤ 4097 := by omega
  have hmk := make64 (Nm.tsize zs + Nm.tsize ys) (by omega) w
  have em : ((Nm.tsize zs + Nm.tsize ys : Nat) : Int) = (Nm.tsize zs : Int) + (Nm.tsize ys : Int) := by omega
  rw [em] at hmk
  clear em
  have ho : Own (w.alloc (.cells (madeCells #[.int .u64 0] (Nm.tsize zs + Nm.tsize ys)) 24)) w.heap.size (List.replicate (Nm.tsize zs + Nm.tsize ys) 0) := by
    rw [made_zero]; exact Own.alloc w _
  have hb0 : Below w.heap.size w (w.alloc (.cells (madeCells #[.int .u64 0] (Nm.tsize zs + Nm.tsize ys)) 24)) := (Below.refl _ _).alloc (Nat.le_refl _) _
  have I0 : ProdInv w.heap.size (Nm.tsize zs + Nm.tsize ys) w (Nm.trim zs) (Nm.trim ys) 0 (List.replicate (Nm.tsize zs + Nm.tsize ys) 0) (w.alloc (.cells (madeCells #[.int .u64 0] (Nm.tsize zs + Nm.tsize ys)) 24)) :=
    ⟨ho, by simp, Nm.Limbs.replicate _, by simp [Nm.val_replicate, Nm.val], hb0⟩
  clear ho hb0
  have hsum2 : decide (4096 < (Nm.tsize zs : Int) + (Nm.tsize ys : Int) - 1) = false := by simp; omega
  have A4 := hid a4.trim
  have B4 := hid b4.trim
  obtain ⟨b, off, rfl, hcell⟩ : ∃ b off, p = some ⟨b, off, none⟩ ∧ Hid (∀ i, i < Nm.tsize zs → w.cell? ⟨b, off + i, none⟩ = some (.int .u64 ((Nm.trim zs).getD i 0))) := by
    have hlen := Nm.trim_length zs
    rcases A4.out with h | ⟨b, off, hp, h⟩
    · exfalso
      rw [h] at hlen
      simp at hlen
      omega
    · exact ⟨b, off, hp, fun i hi => h i (by rw [hlen]; exact hi)⟩
  have hbg : b < w.heap.size := cell_lt (hcell.out 0 (by omega))
  have A5 := hid a5.trim
  have B5 := hid b5.trim
  go_enter Tryz.func87, Tryz.ntmps87
  go_wp2_with fail
  refine (pair_ok (some ⟨b, off, none⟩) q n cap m cap' zs ys _ a1 a2 (by omega) a4 tz b1 b2 (by omega) b4 ty).mono ?_
  rintro e w' ⟨rfl, rfl⟩
  clear a4 b4
  go_wp2_with fail
  go_loopw [43] (fun i wr => ∃ (j : Nat) (os : List Int), j ≤ Nm.tsize zs ∧ i = .int .i64 j ∧ ProdInv w'.heap.size (Nm.tsize zs + Nm.tsize ys) w' (Nm.trim zs) (Nm.trim ys) j os wr) (fun i _ => Nm.tsize zs - (intOf i).toNat)
  case atStart => exact ⟨0, _, Nat.zero_le _, rfl, I0⟩
  case round =>
    clear I0 hmk
    obtain ⟨j, os, hj, rfl, I⟩ := hrel
    by_cases hlt : j < Nm.tsize zs
    · obtain ⟨x, hx, X⟩ : ∃ x, wr.cell? ⟨b, off + j, none⟩ = some (.int .u64 x) ∧ Hid (x = (Nm.trim zs).getD j 0) := ⟨_, (I.2.2.2.2.cell (p := ⟨b, off + j, none⟩) hbg).trans (hcell.out j hlt), rfl⟩
      have hx0 := A5.out.at j
      rw [show (Nm.trim zs).getD j 0 = x from X.out.symm] at hx0
      obtain ⟨hx0, hx1⟩ := hx0
      go_wp2_with fail
      refine (addTimes_any w'.heap.size (Nm.tsize zs + Nm.tsize ys) j (Nm.tsize ys) _ os q _ (Nm.trim ys) x _ I.2.1 (by omega) I.1 I.2.2.1 (Nm.trim_length ys) (by omega) (B4.out.below I.2.2.2.2 (Nat.le_refl _)) B5.out (fun h0 => B4.out.lt h0) hx0 hx1).mono ?_
      rintro e w2 ⟨c, us, rfl, M⟩
      have I2 := I.step (Nm.trim_length ys) A5.out B5.out (by rw [Nm.trim_length]; exact hlt) (by omega) X.out M
      obtain ⟨y, hy⟩ : ∃ y, w2.cell? ⟨w'.heap.size, j + Nm.tsize ys, none⟩ = some (.int .u64 y) := ⟨_, M.1.1.cell _ (by have := M.1.2.1; omega)⟩
      have hfr := M.1.1.free (j + Nm.tsize ys)
      clear M
      go_wp2
      go_roundw
      case rel => exact ⟨j + 1, _, by omega, by go_num, I2⟩
      case measure => simp [intOf]; omega
    · have hjn : j = Nm.tsize zs := by omega
      subst hjn
      have E := I.2.2.2.1
      rw [List.take_of_length_le (by rw [Nm.trim_length]; omega), Nm.val_trim, Nm.val_trim] at E
      have EE := hid E
      clear E
      go_wp2_with fail
      refine (limited_own w'.heap.size (Nm.tsize zs + Nm.tsize ys) os _ I.2.1 (by omega) I.1 I.2.2.1 w'.heap.size (Nat.le_refl _) (by rw [EE.out]; exact HS.out)).mono ?_
      rintro e w3 ⟨r, xs, rfl, hans, rfl⟩
      rw [EE.out] at hans
      have HA := hid hans
      clear hans
      have HB := hid I.2.2.2.2
      clear I
      go_wp2_with fail
      go_ret2
      exact ⟨r, xs, rfl, HA.out, HB.out⟩
end Go.Proofs.YtbmbijadnojfaaaGreatDoor

/-
  ieee: longest, ratio whatever the divisor; the errors of Round and RoundRatio.
-/
namespace Go.Proofs.YtbmbijadnojfaaaGreatDoor
open Go Go.RowKit Go.Deep

namespace Ie
/-- The lowest limb of the divisor left out, and the quotient mended. -/
theorem long_div (n D high low q r : Int) (hD : D = high * 18446744073709551616 + low) (l0 : 0 ≤ low) (l1 : low < 18446744073709551616) (hn : n = q * high + r) (r0 : 0 ≤ r) (r1 : r < high) (ql : q * low < D) (q0 : 0 ≤ q) :
    (q * low ≤ r * 18446744073709551616 → n * 18446744073709551616 / D = q ∧ n * 18446744073709551616 % D = r * 18446744073709551616 - q * low) ∧
    (r * 18446744073709551616 < q * low → n * 18446744073709551616 / D = q - 1 ∧ n * 18446744073709551616 % D = D + (r * 18446744073709551616 - q * low)) := by
  have key : n * 18446744073709551616 = q * D + (r * 18446744073709551616 - q * low) := by
    rw [hn, hD, Int.add_mul, Int.mul_add, Int.mul_assoc q high]
    omega
  have ql0 : 0 ≤ q * low := Int.mul_nonneg q0 l0
  constructor
  · intro h
    exact div_is (by omega) (by omega) key.symm
  · intro h
    refine div_is (q := q - 1) (by omega) (by omega) ?_
    rw [key, Int.sub_mul, Int.one_mul]
    omega

theorem quo_long (V D Q s : Int) (k : Nat) (hs : s = (k : Int)) (d0 : 0 < D) (hq : V * 2 ^ k / D = Q) (hb : 18014398509481984 ≤ Q) (rest : Bool) (hr : rest = decide (V * 2 ^ k % D ≠ 0)) : Quo V D Q s rest := by
  intro e x h
  subst hs hr
  rw [← hq] at h hb
  exact Rnd.num k (rnd_floor (V * 2 ^ k) D (e - k) x d0 hb h)
end Ie

/-- A list that stands there, new since w: the number v, not too big. -/
def Held (w wx : World) (r : Option Addr) (os : List Int) (v : Int) : Prop := Ans w.heap.size wx r os v ∧ os.length ≤ 4096 ∧ Below w.heap.size w wx

theorem Held.below {w wx wy : World} {r : Option Addr} {os : List Int} {v : Int} (h : Held w wx r os v) (hb : Below wx.heap.size wx wy) : Held w wy r os v :=
  ⟨h.1.below hb (Nat.le_refl _), h.2.1, h.2.2.trans (hb.mono h.2.2.size)⟩
theorem Held.arg {w wx : World} {r : Option Addr} {os : List Int} {v : Int} (h : Held w wx r os v) : Arg wx r os.length os.length os := h.1.arg (by have := h.2.1; omega)
theorem Held.ts {w wx : World} {r : Option Addr} {os : List Int} {v : Int} (h : Held w wx r os v) : Nm.tsize os ≤ 4096 := by rw [h.1.2.2.1]; exact h.2.1
theorem Held.mk' {w wx wy : World} {r : Option Addr} {os : List Int} {v : Int} (hx : Below w.heap.size w wx) (A : Ans wx.heap.size wy r os v) (hb : Below wx.heap.size wx wy) (hv : v < Nm.pw 4096) : Held w wy r os v := by
  refine ⟨⟨A.1, A.2.1, A.2.2.1, A.2.2.2.1, fun a h => ?_⟩, ans_small A 4096 hv, hx.trans (hb.mono hx.size)⟩
  have := A.2.2.2.2 a h
  have := hx.size
  omega

set_option maxRecDepth 100000 in
set_option maxHeartbeats 8000000 in
theorem longest_any (p q : Option Addr) (n cap m cap' : Nat) (zs ys : List Int) (w : World) (ha : Arg w p n cap zs) (hb : Arg w q m cap' ys) (hT : Tab w) (tz : Nm.tsize zs ≤ 4096) (ty : Nm.tsize ys ≤ 4096) (V D : Int) (L M s : Nat) (hV : Nm.val zs = V) (hD : Nm.val ys = D) (hv : 0 < V)
    (hL : blen zs = (L : Int)) (BL : Nm.BLen V L) (BM : Nm.BLen D M) (hM2 : 262080 < M) (hs : L + s = 262144) :
    Calls Tryz.prog 75 #[.slice p n cap, .slice q m cap'] w fun e w' => RatioTold V D w e w' := by
  have d0 : 0 < D := by
    rcases (show D = 0 ∨ 0 < D ∨ D < 0 by omega) with h | h | h
    · have := BM.2.1 h; omega
    · exact h
    · have := (Nm.val_bd ys hb.2.2.2.2).1; omega
  have B1 := hid (bitLen_n L p n cap zs w ha hL)
  -- the numbers
  obtain ⟨N, hN⟩ : ∃ N, V * 2 ^ s = N := ⟨_, rfl⟩
  obtain ⟨H, hH⟩ : ∃ H, D / 2 ^ 64 = H := ⟨_, rfl⟩
  obtain ⟨lo, hlo⟩ : ∃ lo, D % 2 ^ 64 = lo := ⟨_, rfl⟩
  have e64 : (2 : Int) ^ 64 = 18446744073709551616 := by decide
  have lo0 : 0 ≤ lo ∧ lo < 18446744073709551616 := by rw [← hlo, e64]; omega
  have hDH : D = H * 18446744073709551616 + lo := by rw [← hH, ← hlo, e64]; omega
  have Dlt : D < Nm.pw 4096 := by rw [← hD]; exact (Nm.tsize_le_iff hb.2.2.2.2 4096).1 ty
  have Nlt : N < Nm.pw 4096 := by
    rw [← hN, Nm.pw_two]
    have g1 : V * 2 ^ s < 2 ^ (L + s) := by rw [Nm.two_add]; exact Int.mul_lt_mul_of_pos_right BL.1 (Nm.two_pos s)
    have g2 := Nm.two_mono (show L + s ≤ 64 * 4096 by omega)
    exact Int.lt_of_lt_of_le g1 g2
  have Nge : (2 : Int) ^ 262143 ≤ N := by
    rw [← hN, show (262143 : Nat) = L - 1 + s by have := (BL.2.2 hv).1; omega, Nm.two_add]
    exact Int.mul_le_mul_of_nonneg_right (BL.2.2 hv).2 (Int.le_of_lt (Nm.two_pos s))
  have N0 : 0 ≤ N := Int.le_trans (Int.le_of_lt (Nm.two_pos _)) Nge
  have Dge : (2 : Int) ^ 262080 ≤ D := Int.le_trans (Nm.two_mono (by omega)) (BM.2.2 d0).2
  have Hge : (2 : Int) ^ 262016 ≤ H := by
    rw [← hH, Int.le_ediv_iff_mul_le (Nm.two_pos 64), ← Nm.two_add]
    exact Dge
  have Hlt : H < 2 ^ 262080 := by
    rw [← hH, Int.ediv_lt_iff_lt_mul (Nm.two_pos 64), Int.mul_comm, ← Nm.two_add]
    rw [Nm.pw_two] at Dlt
    exact Dlt
  have H0 : 0 < H := Int.lt_of_lt_of_le (Nm.two_pos _) Hge
  obtain ⟨Qq, hQq⟩ : ∃ Q, N / H = Q := ⟨_, rfl⟩
  obtain ⟨R, hR⟩ : ∃ R, N % H = R := ⟨_, rfl⟩
  have R0 : 0 ≤ R := by rw [← hR]; exact Int.emod_nonneg N (Int.ne_of_gt H0)
  have R1 : R < H := by rw [← hR]; exact Int.emod_lt_of_pos N H0
  have hNR : N = Qq * H + R := by rw [← hQq, ← hR, Int.mul_comm]; exact (Int.mul_ediv_add_emod N H).symm
  have Q0 : 0 ≤ Qq := by rw [← hQq]; exact Int.ediv_nonneg N0 (Int.le_of_lt H0)
  have Qge : (2 : Int) ^ 63 ≤ Qq := by
    rw [← hQq, Int.le_ediv_iff_mul_le H0]
    have g1 : (2 : Int) ^ 63 * H ≤ 2 ^ 63 * 2 ^ 262080 := Int.mul_le_mul_of_nonneg_left (Int.le_of_lt Hlt) (Int.le_of_lt (Nm.two_pos 63))
    rw [← Nm.two_add] at g1
    exact Int.le_trans g1 Nge
  have Qlt : Qq < 2 ^ 128 := by
    rw [← hQq, Int.ediv_lt_iff_lt_mul H0]
    have g1 : (2 : Int) ^ 128 * 2 ^ 262016 ≤ 2 ^ 128 * H := Int.mul_le_mul_of_nonneg_left Hge (Int.le_of_lt (Nm.two_pos 128))
    rw [← Nm.two_add] at g1
    rw [Nm.pw_two] at Nlt
    exact Int.lt_of_lt_of_le Nlt g1
  have OWl : Qq * lo < 2 ^ 192 := by
    have g1 : Qq * lo ≤ Qq * 2 ^ 64 := Int.mul_le_mul_of_nonneg_left (by rw [e64]; omega) Q0
    have g2 : Qq * 2 ^ 64 < 2 ^ 128 * 2 ^ 64 := Int.mul_lt_mul_of_pos_right Qlt (Nm.two_pos 64)
    rw [← Nm.two_add] at g2
    exact Int.lt_of_le_of_lt g1 g2
  have OWD : Qq * lo < D := Int.lt_of_lt_of_le OWl (Int.le_trans (Nm.two_mono (by omega)) Dge)
  have OWp : Qq * lo < Nm.pw 4096 := by rw [Nm.pw_two]; exact Int.lt_of_lt_of_le OWl (Nm.two_mono (by omega))
  have Rp : R * 2 ^ 64 < Nm.pw 4096 := by
    have g1 : R * 2 ^ 64 < H * 2 ^ 64 := Int.mul_lt_mul_of_pos_right R1 (Nm.two_pos 64)
    have g2 : H * 2 ^ 64 ≤ D := by rw [e64, hDH]; omega
    exact Int.lt_trans (Int.lt_of_lt_of_le g1 g2) Dlt
  obtain ⟨LD1, LD2⟩ := Ie.long_div N D H lo Qq R hDH lo0.1 lo0.2 hNR R0 R1 OWD Q0
  have hNs : N * 18446744073709551616 = V * 2 ^ (s + 64) := by rw [← hN, Nm.two_add, e64, Int.mul_assoc]
  have q63 : (2 : Int) ^ 63 = 9223372036854775808 := by decide
  rw [q63] at Qge
  rw [e64] at Rp
  have Hp : H < Nm.pw 4096 := by rw [Nm.pw_two]; exact Int.lt_of_lt_of_le Hlt (Nm.two_mono (by omega))
  have Qp : Qq < Nm.pw 4096 := by rw [Nm.pw_two]; exact Int.lt_of_lt_of_le Qlt (Nm.two_mono (by omega))
  have Rq : R < Nm.pw 4096 := Int.lt_trans R1 Hp
  have lp : lo < Nm.pw 4096 := by
    have e1 : Nm.pw 1 = 18446744073709551616 := rfl
    have := Nm.pw_mono (show 1 ≤ 4096 by omega)
    omega
  have SH : Hid (∀ kk : Int, kk = (s : Int) → Calls Tryz.prog 72 #[.slice p n cap, .int .i64 kk] w fun e w' => ∃ r os, e = .returned (.tuple #[.slice r (List.length os) (List.length os), .int .i64 0]) ∧ Held w w' r os N) := by
    intro kk hkk
    refine (shl_any p n cap zs kk s w ha tz hkk (by rw [hV, hN]; exact Nlt)).mono ?_
    rintro e w' ⟨r, os, h1, A, hB⟩
    rw [hV, hN] at A
    exact ⟨r, os, h1, Held.mk' (Below.refl _ _) A hB Nlt⟩
  have SR : Hid (∀ wx : World, Below w.heap.size w wx → Calls Tryz.prog 76 #[.slice q m cap', .int .i64 64] wx fun e w' => ∃ r os b, e = .returned (.tuple #[.slice r (List.length os) (List.length os), .bool b, .int .i64 0]) ∧ Held w w' r os H ∧ Below wx.heap.size wx w') := by
    intro wx hx
    refine (shr_any q m cap' ys 64 64 wx (hb.below hx (Nat.le_refl _)) (hT.below hx) ty rfl).mono ?_
    rintro e w' ⟨r, os, h1, A, hB⟩
    rw [hD, hH] at A
    exact ⟨r, os, _, h1, Held.mk' hx A hB Hp, hB⟩
  have LW : Hid (∀ wx : World, Below w.heap.size w wx → Calls Tryz.prog 86 #[.slice q m cap', .int .i64 64] wx fun e w' => ∃ r os, e = .returned (.tuple #[.slice r (List.length os) (List.length os), .int .i64 0]) ∧ Held w w' r os lo ∧ Below wx.heap.size wx w') := by
    intro wx hx
    refine (low_any q m cap' ys 64 64 wx (hb.below hx (Nat.le_refl _)) ty rfl).mono ?_
    rintro e w' ⟨r, os, h1, A, hB⟩
    rw [hD, hlo] at A
    exact ⟨r, os, h1, Held.mk' hx A hB lp, hB⟩
  have DV : Hid (∀ (wx : World) (r : Option Addr) (os : List Int) (r' : Option Addr) (os' : List Int), Held w wx r os N → Held w wx r' os' H → Calls Tryz.prog 77 #[.slice r os.length os.length, .slice r' os'.length os'.length] wx fun e w' => ∃ (a : Option Addr) (x : List Int) (b : Option Addr) (y : List Int), e = .returned (.tuple #[.slice a x.length x.length, .slice b y.length y.length, .int .i64 0]) ∧ Held w w' a x Qq ∧ Held w w' b y R ∧ Below wx.heap.size wx w') := by
    intro wx r os r' os' K K'
    have tp : 0 < Nm.tsize os' := by
      rcases Nat.eq_zero_or_pos (Nm.tsize os') with h | h
      · have h2 := (Nm.tsize_zero_iff K'.1.2.1).1 h; rw [K'.1.2.2.2.1] at h2; omega
      · exact h
    have := divMod_ok r r' _ _ _ _ os os' wx K.arg K'.arg K.ts K'.ts tp
    rw [K.1.2.2.2.1, K'.1.2.2.2.1] at this
    refine this.mono ?_
    rintro e w' ⟨a, x, b, y, h1, A, A', hB⟩
    rw [hQq] at A
    rw [hR] at A'
    exact ⟨a, x, b, y, h1, Held.mk' K.2.2 A hB Qp, Held.mk' K.2.2 A' hB Rq, hB⟩
  have SL : Hid (∀ (wx : World) (r : Option Addr) (os : List Int), Held w wx r os R → Calls Tryz.prog 72 #[.slice r os.length os.length, .int .i64 64] wx fun e w' => ∃ (a : Option Addr) (x : List Int), e = .returned (.tuple #[.slice a x.length x.length, .int .i64 0]) ∧ Held w w' a x (R * 18446744073709551616) ∧ Below wx.heap.size wx w') := by
    intro wx r os K
    have := shl_any r _ _ os 64 64 wx K.arg K.ts rfl (by rw [K.1.2.2.2.1, e64]; exact Rp)
    rw [K.1.2.2.2.1, e64] at this
    refine this.mono ?_
    rintro e w' ⟨a, x, h1, A, hB⟩
    exact ⟨a, x, h1, Held.mk' K.2.2 A hB Rp, hB⟩
  have MU : Hid (∀ (wx : World) (r : Option Addr) (os : List Int) (r' : Option Addr) (os' : List Int), Held w wx r os Qq → Held w wx r' os' lo → Calls Tryz.prog 87 #[.slice r os.length os.length, .slice r' os'.length os'.length] wx fun e w' => ∃ (a : Option Addr) (x : List Int), e = .returned (.tuple #[.slice a x.length x.length, .int .i64 0]) ∧ Held w w' a x (Qq * lo) ∧ Below wx.heap.size wx w') := by
    intro wx r os r' os' K K'
    have := mul_ok r r' _ _ _ _ os os' wx K.arg K'.arg K.ts K'.ts (by rw [K.1.2.2.2.1, K'.1.2.2.2.1]; exact OWp)
    rw [K.1.2.2.2.1, K'.1.2.2.2.1] at this
    refine this.mono ?_
    rintro e w' ⟨a, x, h1, A, hB⟩
    exact ⟨a, x, h1, Held.mk' K.2.2 A hB OWp, hB⟩
  obtain ⟨c, hc⟩ : ∃ c, cmpI (R * 18446744073709551616) (Qq * lo) = c := ⟨_, rfl⟩
  have CP : Hid (∀ (wx : World) (r : Option Addr) (os : List Int) (r' : Option Addr) (os' : List Int), Held w wx r os (R * 18446744073709551616) → Held w wx r' os' (Qq * lo) → Calls Tryz.prog 88 #[.slice r os.length os.length, .slice r' os'.length os'.length] wx fun e w' => e = .returned (.int .i64 c) ∧ Below wx.heap.size wx w') := by
    intro wx r os r' os' K K'
    have := cmp_any r r' _ _ _ _ os os' wx K.arg K'.arg
    rw [K.1.2.2.2.1, K'.1.2.2.2.1, hc] at this
    exact this
  have p1 : (1 : Int) < Nm.pw 4096 := by
    have e1 : Nm.pw 1 = 18446744073709551616 := rfl
    have := Nm.pw_mono (show 1 ≤ 4096 by omega)
    omega
  have FU : Hid (∀ wx : World, Below w.heap.size w wx → Calls Tryz.prog 70 #[.int .u64 1] wx fun e w' => ∃ (a : Option Addr) (x : List Int), e = .returned (.slice a x.length x.length) ∧ Held w w' a x 1 ∧ Below wx.heap.size wx w') := by
    intro wx hx
    refine (fromUint_any 1 wx (by omega) (by omega)).mono ?_
    rintro e w' ⟨a, x, h1, A, hB⟩
    exact ⟨a, x, h1, Held.mk' hx A hB p1, hB⟩
  have SB : Hid (∀ (wx : World) (r : Option Addr) (os : List Int) (r' : Option Addr) (os' : List Int), Held w wx r os Qq → Held w wx r' os' 1 → Calls Tryz.prog 89 #[.slice r os.length os.length, .slice r' os'.length os'.length] wx fun e w' => ∃ (a : Option Addr) (x : List Int), e = .returned (.tuple #[.slice a x.length x.length, .int .i64 0]) ∧ Held w w' a x (Qq - 1) ∧ Below wx.heap.size wx w') := by
    intro wx r os r' os' K K'
    have := sub_ok r r' _ _ _ _ os os' wx K.arg K'.arg K.ts (by rw [K.1.2.2.2.1, K'.1.2.2.2.1]; omega)
    rw [K.1.2.2.2.1, K'.1.2.2.2.1] at this
    refine this.mono ?_
    rintro e w' ⟨a, x, h1, A, hB⟩
    exact ⟨a, x, h1, Held.mk' K.2.2 A hB (by omega), hB⟩
  have WT : Hid (∀ (wx : World) (r : Option Addr) (os : List Int) (v sh : Int) (rest : Bool), Held w wx r os v → sh = (s : Int) + 64 → V * 2 ^ (s + 64) / D = v → 18014398509481984 ≤ v → rest = decide (V * 2 ^ (s + 64) % D ≠ 0) → RatioTold V D w (.returned (.tuple #[.slice r os.length os.length, .int .i64 sh, .bool rest])) wx) := by
    intro wx r os v sh rest K hsh hq hvb hrest
    exact ⟨r, os, v, sh, rest, rfl, K.1, K.2.2, K.ts, ⟨by omega, by omega⟩, Ie.quo_long V D v sh (s + 64) (by omega) d0 hq hvb rest hrest⟩
  have l3 : (L : Int) ≤ 262144 := by omega
  have LS := hid (show (262144 : Int) - (L : Int) = (s : Int) by omega)
  rw [hNs] at LD1 LD2
  have ov : (c = -1 ∧ R * 18446744073709551616 < Qq * lo) ∨ (c = 0 ∧ R * 18446744073709551616 = Qq * lo) ∨ (c = 1 ∧ Qq * lo < R * 18446744073709551616) := by
    rw [← hc, cmpI]
    by_cases g : R * 18446744073709551616 < Qq * lo
    · rw [if_pos g]; exact .inl ⟨rfl, g⟩
    · by_cases g2 : R * 18446744073709551616 = Qq * lo
      · rw [if_neg g, if_pos g2]; exact .inr (.inl ⟨rfl, g2⟩)
      · rw [if_neg g, if_neg g2]; exact .inr (.inr ⟨rfl, by omega⟩)
  have Qg := hid Qge
  have RR0 := hid R0
  clear hc ha hb hT tz ty hV hD hv hL BL BM hM2 hs hN hH hlo e64 lo0 hDH Dlt Nlt Nge N0 Dge Hge Hlt H0 hQq hR R1 hNR Q0 Qge Qlt OWl OWp Rp hNs q63 Hp Qp Rq lp p1
  rcases ov with ⟨rfl, ho⟩ | ⟨rfl, ho⟩ | ⟨rfl, ho⟩
  · obtain ⟨x1, x2⟩ := LD2 ho
    have X1 := hid x1
    have X2 := hid (show V * 2 ^ (s + 64) % D ≠ 0 by rw [x2]; omega)
    clear LD1 LD2 x1 x2 ho OWD d0 R0
    go_enter Tryz.func75, Tryz.ntmps75
    go_wp2_with fail
    refine B1.out.mono ?_
    rintro e w ⟨rfl, rfl⟩
    go_wp2_with fail
    refine (SH.out _ (by have := LS.out; omega)).mono ?_
    rintro e w1 ⟨r1, o1, rfl, A1⟩
    have K1 := hid A1
    clear A1
    go_wp2_with fail
    refine (SR.out _ K1.out.2.2).mono ?_
    rintro e w2 ⟨r2, o2, bl, rfl, A2, hB2⟩
    have K2 := hid A2
    have K1 := hid (K1.out.below hB2)
    clear A2 hB2
    go_wp2_with fail
    refine (LW.out _ K2.out.2.2).mono ?_
    rintro e w3 ⟨r3, o3, rfl, A3, hB3⟩
    have K3 := hid A3
    have K1 := hid (K1.out.below hB3)
    have K2 := hid (K2.out.below hB3)
    clear A3 hB3
    go_wp2_with fail
    refine (DV.out _ r1 o1 r2 o2 K1.out K2.out).mono ?_
    rintro e w4 ⟨r4, o4, r5, o5, rfl, A4, A5, hB4⟩
    have K4 := hid A4
    have K5 := hid A5
    have K3 := hid (K3.out.below hB4)
    clear A4 A5 hB4 K1 K2
    go_wp2_with fail
    refine (SL.out _ r5 o5 K5.out).mono ?_
    rintro e w5 ⟨r6, o6, rfl, A6, hB5⟩
    have K6 := hid A6
    have K4 := hid (K4.out.below hB5)
    have K3 := hid (K3.out.below hB5)
    clear A6 hB5 K5
    go_wp2_with fail
    refine (MU.out _ r4 o4 r3 o3 K4.out K3.out).mono ?_
    rintro e w6 ⟨r7, o7, rfl, A7, hB6⟩
    have K7 := hid A7
    have K4 := hid (K4.out.below hB6)
    have K6 := hid (K6.out.below hB6)
    clear A7 hB6 K3
    go_wp2_with fail
    refine (CP.out _ r6 o6 r7 o7 K6.out K7.out).mono ?_
    rintro e w7 ⟨rfl, hB7⟩
    have K4 := hid (K4.out.below hB7)
    clear hB7 K6 K7
    go_wp2_with fail
    refine (FU.out _ K4.out.2.2).mono ?_
    rintro e w8 ⟨r8, o8, rfl, A8, hB8⟩
    have K8 := hid A8
    have K4 := hid (K4.out.below hB8)
    clear A8 hB8
    go_wp2_with fail
    refine (SB.out _ r4 o4 r8 o8 K4.out K8.out).mono ?_
    rintro e w9 ⟨r9, o9, rfl, A9, -⟩
    have K9 := hid A9
    clear A9
    go_wp2_with fail
    go_ret3
    exact WT.out _ r9 o9 _ _ _ K9.out (by have := LS.out; omega) X1.out (by have := Qg.out; omega) (by rw [decide_eq_true X2.out])
  · obtain ⟨x1, x2⟩ := LD1 (by omega)
    have X1 := hid x1
    have X2 := hid (show ¬ V * 2 ^ (s + 64) % D ≠ 0 by rw [x2]; omega)
    clear LD1 LD2 x1 x2 ho OWD d0 R0
    go_enter Tryz.func75, Tryz.ntmps75
    go_wp2_with fail
    refine B1.out.mono ?_
    rintro e w ⟨rfl, rfl⟩
    go_wp2_with fail
    refine (SH.out _ (by have := LS.out; omega)).mono ?_
    rintro e w1 ⟨r1, o1, rfl, A1⟩
    have K1 := hid A1
    clear A1
    go_wp2_with fail
    refine (SR.out _ K1.out.2.2).mono ?_
    rintro e w2 ⟨r2, o2, bl, rfl, A2, hB2⟩
    have K2 := hid A2
    have K1 := hid (K1.out.below hB2)
    clear A2 hB2
    go_wp2_with fail
    refine (LW.out _ K2.out.2.2).mono ?_
    rintro e w3 ⟨r3, o3, rfl, A3, hB3⟩
    have K3 := hid A3
    have K1 := hid (K1.out.below hB3)
    have K2 := hid (K2.out.below hB3)
    clear A3 hB3
    go_wp2_with fail
    refine (DV.out _ r1 o1 r2 o2 K1.out K2.out).mono ?_
    rintro e w4 ⟨r4, o4, r5, o5, rfl, A4, A5, hB4⟩
    have K4 := hid A4
    have K5 := hid A5
    have K3 := hid (K3.out.below hB4)
    clear A4 A5 hB4 K1 K2
    go_wp2_with fail
    refine (SL.out _ r5 o5 K5.out).mono ?_
    rintro e w5 ⟨r6, o6, rfl, A6, hB5⟩
    have K6 := hid A6
    have K4 := hid (K4.out.below hB5)
    have K3 := hid (K3.out.below hB5)
    clear A6 hB5 K5
    go_wp2_with fail
    refine (MU.out _ r4 o4 r3 o3 K4.out K3.out).mono ?_
    rintro e w6 ⟨r7, o7, rfl, A7, hB6⟩
    have K7 := hid A7
    have K4 := hid (K4.out.below hB6)
    have K6 := hid (K6.out.below hB6)
    clear A7 hB6 K3
    go_wp2_with fail
    refine (CP.out _ r6 o6 r7 o7 K6.out K7.out).mono ?_
    rintro e w7 ⟨rfl, hB7⟩
    have K4 := hid (K4.out.below hB7)
    clear hB7 K6 K7
    go_wp2_with fail
    go_ret3
    exact WT.out _ r4 o4 _ _ _ K4.out (by have := LS.out; omega) X1.out (by have := Qg.out; omega) (by rw [decide_eq_false X2.out])
  · obtain ⟨x1, x2⟩ := LD1 (by omega)
    have X1 := hid x1
    have X2 := hid (show V * 2 ^ (s + 64) % D ≠ 0 by rw [x2]; omega)
    clear LD1 LD2 x1 x2 ho OWD d0 R0
    go_enter Tryz.func75, Tryz.ntmps75
    go_wp2_with fail
    refine B1.out.mono ?_
    rintro e w ⟨rfl, rfl⟩
    go_wp2_with fail
    refine (SH.out _ (by have := LS.out; omega)).mono ?_
    rintro e w1 ⟨r1, o1, rfl, A1⟩
    have K1 := hid A1
    clear A1
    go_wp2_with fail
    refine (SR.out _ K1.out.2.2).mono ?_
    rintro e w2 ⟨r2, o2, bl, rfl, A2, hB2⟩
    have K2 := hid A2
    have K1 := hid (K1.out.below hB2)
    clear A2 hB2
    go_wp2_with fail
    refine (LW.out _ K2.out.2.2).mono ?_
    rintro e w3 ⟨r3, o3, rfl, A3, hB3⟩
    have K3 := hid A3
    have K1 := hid (K1.out.below hB3)
    have K2 := hid (K2.out.below hB3)
    clear A3 hB3
    go_wp2_with fail
    refine (DV.out _ r1 o1 r2 o2 K1.out K2.out).mono ?_
    rintro e w4 ⟨r4, o4, r5, o5, rfl, A4, A5, hB4⟩
    have K4 := hid A4
    have K5 := hid A5
    have K3 := hid (K3.out.below hB4)
    clear A4 A5 hB4 K1 K2
    go_wp2_with fail
    refine (SL.out _ r5 o5 K5.out).mono ?_
    rintro e w5 ⟨r6, o6, rfl, A6, hB5⟩
    have K6 := hid A6
    have K4 := hid (K4.out.below hB5)
    have K3 := hid (K3.out.below hB5)
    clear A6 hB5 K5
    go_wp2_with fail
    refine (MU.out _ r4 o4 r3 o3 K4.out K3.out).mono ?_
    rintro e w6 ⟨r7, o7, rfl, A7, hB6⟩
    have K7 := hid A7
    have K4 := hid (K4.out.below hB6)
    have K6 := hid (K6.out.below hB6)
    clear A7 hB6 K3
    go_wp2_with fail
    refine (CP.out _ r6 o6 r7 o7 K6.out K7.out).mono ?_
    rintro e w7 ⟨rfl, hB7⟩
    have K4 := hid (K4.out.below hB7)
    clear hB7 K6 K7
    go_wp2_with fail
    go_ret3
    exact WT.out _ r4 o4 _ _ _ K4.out (by have := LS.out; omega) X1.out (by have := Qg.out; omega) (by rw [decide_eq_true X2.out])

set_option maxRecDepth 100000 in
set_option maxHeartbeats 4000000 in
/-- ratio, whatever the divisor. -/
theorem ratio_all (p q : Option Addr) (n cap m cap' : Nat) (zs ys : List Int) (w : World) (ha : Arg w p n cap zs) (hb : Arg w q m cap' ys) (hT : Tab w) (tz : Nm.tsize zs ≤ 4096) (ty : Nm.tsize ys ≤ 4096) (V D : Int) (hV : Nm.val zs = V) (hD : Nm.val ys = D) (hv : 0 < V) (hd : 0 < D) :
    Calls Tryz.prog 48 #[.slice p n cap, .slice q m cap'] w fun e w' => RatioTold V D w e w' := by
  obtain ⟨L, hL, BL, hl, _⟩ := blen_is zs ha.2.2.2.2
  obtain ⟨M, hM, BM, hm, _⟩ := blen_is ys hb.2.2.2.2
  rw [hV] at BL
  rw [hD] at BM
  rcases Nat.lt_or_ge 262080 M with h | h
  · have B2 := hid (bitLen_n M q m cap' ys w hb hM)
    have LG := hid (longest_any p q n cap m cap' zs ys w ha hb hT tz ty V D L M (262144 - L) hV hD hv hL BL BM h (by omega))
    have l1 : (262144 : Int) < (M : Int) + 64 := by omega
    have l2 : (M : Int) ≤ 300000 := by omega
    clear ha hb hT tz ty hV hD hv hd hL hM BL BM hl hm h
    go_enter Tryz.func48, Tryz.ntmps48
    go_wp2_with fail
    refine B2.out.mono ?_
    rintro e w' ⟨rfl, rfl⟩
    go_wp2_with fail
    refine LG.out.mono ?_
    rintro e w1 ⟨r, os, Q, sh, rest, rfl, K⟩
    have KK := hid K
    clear K
    go_wp2_with fail
    go_ret3
    exact ⟨r, os, Q, sh, rest, rfl, KK.out⟩
  · rcases Nat.lt_or_ge (M + 64) L with h2 | h2
    · exact ratio_down p q n cap m cap' zs ys w ha hb tz (by omega) V D L M (L - (M + 64)) hV hD hv hd hL hM BL BM (by omega) (by omega) (by omega) (by omega) hT
    · exact ratio_up p q n cap m cap' zs ys w ha hb tz (by omega) V D L M (M + 64 - L) hV hD hv hd hL hM BL BM (by omega) (by omega)

set_option maxRecDepth 100000 in
theorem round_big (neg : Bool) (p : Option Addr) (n cap : Nat) (zs : List Int) (w : World) (ha : Arg w p n cap zs) (tz : 4096 < Nm.tsize zs) (e : Int) (more : Bool) :
    Calls Tryz.prog 45 #[.bool neg, .slice p n cap, .int .i64 e, .bool more] w fun r w' => r = .returned (.tuple #[.int .u64 0, .int .i64 2]) ∧ w' = w := by
  obtain ⟨L, hL, BL, hl, hg⟩ := blen_is zs ha.2.2.2.2
  have B1 := hid (bitLen_n L p n cap zs w ha hL)
  have l1 : (262144 : Int) < (L : Int) := by have := hg (by omega); omega
  clear ha tz hL BL hl hg
  go_enter Tryz.func45, Tryz.ntmps45
  go_wp2_with fail
  refine B1.out.mono ?_
  rintro e' w' ⟨rfl, rfl⟩
  go_wp2_with fail
  go_ret2
  exact ⟨rfl, rfl⟩

set_option maxRecDepth 100000 in
set_option maxHeartbeats 2000000 in
theorem roundRatio_big (neg : Bool) (p q : Option Addr) (n cap m cap' : Nat) (zs ys : List Int) (w : World) (ha : Arg w p n cap zs) (hb : Arg w q m cap' ys) (h : 4096 < Nm.tsize zs ∨ 4096 < Nm.tsize ys) (e : Int) :
    Calls Tryz.prog 9 #[.bool neg, .slice p n cap, .slice q m cap', .int .i64 e] w fun r w' => r = .returned (.tuple #[.int .u64 0, .int .i64 2]) ∧ w' = w := by
  obtain ⟨L, hL, BL, hl, hg⟩ := blen_is zs ha.2.2.2.2
  obtain ⟨M, hM, BM, hm, hgm⟩ := blen_is ys hb.2.2.2.2
  have B1 := hid (bitLen_n L p n cap zs w ha hL)
  have B2 := hid (bitLen_n M q m cap' ys w hb hM)
  by_cases g : 4096 < Nm.tsize zs
  · have l1 : (262144 : Int) < (L : Int) := by have := hg (by omega); omega
    clear ha hb h hL hM BL BM hl hm hg hgm g
    go_enter Tryz.func9, Tryz.ntmps9
    go_wp2_with fail
    refine B1.out.mono ?_
    rintro e' w' ⟨rfl, rfl⟩
    go_wp2_with fail
    go_ret2
    exact ⟨rfl, rfl⟩
  · have l1 : decide ((262144 : Int) < (L : Int)) = false := by simp; omega
    have l2 : (262144 : Int) < (M : Int) := by have := hgm (by omega); omega
    clear ha hb h hL hM BL BM hl hm hg hgm g
    go_enter Tryz.func9, Tryz.ntmps9
    go_wp2_with fail
    refine B1.out.mono ?_
    rintro e' w' ⟨rfl, rfl⟩
    go_wp2_with fail
    refine B2.out.mono ?_
    rintro e' w' ⟨rfl, rfl⟩
    go_wp2_with fail
    go_ret2
    exact ⟨rfl, rfl⟩

end Go.Proofs.YtbmbijadnojfaaaGreatDoor

/-
  RoundRatio whatever the divisor, of the program and of the document; the document's errors.
-/
namespace Go.Proofs.YtbmbijadnojfaaaGreatDoor
open Go Go.RowKit Go.Deep

set_option maxRecDepth 100000 in
set_option maxHeartbeats 2000000 in
theorem roundRatio_all (neg : Bool) (p q : Option Addr) (n cap m cap' : Nat) (zs ys : List Int) (w : World) (ha : Arg w p n cap zs) (hb : Arg w q m cap' ys) (hT : Tab w) (tz : Nm.tsize zs ≤ 4096) (ty : Nm.tsize ys ≤ 4096) (V D e : Int) (hV : Nm.val zs = V) (hD : Nm.val ys = D) (hd : 0 < D) :
    Calls Tryz.prog 9 #[.bool neg, .slice p n cap, .slice q m cap', .int .i64 e] w fun r w' => ∃ x, r = .returned (.tuple #[.int .u64 (Ie.sg neg x), .int .i64 0]) ∧ Ie.Rnd V D e false x ∧ Below w.heap.size w w' := by
  obtain ⟨L, hL, BL, hl, _⟩ := blen_is zs ha.2.2.2.2
  obtain ⟨M, hM, BM, hm, _⟩ := blen_is ys hb.2.2.2.2
  rw [hV] at BL
  rw [hD] at BM
  have B1 := hid (bitLen_n L p n cap zs w ha hL)
  have B2 := hid (bitLen_n M q m cap' ys w hb hM)
  have v0 : 0 ≤ V := by rw [← hV]; exact (Nm.val_bd zs ha.2.2.2.2).1
  have l1 : decide (262144 < (L : Int)) = false := by simp; omega
  have l2 : decide (262144 < (M : Int)) = false := by simp; omega
  have m0 : 0 < M := (BM.2.2 hd).1
  have l3 : ((M : Int) == 0) = false := by rw [beq_eq_false_iff_ne]; omega
  rcases (show V = 0 ∨ 0 < V by omega) with hv | hv
  · have hL0 : L = 0 := BL.2.1 hv
    subst hL0
    have R := hid (Ie.rnd_zero D e false hd)
    have SG := hid (signed_any neg 0 w (by omega) (by omega))
    subst hv
    clear ha hb hT tz ty hV hD hd hL hM BL BM hl hm v0 m0
    go_enter Tryz.func9, Tryz.ntmps9
    go_wp2_with fail
    refine B1.out.mono ?_
    rintro e' w' ⟨rfl, rfl⟩
    go_wp2_with fail
    refine B2.out.mono ?_
    rintro e' w' ⟨rfl, rfl⟩
    go_wp2_with fail
    refine B2.out.mono ?_
    rintro e' w' ⟨rfl, rfl⟩
    go_wp2_with fail
    refine B1.out.mono ?_
    rintro e' w' ⟨rfl, rfl⟩
    go_wp2_with fail
    refine SG.out.mono ?_
    rintro e' w' ⟨rfl, rfl⟩
    go_wp2_with fail
    go_ret2
    exact ⟨0, rfl, R.out, Below.refl _ _⟩
  · have RA := hid (ratio_all p q n cap m cap' zs ys w ha hb hT tz ty V D hV hD hv hd)
    have WI := hid (fun (x : Int) => Ie.win_ok (n := V) (d := D) (e := e) (x := x) (more := false) L M v0 BL.1 hd (by have := BM.1; omega) (by omega) (by omega))
    have W0 := hid (fun (wx : World) => within_any e wx)
    obtain ⟨we, hwe⟩ : ∃ we, Ie.win e = we := ⟨_, rfl⟩
    have wb := Ie.win_bd e
    rw [hwe] at wb W0 WI
    obtain ⟨wb1, wb2⟩ := wb
    have l0 : 0 < L := (BL.2.2 hv).1
    have l4 : ((L : Int) == 0) = false := by rw [beq_eq_false_iff_ne]; omega
    have HT := hid hT
    clear ha hb hT tz ty hV hD hd hL hM BL BM hl hm v0 m0 hwe l0 hv
    go_enter Tryz.func9, Tryz.ntmps9
    go_wp2_with fail
    refine B1.out.mono ?_
    rintro e' w' ⟨rfl, rfl⟩
    go_wp2_with fail
    refine B2.out.mono ?_
    rintro e' w' ⟨rfl, rfl⟩
    go_wp2_with fail
    refine B2.out.mono ?_
    rintro e' w' ⟨rfl, rfl⟩
    go_wp2_with fail
    refine B1.out.mono ?_
    rintro e' w' ⟨rfl, rfl⟩
    go_wp2_with fail
    refine RA.out.mono ?_
    rintro e' w1 ⟨r, os, Q, sh, rest, rfl, A, hB, to4, ⟨s1, s2⟩, QU⟩
    have lo : os.length ≤ 4096 := by rw [← A.2.2.1]; exact to4
    have NR := hid (nearest_any r _ _ os w1 (A.arg (by omega)) (HT.out.below hB) to4 Q (we - sh) rest A.2.2.2.1 (by omega) (by omega))
    have HB := hid hB
    have QQ := hid QU
    clear A hB to4 QU lo B1 B2 RA HT
    go_wp2_with fail
    refine (W0.out w1).mono ?_
    rintro e' w' ⟨rfl, rfl⟩
    go_wp2_with fail
    refine NR.out.mono ?_
    rintro e' w2 ⟨x, rfl, R, hB⟩
    have bd := R.bd
    have R1 := hid (WI.out x (QQ.out we x R))
    have SG := hid (signed_any neg x w2 bd.1 (by omega))
    have HB2 := hid (HB.out.trans (hB.mono HB.out.size))
    clear R bd hB
    go_wp2_with fail
    refine SG.out.mono ?_
    rintro e' w3 ⟨rfl, rfl⟩
    go_wp2_with fail
    go_ret2
    exact ⟨x, rfl, R1.out, HB2.out⟩

set_option maxRecDepth 100000 in
set_option maxHeartbeats 2000000 in
theorem zratio_big (neg : Bool) (p q : Option Addr) (n cap m cap' : Nat) (zs ys : List Int) (w : World) (ha : Arg w p n cap zs) (hb : Arg w q m cap' ys) (h : 4096 < Nm.tsize zs ∨ 4096 < Nm.tsize ys) (e : Int) :
    Calls Tryz.prog 29 #[.bool neg, .slice p n cap, .slice q m cap', .int .i64 e] w fun r w' => r = .returned (.tuple #[.int .u64 0, .int .i64 2]) ∧ w' = w := by
  by_cases g : 4096 < Nm.tsize zs
  · have B1 := hid (refBig_is true p n cap zs w ha (by simp; omega))
    clear ha hb h g
    go_enter Tryz.func29, Tryz.ntmps29
    go_wp2_with fail
    refine B1.out.mono ?_
    rintro e' w' ⟨rfl, rfl⟩
    go_wp2_with fail
    go_ret2
    exact ⟨rfl, rfl⟩
  · have B1 := hid (refBig_is false p n cap zs w ha (by simp; omega))
    have B2 := hid (refBig_is true q m cap' ys w hb (by simp; omega))
    clear ha hb h g
    go_enter Tryz.func29, Tryz.ntmps29
    go_wp2_with fail
    refine B1.out.mono ?_
    rintro e' w' ⟨rfl, rfl⟩
    go_wp2_with fail
    refine B2.out.mono ?_
    rintro e' w' ⟨rfl, rfl⟩
    go_wp2_with fail
    go_ret2
    exact ⟨rfl, rfl⟩

set_option maxRecDepth 100000 in
set_option maxHeartbeats 2000000 in
theorem zratio_zero (neg : Bool) (p q : Option Addr) (n cap m cap' : Nat) (zs ys : List Int) (w : World) (ha : Arg w p n cap zs) (hb : Arg w q m cap' ys) (tz : Nm.tsize zs ≤ 4096) (hz : Nm.val ys = 0) (e : Int) :
    Calls Tryz.prog 29 #[.bool neg, .slice p n cap, .slice q m cap', .int .i64 e] w fun r w' => r = .returned (.tuple #[.int .u64 0, .int .i64 4]) ∧ w' = w := by
  have h0 := (Nm.tsize_zero_iff hb.2.2.2.2).2 hz
  have B1 := hid (refBig_is false p n cap zs w ha (by simp; omega))
  have B2 := hid (refBig_is false q m cap' ys w hb (by simp; omega))
  have Z2 := refSize_any q m cap' ys w hb.1 (by have := hb.2.1; have := hb.2.2.1; omega) hb.2.2.2.1
  rw [h0] at Z2
  have Z2 := hid Z2
  clear ha hb tz hz h0
  go_enter Tryz.func29, Tryz.ntmps29
  go_wp2_with fail
  refine B1.out.mono ?_
  rintro e' w' ⟨rfl, rfl⟩
  go_wp2_with fail
  refine B2.out.mono ?_
  rintro e' w' ⟨rfl, rfl⟩
  go_wp2_with fail
  refine Z2.out.mono ?_
  rintro e' w' ⟨rfl, rfl⟩
  go_wp2_with fail
  go_ret2
  exact ⟨rfl, rfl⟩
end Go.Proofs.YtbmbijadnojfaaaGreatDoor

/-
  ieee: Round.
-/
namespace Go.Proofs.YtbmbijadnojfaaaGreatDoor
open Go Go.RowKit Go.Deep


set_option maxRecDepth 100000 in
set_option maxHeartbeats 2000000 in
theorem round_any (neg : Bool) (p : Option Addr) (n cap : Nat) (zs : List Int) (w : World) (ha : Arg w p n cap zs) (hT : Tab w) (tz : Nm.tsize zs ≤ 4096) (V e : Int) (more : Bool) (hV : Nm.val zs = V) :
    Calls Tryz.prog 45 #[.bool neg, .slice p n cap, .int .i64 e, .bool more] w fun r w' => ∃ x, r = .returned (.tuple #[.int .u64 (Ie.sg neg x), .int .i64 0]) ∧ Ie.Rnd V 1 e more x ∧ Below w.heap.size w w' := by
  obtain ⟨L, hL, BL, hl, _⟩ := blen_is zs ha.2.2.2.2
  rw [hV] at BL
  have B1 := hid (bitLen_n L p n cap zs w ha hL)
  have v0 : 0 ≤ V := by rw [← hV]; exact (Nm.val_bd zs ha.2.2.2.2).1
  have WI := hid (fun (x : Int) => Ie.win_ok (n := V) (d := 1) (e := e) (x := x) (more := more) L 0 v0 BL.1 (by omega) (by decide) (by omega) (by omega))
  have W0 := hid (within_any e w)
  obtain ⟨we, hwe⟩ : ∃ we, Ie.win e = we := ⟨_, rfl⟩
  have wb := Ie.win_bd e
  rw [hwe] at wb W0 WI
  have NR := hid (nearest_any p n cap zs w ha hT tz V we more hV (by omega) (by omega))
  have l1 : decide (262144 < (L : Int)) = false := by simp; omega
  clear ha hT tz hV hL BL hl v0 hwe wb
  go_enter Tryz.func45, Tryz.ntmps45
  go_wp2_with fail
  refine B1.out.mono ?_
  rintro e' w' ⟨rfl, rfl⟩
  go_wp2_with fail
  refine W0.out.mono ?_
  rintro e' w' ⟨rfl, rfl⟩
  go_wp2_with fail
  refine NR.out.mono ?_
  rintro e' w1 ⟨x, rfl, R, hB⟩
  have bd := R.bd
  have R1 := hid (WI.out x R)
  have SG := hid (signed_any neg x w1 bd.1 (by omega))
  have HB := hid hB
  clear R bd hB
  go_wp2_with fail
  refine SG.out.mono ?_
  rintro e' w2 ⟨rfl, rfl⟩
  go_wp2_with fail
  go_ret2
  exact ⟨x, rfl, R1.out, HB.out⟩
end Go.Proofs.YtbmbijadnojfaaaGreatDoor

/-
  Every call: both sides tell one answer (made by mkeask.py).
-/
namespace Go.Proofs.YtbmbijadnojfaaaGreatDoor
open Go Go.RowKit Go.Deep

namespace Ie
theorem ewhp_bd (r : Int) (h0 : 0 ≤ r) (h1 : r < 9218868437227405312) : 0 ≤ whp r ∧ whp r < Nm.pw 4096 := by
  have v0 := vl_nn h0
  have mb := man_nn r h0
  have eb : ex r ≤ 2046 := by simp only [ex]; omega
  have e54 : (2 : Int) ^ 54 = 18014398509481984 := by decide
  have a1 : whp r ≤ vl r := Int.ediv_le_self _ v0
  have a0 : 0 ≤ whp r := Int.ediv_nonneg v0 (Int.le_of_lt (Nm.two_pos 1075))
  have a2 : 2 * man r * 2 ^ ex r ≤ 2 ^ 54 * 2 ^ ex r := Int.mul_le_mul_of_nonneg_right (by rw [e54]; omega) (Int.le_of_lt (Nm.two_pos (ex r)))
  rw [← Nm.two_add] at a2
  have a3 : (2 : Int) ^ (54 + ex r) ≤ Nm.pw 4095 := by rw [Nm.pw_two]; exact Nm.two_mono (by omega)
  have a4 : Nm.pw 4095 < Nm.pw 4096 := by have e : Nm.pw 4096 = 18446744073709551616 * Nm.pw 4095 := Nm.pw_succ 4095; have := Nm.pw_pos 4095; omega
  have a5 : vl r = 2 * man r * 2 ^ ex r := rfl
  rw [← a5] at a2
  exact ⟨a0, Int.lt_of_le_of_lt (Int.le_trans a1 (Int.le_trans a2 a3)) a4⟩
end Ie

theorem rnd_uniq {n d e x y : Int} {m : Bool} (hd : 0 < d) (h : Ie.Rnd n d e m x) (h' : Ie.Rnd n d e m y) : x = y := Ie.Rnd.one (a := 0) (a' := 0) hd hd h h' (by omega) rfl

theorem bel_eq {w w' : World} (h : w' = w) : Below w.heap.size w w' := by rw [h]; exact Below.refl _ _

theorem both_any (kd X Y I : Int) (pn : Bool) (pc pm px : Int) (neg : Bool) (p q : Option Addr) (n k cap cap' : Nat) (ex : Int) (more : Bool) (w : World) (zN zD : List Int)
    (hT : Tab w) (x0 : 0 ≤ X) (x1 : X < 18446744073709551616) (y0 : 0 ≤ Y) (y1 : Y < 18446744073709551616) (i0 : -9223372036854775808 ≤ I) (i1 : I ≤ 9223372036854775807) (m0 : 0 ≤ pm) (m1 : pm < 18446744073709551616)
    (aN : Arg w p n cap zN) (aD : Arg w q k cap' zD) :
    EBth kd X Y I pn pc pm px neg p q n k cap cap' ex more w zN zD := by
  have TB : ∀ wx : World, Below w.heap.size w wx → Tab wx := fun wx hB => hT.below hB
  have AN : ∀ wx : World, Below w.heap.size w wx → Arg wx p n cap zN := fun wx hB => aN.below hB (Nat.le_refl _)
  have AD : ∀ wx : World, Below w.heap.size w wx → Arg wx q k cap' zD := fun wx hB => aD.below hB (Nat.le_refl _)
  by_cases ho : kd < 1 ∨ 18 < kd
  · refine ⟨fun a => a = (⟨0, 0, 0, false, false, 0, 0, 0, 0, []⟩ : AV), fun a b h h' => by rw [h, h'], fun wx hB => ?_, fun wx p' q' c1 c2 hB _ _ => ?_⟩
    · refine (ewanted_other kd X Y I pn pc pm px neg p q n k cap cap' ex more wx ho).mono ?_
      rintro r w' ⟨rfl, hw⟩
      exact ⟨_, none, 0, rfl, rfl, arg_nil _, (fun a' h => by cases h), hw⟩
    · refine (easked_other kd X Y I pn pc pm px neg p' q' n k c1 c2 ex more wx ho).mono ?_
      rintro r w' ⟨rfl, hw⟩
      exact ⟨_, none, 0, rfl, rfl, arg_nil _, (fun a' h => by cases h), hw⟩
  rcases (show kd = 1 ∨ kd = 2 ∨ kd = 3 ∨ kd = 4 ∨ kd = 5 ∨ kd = 6 ∨ kd = 7 ∨ kd = 8 ∨ kd = 9 ∨ kd = 10 ∨ kd = 11 ∨ kd = 12 ∨ kd = 13 ∨ kd = 14 ∨ kd = 15 ∨ kd = 16 ∨ kd = 17 ∨ kd = 18 by omega) with rfl | rfl | rfl | rfl | rfl | rfl | rfl | rfl | rfl | rfl | rfl | rfl | rfl | rfl | rfl | rfl | rfl | rfl
  · refine both1 X Y I pn pc pm px neg p q n k cap cap' ex more w zN zD (fun a c m x => a = decide (9223372036854775808 ≤ X) ∧ c = Ie.cls X ∧ m = Ie.dm X ∧ x = Ie.de X) ?_ (fun wx hB => ?_) (fun wx p' q' c1 c2 hB _ _ => ?_)
    · rintro a c m x a' c' m' x' ⟨rfl, rfl, rfl, rfl⟩ ⟨rfl, rfl, rfl, rfl⟩
      exact ⟨rfl, rfl, rfl, rfl⟩
    · refine (zdecode_any X wx x0 x1).mono ?_
      rintro r w' ⟨rfl, hw⟩
      exact ⟨_, _, _, _, rfl, ⟨rfl, rfl, rfl, rfl⟩, hw⟩
    · refine (decode_any X wx x0 x1).mono ?_
      rintro r w' ⟨rfl, hw⟩
      exact ⟨_, _, _, _, rfl, ⟨rfl, rfl, rfl, rfl⟩, hw⟩
  · refine both2 X Y I pn pc pm px neg p q n k cap cap' ex more w zN zD (fun U E => EncIs pn pc pm px U E) ?_ (fun wx hB => ?_) (fun wx p' q' c1 c2 hB _ _ => ?_)
    · intro U E U' E' h h'
      exact h.one h'
    · refine (zencode_any pn pc pm px wx m0).mono ?_
      rintro r w' ⟨d, err, rfl, h, hw⟩
      exact ⟨d, err, rfl, h, hw⟩
    · refine (encode_any pn pc pm px wx m0 m1).mono ?_
      rintro r w' ⟨d, err, rfl, h, hw⟩
      exact ⟨d, err, rfl, h, hw⟩
  · refine both3 X Y I pn pc pm px neg p q n k cap cap' ex more w zN zD (fun V => V = Ie.cls X) ?_ (fun wx hB => ?_) (fun wx p' q' c1 c2 hB _ _ => ?_)
    · rintro V V' rfl rfl
      exact rfl
    · refine (zclass_any X wx x0 x1).mono ?_
      rintro r w' ⟨rfl, hw⟩
      exact ⟨_, rfl, rfl, hw⟩
    · refine (class_any X wx x0 x1).mono ?_
      rintro r w' ⟨rfl, hw⟩
      exact ⟨_, rfl, rfl, bel_eq hw⟩
  · refine both4 X Y I pn pc pm px neg p q n k cap cap' ex more w zN zD (fun U => U = Ie.ng X) ?_ (fun wx hB => ?_) (fun wx p' q' c1 c2 hB _ _ => ?_)
    · rintro U U' rfl rfl
      exact rfl
    · refine (zneg_any X wx x0 x1).mono ?_
      rintro r w' ⟨rfl, hw⟩
      exact ⟨_, rfl, rfl, bel_eq hw⟩
    · refine (neg_any X wx x0 x1).mono ?_
      rintro r w' ⟨rfl, hw⟩
      exact ⟨_, rfl, rfl, bel_eq hw⟩
  · refine both5 X Y I pn pc pm px neg p q n k cap cap' ex more w zN zD (fun U => U = X % 9223372036854775808) ?_ (fun wx hB => ?_) (fun wx p' q' c1 c2 hB _ _ => ?_)
    · rintro U U' rfl rfl
      exact rfl
    · refine (zabs_any X wx x0 x1).mono ?_
      rintro r w' ⟨rfl, hw⟩
      exact ⟨_, rfl, rfl, bel_eq hw⟩
    · refine (abs_any X wx x0 x1).mono ?_
      rintro r w' ⟨rfl, hw⟩
      exact ⟨_, rfl, rfl, bel_eq hw⟩
  · refine both6 X Y I pn pc pm px neg p q n k cap cap' ex more w zN zD (fun V B => V = Ie.cmv X Y ∧ B = (Ie.okd X && Ie.okd Y)) ?_ (fun wx hB => ?_) (fun wx p' q' c1 c2 hB _ _ => ?_)
    · rintro V B V' B' ⟨rfl, rfl⟩ ⟨rfl, rfl⟩
      exact ⟨rfl, rfl⟩
    · refine (zcompare_any X Y wx x0 x1 y0 y1).mono ?_
      rintro r w' ⟨rfl, hw⟩
      exact ⟨_, _, rfl, ⟨rfl, rfl⟩, bel_eq hw⟩
    · refine (compare_any X Y wx x0 x1 y0 y1).mono ?_
      rintro r w' ⟨rfl, hw⟩
      exact ⟨_, _, rfl, ⟨rfl, rfl⟩, bel_eq hw⟩
  · refine both7 X Y I pn pc pm px neg p q n k cap cap' ex more w zN zD (fun V => V = Ie.cm (Ie.plc X) (Ie.plc Y)) ?_ (fun wx hB => ?_) (fun wx p' q' c1 c2 hB _ _ => ?_)
    · rintro V V' rfl rfl
      exact rfl
    · refine (ztotal_any X Y wx x0 x1 y0 y1).mono ?_
      rintro r w' ⟨rfl, hw⟩
      exact ⟨_, rfl, rfl, bel_eq hw⟩
    · refine (total_any X Y wx x0 x1 y0 y1).mono ?_
      rintro r w' ⟨rfl, hw⟩
      exact ⟨_, rfl, rfl, bel_eq hw⟩
  · refine both8 X Y I pn pc pm px neg p q n k cap cap' ex more w zN zD (fun V B => V = Ie.rkv X ∧ B = Ie.okd X) ?_ (fun wx hB => ?_) (fun wx p' q' c1 c2 hB _ _ => ?_)
    · rintro V B V' B' ⟨rfl, rfl⟩ ⟨rfl, rfl⟩
      exact ⟨rfl, rfl⟩
    · refine (zrankk_any X wx x0 x1).mono ?_
      rintro r w' ⟨rfl, hw⟩
      exact ⟨_, _, rfl, ⟨rfl, rfl⟩, bel_eq hw⟩
    · refine (rank_any X wx x0 x1).mono ?_
      rintro r w' ⟨rfl, hw⟩
      exact ⟨_, _, rfl, ⟨rfl, rfl⟩, bel_eq hw⟩
  · by_cases hi : -9218868437227405312 ≤ I ∧ I ≤ 9218868437227405312
    · refine both9 X Y I pn pc pm px neg p q n k cap cap' ex more w zN zD (fun U B => U = Ie.atr I ∧ B = true) ?_ (fun wx hB => ?_) (fun wx p' q' c1 c2 hB _ _ => ?_)
      · rintro U B U' B' ⟨rfl, rfl⟩ ⟨rfl, rfl⟩
        exact ⟨rfl, rfl⟩
      · refine (zatrank_in I wx hi.1 hi.2).mono ?_
        rintro r w' ⟨rfl, hw⟩
        exact ⟨_, _, rfl, ⟨rfl, rfl⟩, bel_eq hw⟩
      · refine (atRank_in I wx hi.1 hi.2).mono ?_
        rintro r w' ⟨rfl, hw⟩
        exact ⟨_, _, rfl, ⟨rfl, rfl⟩, bel_eq hw⟩
    · refine both9 X Y I pn pc pm px neg p q n k cap cap' ex more w zN zD (fun U B => U = 0 ∧ B = false) ?_ (fun wx hB => ?_) (fun wx p' q' c1 c2 hB _ _ => ?_)
      · rintro U B U' B' ⟨rfl, rfl⟩ ⟨rfl, rfl⟩
        exact ⟨rfl, rfl⟩
      · refine (zatrank_out I wx (by omega)).mono ?_
        rintro r w' ⟨rfl, hw⟩
        exact ⟨_, _, rfl, ⟨rfl, rfl⟩, bel_eq hw⟩
      · refine (atRank_out I wx i0 i1 (by omega)).mono ?_
        rintro r w' ⟨rfl, hw⟩
        exact ⟨_, _, rfl, ⟨rfl, rfl⟩, bel_eq hw⟩
  · refine both10 X Y I pn pc pm px neg p q n k cap cap' ex more w zN zD (fun U => U = Ie.upd X) ?_ (fun wx hB => ?_) (fun wx p' q' c1 c2 hB _ _ => ?_)
    · rintro U U' rfl rfl
      exact rfl
    · refine (zup_any X wx x0 x1).mono ?_
      rintro r w' ⟨rfl, hw⟩
      exact ⟨_, rfl, rfl, bel_eq hw⟩
    · refine (up_any X wx x0 x1).mono ?_
      rintro r w' ⟨rfl, hw⟩
      exact ⟨_, rfl, rfl, bel_eq hw⟩
  · refine both11 X Y I pn pc pm px neg p q n k cap cap' ex more w zN zD (fun U => U = Ie.dnd X) ?_ (fun wx hB => ?_) (fun wx p' q' c1 c2 hB _ _ => ?_)
    · rintro U U' rfl rfl
      exact rfl
    · refine (zdown_any X wx x0 x1).mono ?_
      rintro r w' ⟨rfl, hw⟩
      exact ⟨_, rfl, rfl, bel_eq hw⟩
    · refine (down_any X wx x0 x1).mono ?_
      rintro r w' ⟨rfl, hw⟩
      exact ⟨_, rfl, rfl, bel_eq hw⟩
  · refine both12 X Y I pn pc pm px neg p q n k cap cap' ex more w zN zD (fun B => B = Ie.intg X) ?_ (fun wx hB => ?_) (fun wx p' q' c1 c2 hB _ _ => ?_)
    · rintro B B' rfl rfl
      exact rfl
    · refine (zintegral_any X wx x0 x1).mono ?_
      rintro r w' ⟨rfl, hw⟩
      exact ⟨_, rfl, rfl, hw⟩
    · refine (integral_any X wx (TB wx hB) x0 x1).mono ?_
      rintro r w' ⟨rfl, hw⟩
      exact ⟨_, rfl, rfl, hw⟩
  · by_cases hi : 0 ≤ I
    · refine both13 X Y I pn pc pm px neg p q n k cap cap' ex more w zN zD (fun U => Ie.Rnd I 1 0 false U) (fun U U' h h' => rnd_uniq (by omega) h h') (fun wx hB => ?_) (fun wx p' q' c1 c2 hB _ _ => ?_)
      · refine (zfromI_nn I wx hi i1).mono ?_
        rintro r w' ⟨x, rfl, h, hw⟩
        exact ⟨x, rfl, h, hw⟩
      · refine (fromI_nn I wx (TB wx hB) hi i1).mono ?_
        rintro r w' ⟨x, rfl, h, hw⟩
        exact ⟨x, rfl, h, hw⟩
    · refine both13 X Y I pn pc pm px neg p q n k cap cap' ex more w zN zD (fun U => ∃ x, U = x + 9223372036854775808 ∧ Ie.Rnd (-I) 1 0 false x) ?_ (fun wx hB => ?_) (fun wx p' q' c1 c2 hB _ _ => ?_)
      · rintro U U' ⟨x, rfl, h⟩ ⟨x', rfl, h'⟩
        rw [rnd_uniq (by omega) h h']
      · refine (zfromI_ng I wx (by omega) i0).mono ?_
        rintro r w' ⟨x, rfl, h, hw⟩
        exact ⟨_, rfl, ⟨x, rfl, h⟩, hw⟩
      · refine (fromI_ng I wx (TB wx hB) (by omega) i0).mono ?_
        rintro r w' ⟨x, rfl, h, hw⟩
        exact ⟨_, rfl, ⟨x, rfl, h⟩, hw⟩
  · refine both14 X Y I pn pc pm px neg p q n k cap cap' ex more w zN zD (fun U => Ie.Rnd X 1 0 false U) (fun U U' h h' => rnd_uniq (by omega) h h') (fun wx hB => ?_) (fun wx p' q' c1 c2 hB _ _ => ?_)
    · refine (zfromU_any X wx x0 x1).mono ?_
      rintro r w' ⟨x, rfl, h, hw⟩
      exact ⟨x, rfl, h, hw⟩
    · refine (fromU_any X wx (TB wx hB) x0 x1).mono ?_
      rintro r w' ⟨x, rfl, h, hw⟩
      exact ⟨x, rfl, h, hw⟩
  · by_cases hr : X % 9223372036854775808 < 9218868437227405312
    · have Vb := Ie.ewhp_bd (X % 9223372036854775808) (by omega) (by omega)
      refine both15 X Y I pn pc pm px neg p q n k cap cap' ex more w zN zD (fun V E => ToIntIs (decide (9223372036854775808 ≤ X)) (Ie.whp (X % 9223372036854775808)) V E) ?_ (fun wx hB => ?_) (fun wx p' q' c1 c2 hB _ _ => ?_)
      · intro V E V' E' h h'
        unfold ToIntIs at h h'
        rcases h with ⟨a, b, c⟩ | ⟨a, b, c⟩ <;> rcases h' with ⟨a', b', c'⟩ | ⟨a', b', c'⟩
        · exact ⟨by rw [b, b'], by rw [c, c']⟩
        · omega
        · omega
        · exact ⟨by rw [b, b'], by rw [c, c']⟩
      · refine (ztoInt_fin X wx x0 x1 hr _ rfl _ rfl Vb.1 Vb.2).mono ?_
        rintro r w' ⟨j, f, rfl, h, hw⟩
        exact ⟨j, f, rfl, h, hw⟩
      · refine (toInt_fin X wx x0 x1 hr _ rfl _ rfl Vb.1 Vb.2).mono ?_
        rintro r w' ⟨j, f, rfl, h, hw⟩
        exact ⟨j, f, rfl, h, hw⟩
    · refine both15 X Y I pn pc pm px neg p q n k cap cap' ex more w zN zD (fun V E => V = 0 ∧ E = 5) ?_ (fun wx hB => ?_) (fun wx p' q' c1 c2 hB _ _ => ?_)
      · rintro V E V' E' ⟨rfl, rfl⟩ ⟨rfl, rfl⟩
        exact ⟨rfl, rfl⟩
      · refine (ztoInt_inf X wx x0 x1 (by omega)).mono ?_
        rintro r w' ⟨rfl, hw⟩
        exact ⟨_, _, rfl, ⟨rfl, rfl⟩, bel_eq hw⟩
      · refine (toInt_inf X wx x0 x1 (by omega)).mono ?_
        rintro r w' ⟨rfl, hw⟩
        exact ⟨_, _, rfl, ⟨rfl, rfl⟩, bel_eq hw⟩
  · by_cases hr : X % 9223372036854775808 < 9218868437227405312
    · have Vb := Ie.ewhp_bd (X % 9223372036854775808) (by omega) (by omega)
      refine both16 X Y I pn pc pm px neg p q n k cap cap' ex more w zN zD (fun B E v => B = decide (9223372036854775808 ≤ X) ∧ E = 0 ∧ v = Ie.whp (X % 9223372036854775808)) ?_ (fun wx hB => ?_) (fun wx hB => ?_) ?_
      · rintro B E v B' E' v' ⟨rfl, rfl, rfl⟩ ⟨rfl, rfl, rfl⟩
        exact ⟨rfl, rfl, rfl⟩
      · refine (zwhole_fin X wx x0 x1 hr).mono ?_
        rintro r w' ⟨pl, os, rfl, A, hw⟩
        exact ⟨_, _, _, pl, os, rfl, ⟨rfl, rfl, rfl⟩, A, hw⟩
      · refine (whole_fin X wx x0 x1 hr).mono ?_
        rintro r w' ⟨pl, os, rfl, A, hw⟩
        exact ⟨_, _, _, pl, os, rfl, ⟨rfl, rfl, rfl⟩, A, hw⟩
      · rintro B E v ⟨_, _, rfl⟩
        exact Vb.2
    · refine both16 X Y I pn pc pm px neg p q n k cap cap' ex more w zN zD (fun B E v => B = false ∧ E = 5 ∧ v = 0) ?_ (fun wx hB => ?_) (fun wx hB => ?_) ?_
      · rintro B E v B' E' v' ⟨rfl, rfl, rfl⟩ ⟨rfl, rfl, rfl⟩
        exact ⟨rfl, rfl, rfl⟩
      · refine (zwhole_inf X wx x0 x1 (by omega)).mono ?_
        rintro r w' ⟨rfl, hw⟩
        exact ⟨_, _, _, none, [], rfl, ⟨rfl, rfl, rfl⟩, ans_none _ _ _ (fun a h => by cases h), bel_eq hw⟩
      · refine (whole_inf X wx x0 x1 (by omega)).mono ?_
        rintro r w' ⟨rfl, hw⟩
        exact ⟨_, _, _, none, [], rfl, ⟨rfl, rfl, rfl⟩, ans_none _ _ _ (fun a h => by cases h), bel_eq hw⟩
      · rintro B E v ⟨_, _, rfl⟩
        exact Nm.pw_pos 4096
  · by_cases tz : Nm.tsize zN ≤ 4096
    · refine both17 X Y I pn pc pm px neg p q n k cap cap' ex more w zN zD (fun U E => ∃ x, U = Ie.sg neg x ∧ E = 0 ∧ Ie.Rnd (Nm.val zN) 1 ex more x) ?_ (fun wx hB => ?_) (fun wx p' q' c1 c2 hB bN bD => ?_)
      · rintro U E U' E' ⟨x, rfl, rfl, h⟩ ⟨x', rfl, rfl, h'⟩
        rw [rnd_uniq (by omega) h h']
        exact ⟨rfl, rfl⟩
      · refine (zround_any neg p n cap zN wx (AN wx hB) tz _ ex more rfl).mono ?_
        rintro r w' ⟨x, rfl, h, hw⟩
        exact ⟨_, _, rfl, ⟨x, rfl, rfl, h⟩, bel_eq hw⟩
      · refine (round_any neg p' n c1 zN wx bN (TB wx hB) tz _ ex more rfl).mono ?_
        rintro r w' ⟨x, rfl, h, hw⟩
        exact ⟨_, _, rfl, ⟨x, rfl, rfl, h⟩, hw⟩
    · refine both17 X Y I pn pc pm px neg p q n k cap cap' ex more w zN zD (fun U E => U = 0 ∧ E = 2) ?_ (fun wx hB => ?_) (fun wx p' q' c1 c2 hB bN bD => ?_)
      · rintro U E U' E' ⟨rfl, rfl⟩ ⟨rfl, rfl⟩
        exact ⟨rfl, rfl⟩
      · refine (zround_big neg p n cap zN wx (AN wx hB) (by omega) ex more).mono ?_
        rintro r w' ⟨rfl, hw⟩
        exact ⟨_, _, rfl, ⟨rfl, rfl⟩, bel_eq hw⟩
      · refine (round_big neg p' n c1 zN wx bN (by omega) ex more).mono ?_
        rintro r w' ⟨rfl, hw⟩
        exact ⟨_, _, rfl, ⟨rfl, rfl⟩, bel_eq hw⟩
  · by_cases tz : 4096 < Nm.tsize zN ∨ 4096 < Nm.tsize zD
    · refine both18 X Y I pn pc pm px neg p q n k cap cap' ex more w zN zD (fun U E => U = 0 ∧ E = 2) ?_ (fun wx hB => ?_) (fun wx p' q' c1 c2 hB bN bD => ?_)
      · rintro U E U' E' ⟨rfl, rfl⟩ ⟨rfl, rfl⟩
        exact ⟨rfl, rfl⟩
      · refine (zratio_big neg p q n cap k cap' zN zD wx (AN wx hB) (AD wx hB) tz ex).mono ?_
        rintro r w' ⟨rfl, hw⟩
        exact ⟨_, _, rfl, ⟨rfl, rfl⟩, bel_eq hw⟩
      · refine (roundRatio_big neg p' q' n c1 k c2 zN zD wx bN bD tz ex).mono ?_
        rintro r w' ⟨rfl, hw⟩
        exact ⟨_, _, rfl, ⟨rfl, rfl⟩, bel_eq hw⟩
    · have v0 := (Nm.val_bd zD aD.2.2.2.2).1
      by_cases hz : Nm.val zD = 0
      · refine both18 X Y I pn pc pm px neg p q n k cap cap' ex more w zN zD (fun U E => U = 0 ∧ E = 4) ?_ (fun wx hB => ?_) (fun wx p' q' c1 c2 hB bN bD => ?_)
        · rintro U E U' E' ⟨rfl, rfl⟩ ⟨rfl, rfl⟩
          exact ⟨rfl, rfl⟩
        · refine (zratio_zero neg p q n cap k cap' zN zD wx (AN wx hB) (AD wx hB) (by omega) hz ex).mono ?_
          rintro r w' ⟨rfl, hw⟩
          exact ⟨_, _, rfl, ⟨rfl, rfl⟩, bel_eq hw⟩
        · refine (roundRatio_zero neg p' q' n c1 k c2 zN zD wx bN bD (by omega) hz ex).mono ?_
          rintro r w' ⟨rfl, hw⟩
          exact ⟨_, _, rfl, ⟨rfl, rfl⟩, bel_eq hw⟩
      · refine both18 X Y I pn pc pm px neg p q n k cap cap' ex more w zN zD (fun U E => ∃ x, U = Ie.sg neg x ∧ E = 0 ∧ Ie.Rnd (Nm.val zN) (Nm.val zD) ex false x) ?_ (fun wx hB => ?_) (fun wx p' q' c1 c2 hB bN bD => ?_)
        · rintro U E U' E' ⟨x, rfl, rfl, h⟩ ⟨x', rfl, rfl, h'⟩
          rw [rnd_uniq (by omega) h h']
          exact ⟨rfl, rfl⟩
        · refine (zratio_all neg p q n cap k cap' zN zD wx (AN wx hB) (AD wx hB) (by omega) (by omega) _ _ ex rfl rfl (by omega)).mono ?_
          rintro r w' ⟨x, rfl, h, hw⟩
          exact ⟨_, _, rfl, ⟨x, rfl, rfl, h⟩, hw⟩
        · refine (roundRatio_all neg p' q' n c1 k c2 zN zD wx bN bD (TB wx hB) (by omega) (by omega) _ _ ex rfl rfl (by omega)).mono ?_
          rintro r w' ⟨x, rfl, h, hw⟩
          exact ⟨_, _, rfl, ⟨x, rfl, rfl, h⟩, hw⟩
end Go.Proofs.YtbmbijadnojfaaaGreatDoor

namespace Go.Proofs.YtbmbijadnojfaaaGreatDoor
open Go.RowKit Go.Deep Go.ChangeShapes Go.WideShapes Go.ChangeAt

/-- A list of limbs that was read, wherever it stands. -/
theorem open_list {H : Type} {enc : TypeId × Value → H} {W : World} {fuel : Nat} {c : Value} {y : DataW H × List MemPlace} (hf : DataW.trod enc Tryz.prog W 0 (fun _ => true) true fuel 27 [c] = some y)
    (hsz : ∀ n ∈ y.1.weights Tryz.prog 27, n ≤ reachBytes) : ∃ p n cap zs, c = .slice p n cap ∧ Arg W p n cap zs ∧ cap ≤ 17592186043904 := by
  rcases open_ints Tryz.underlying27 Tryz.underlying24 (by kernel_rfl) hf with ⟨hcs, _⟩ | ⟨x, l, cp, zs, hcs, _, hl, hm, hz, hx, hcell, hwz⟩
  · simp only [List.cons.injEq, and_true] at hcs
    exact ⟨none, 0, 0, [], hcs, ⟨rfl, Nat.le_refl _, by omega, Lies.nil _ _, Nm.Limbs.nil⟩, by omega⟩
  · simp only [List.cons.injEq, and_true] at hcs
    have hz' : zs.length = cp := by simpa using hz
    have hr := hsz (((lits (H := H) .u64 (zs.take l)).length + (lits (H := H) .u64 (zs.drop l)).length) * Tryz.prog.bytesOf 24) (by rw [hx]; simp [DataW.weights, Tryz.underlying27])
    rw [show Tryz.prog.bytesOf 24 = 8 by kernel_rfl] at hr
    simp only [lits, List.length_map, List.length_take, List.length_drop, reachBytes] at hr
    have hb : cp ≤ 17592186043904 := by omega
    exact ⟨some x, l, cp, _, hcs, arg_open hl hz' hb hcell hwz, hb⟩

theorem all_mem {H : Type} {P : Program} {e : TypeId} : ∀ {l : List (DataW H)} {d : DataW H}, d ∈ l → ∀ n ∈ d.weights P e, n ∈ DataW.weightsAll P e l
  | [], _, h, _, _ => by simp at h
  | x :: r, d, h, n, hn => by
    simp only [DataW.weightsAll, List.mem_append]
    rcases List.mem_cons.1 h with rfl | h
    · exact .inl hn
    · exact .inr (all_mem h n hn)

/-- What can be told of each place can be told of a list. -/
theorem list_of_each {α : Type} {Q : Nat → α → Prop} : ∀ n, (∀ i, i < n → ∃ x, Q i x) → ∃ l : List α, l.length = n ∧ ∀ i x, l[i]? = some x → Q i x
  | 0, _ => ⟨[], rfl, by simp⟩
  | n + 1, h => by
    obtain ⟨l, h1, h2⟩ := list_of_each n (fun i hi => h i (by omega))
    obtain ⟨x, hx⟩ := h n (by omega)
    refine ⟨l ++ [x], by simp [h1], fun i y hy => ?_⟩
    by_cases hi : i < l.length
    · rw [List.getElem?_append_left hi] at hy
      exact h2 i y hy
    · have hlt := (List.getElem?_eq_some_iff.1 hy).1
      simp only [List.length_append, List.length_cons, List.length_nil] at hlt
      obtain rfl : i = n := by omega
      rw [List.getElem?_append_right (by omega), h1, Nat.sub_self] at hy
      simp at hy
      subst hy
      exact hx
end Go.Proofs.YtbmbijadnojfaaaGreatDoor
