/-
  Texts put together: Sub, NTell, NShr.
-/
import Derived.Test.YtffkopijfelacaaDoorRC
import Derived.Test.YtffkopijfelacaaDoorWalk3
import Derived.Test.YtffkopijfelacaaDoorSmall
import Derived.Test.YtffkopijfelacaaDoorOver
import Derived.Test.YtffkopijfelacaaDoorMulOver
import Derived.Test.YtffkopijfelacaaDoorWalk4
import Derived.Test.YtffkopijfelacaaDoorWalk6
namespace Go.Proofs.YtffkopijfelacaaDoor
open Go.RowKit Go.Deep

set_option maxHeartbeats 1000000 in
theorem subFrom_any (g k : Nat) (zs : List Int) (q : Option Addr) (m cap : Nat) (ys : List Int) (w : World) (hk : zs.length = k) (hkm : k ≤ 35184372088832) (ho : Own w g zs) (hl : Nm.Limbs zs)
    (hm : ys.length = m) (hmk : m ≤ k) (hy : Lies w q ys) (hly : Nm.Limbs ys) (hq : 0 < ys.length → ∀ a, q = some a → a.block < g) (hT : 0 ≤ Nm.val zs - Nm.val ys) :
    Calls Tryd.prog 58 #[.slice (some ⟨g, 0, none⟩) k k, .slice q m cap] w fun e w' => e = .returned (.tuple #[]) ∧ Wrote g k (Nm.val zs - Nm.val ys) w w' := by
  rcases hy with rfl | ⟨b, off, rfl, hcell⟩
  · have hm0 : m = 0 := by simpa using hm.symm
    subst hm0
    have E : Wrote g k (Nm.val zs - Nm.val []) w w := ⟨zs, ho, hk, hl, by simp [Nm.val], Below.refl _ _, rfl⟩
    clear ho hl hT hq hm hk
    go_enter Tryd.func58, Tryd.ntmps58
    go_wp2
    refine wp_loop_rounds 1 ?_
    rw [rounds_succ]
    go_wp2
    refine wp_loop_rounds 1 ?_
    rw [rounds_succ]
    go_wp2
    go_end0
    exact ⟨rfl, E⟩
  · have hbg : 0 < ys.length → b < g := fun h => hq h _ rfl
    have I0 : AddInv g k w (Nm.val zs - Nm.val (ys.take 0)) 0 (-0) zs w := ⟨ho, hk, hl, by simp [Nm.val], Below.refl _ _, rfl⟩
    have HC : Hid (∀ i, i < ys.length → w.cell? ⟨b, off + i, none⟩ = some (.int .u64 (ys.getD i 0))) := hcell
    have HM : Hid (ys.length = m) := hm
    have HT : Hid (0 ≤ Nm.val zs - Nm.val ys) := hT
    have HY : Hid (Nm.Limbs ys) := hly
    clear hcell hm hT hly hq ho hk hl
    go_enter Tryd.func58, Tryd.ntmps58
    go_wp2
    go_loopw [4, 10] (fun c i wr => ∃ (j : Nat) (cc : Int) (os : List Int), j ≤ m ∧ i = .int .i64 j ∧ c = .int .u64 cc ∧ 0 ≤ cc ∧ cc ≤ 1 ∧ AddInv g k w (Nm.val zs - Nm.val (ys.take j)) j (-cc) os wr) (fun _ i _ => m - (intOf i).toNat)
    case atStart => exact ⟨0, 0, zs, Nat.zero_le _, rfl, rfl, by omega, by omega, I0⟩
    case round =>
      clear I0
      obtain ⟨j, cc, os, hj, rfl, rfl, hc0, hc1, I⟩ := hrel
      by_cases hlt : j < m
      · obtain ⟨x, hx, X⟩ : ∃ x, wr.cell? ⟨b, off + j, none⟩ = some (.int .u64 x) ∧ Hid (x = ys.getD j 0) :=
          ⟨_, (I.2.2.2.2.1.cell (p := ⟨b, off + j, none⟩) (hbg (by have := HM.out; omega))).trans (HC.out j (by have := HM.out; omega)), rfl⟩
        obtain ⟨y, hyc, Y⟩ : ∃ y, wr.cell? ⟨g, j, none⟩ = some (.int .u64 y) ∧ Hid (y = os.getD j 0) := ⟨_, I.1.cell j (by have := I.2.1; omega), rfl⟩
        have hfr := I.1.free j
        have hx0 := HY.out.at j
        rw [← X.out] at hx0
        obtain ⟨hx0, hx1⟩ := hx0
        have hy0 := I.2.2.1.at j
        rw [← Y.out] at hy0
        obtain ⟨hy0, hy1⟩ := hy0
        obtain ⟨s, c', hs, hc', E⟩ := sub_names y x cc hy0 hy1 hx0 hx1 hc0 hc1
        have hjk : (j : Int) < (k : Int) := by omega
        go_wp2_with (simp only [sub64' y x cc s c' hy0 hy1 hx0 hx1 hc0 hc1 hs hc' E.out])
        go_roundw
        case rel =>
          have hst := I.down (by omega) (x := -x) (s := s) (c' := -c') hs (by rw [← Y.out]; exact E.out)
          refine ⟨j + 1, c', os.set j s, by omega, by go_num, rfl, hc'.1, hc'.2, ?_⟩
          have e : Nm.val zs - Nm.val (ys.take (j + 1)) = Nm.val zs - Nm.val (ys.take j) + Nm.pw j * (-x) := by
            rw [Nm.val_take_succ ys j (by have := HM.out; omega), ← X.out, Int.mul_neg]
            omega
          rw [e]
          exact hst
        case measure => simp [intOf]; omega
      · have hjm : j = m := by omega
        subst hjm
        rw [List.take_of_length_le (by have := HM.out; omega)] at I
        go_wp2
        go_loopw [4, 7] (fun c i wr => ∃ (t : Nat) (cc : Int) (os : List Int), t ≤ k ∧ i = .int .i64 t ∧ c = .int .u64 cc ∧ 0 ≤ cc ∧ cc ≤ 1 ∧ AddInv g k w (Nm.val zs - Nm.val ys) t (-cc) os wr) (fun _ i _ => k - (intOf i).toNat)
        case atStart => exact ⟨j, cc, os, hmk, rfl, rfl, hc0, hc1, I⟩
        case round =>
          clear I hc0 hc1
          obtain ⟨t, cc, os, ht, rfl, rfl, hc0, hc1, I⟩ := hrel
          by_cases hz : cc = 0
          · subst hz
            have E : Wrote g k (Nm.val zs - Nm.val ys) w wr := ⟨os, I.1, I.2.1, I.2.2.1, by have := I.2.2.2.1; simp at this; omega, I.2.2.2.2.1, I.2.2.2.2.2⟩
            clear I
            go_wp2
            go_end0
            exact ⟨rfl, E⟩
          · have htk := I.stop HT.out (by omega)
            have htk' : (t : Int) < (k : Int) := by omega
            obtain ⟨y, hyc, Y⟩ : ∃ y, wr.cell? ⟨g, t, none⟩ = some (.int .u64 y) ∧ Hid (y = os.getD t 0) := ⟨_, I.1.cell t (by have := I.2.1; omega), rfl⟩
            have hfr := I.1.free t
            have hy0 := I.2.2.1.at t
            rw [← Y.out] at hy0
            obtain ⟨hy0, hy1⟩ := hy0
            obtain ⟨s, c', hs, hc', E⟩ := sub_names y 0 cc hy0 hy1 (by omega) (by omega) hc0 hc1
            go_wp2_with (simp only [sub64' y 0 cc s c' hy0 hy1 (Int.le_refl 0) (by decide) hc0 hc1 hs hc' E.out])
            go_roundw
            case rel =>
              have hst := I.down (by omega) (x := -0) (s := s) (c' := -c') hs (by rw [← Y.out]; exact E.out)
              rw [Int.neg_zero, Int.mul_zero, Int.add_zero] at hst
              exact ⟨t + 1, c', os.set t s, by omega, by go_num, rfl, hc'.1, hc'.2, hst⟩
            case measure => simp [intOf]; omega

theorem Arg.trim {w : World} {p : Option Addr} {n cap : Nat} {zs : List Int} (h : Arg w p n cap zs) : Arg w p (Nm.tsize zs) (Nm.tsize zs) (Nm.trim zs) :=
  ⟨Nm.trim_length zs, Nat.le_refl _, by have := h.tl; have := h.2.1; have := h.2.2.1; omega, h.2.2.2.1.trim, h.2.2.2.2.trim⟩

set_option maxHeartbeats 1000000 in
theorem sub_ok (p q : Option Addr) (n cap m cap' : Nat) (zs ys : List Int) (w : World) (ha : Arg w p n cap zs) (hb : Arg w q m cap' ys) (tz : Nm.tsize zs ≤ 4096) (hle : Nm.val ys ≤ Nm.val zs) :
    Calls Tryd.prog 35 #[.slice p n cap, .slice q m cap'] w fun e w' => ∃ r os, e = .returned (.tuple #[.slice r (List.length os) (List.length os), .int .i64 0]) ∧ Ans w.heap.size w' r os (Nm.val zs - Nm.val ys) ∧ Below w.heap.size w w' := by
  have hs : Nm.val zs < Nm.pw 4096 := (Nm.tsize_le_iff ha.2.2.2.2 4096).1 tz
  have y0 := (Nm.val_bd ys hb.2.2.2.2).1
  have ty : Nm.tsize ys ≤ 4096 := (Nm.tsize_le_iff hb.2.2.2.2 4096).2 (by omega)
  have tyz : Nm.tsize ys ≤ Nm.tsize zs := by
    have h1 := Nm.val_lt_tsize ha.2.2.2.2
    exact (Nm.tsize_le_iff hb.2.2.2.2 _).2 (by omega)
  have AT := hid ha.trim
  have BT := hid hb.trim
  obtain ⟨a1, a2, a3, a4, a5⟩ := ha
  obtain ⟨b1, b2, b3, b4, b5⟩ := hb
  obtain ⟨c, C⟩ : ∃ c, Hid (cmpI (Nm.val (Nm.trim zs)) (Nm.val (Nm.trim ys)) = c) := ⟨_, rfl⟩
  have hc : ¬ c < 0 := by
    rw [← C.out, Nm.val_trim, Nm.val_trim]
    unfold cmpI
    rw [if_neg (by omega)]
    split <;> omega
  have V : Hid (Nm.val (Nm.trim zs) - Nm.val (Nm.trim ys) = Nm.val zs - Nm.val ys) := by rw [Hid, Nm.val_trim, Nm.val_trim]
  have HS : Hid (0 ≤ Nm.val (Nm.trim zs) - Nm.val (Nm.trim ys) ∧ Nm.val (Nm.trim zs) - Nm.val (Nm.trim ys) < Nm.pw 4096) := by rw [Hid, Nm.val_trim, Nm.val_trim]; omega
  clear hs y0 hle
  go_enter Tryd.func35, Tryd.ntmps35
  go_wp2_with fail
  refine (pair_ok p q n cap m cap' zs ys _ a1 a2 (by omega) a4 tz b1 b2 (by omega) b4 ty).mono ?_
  rintro e w' ⟨rfl, rfl⟩
  go_wp2_with fail
  refine (cmp_is c p q _ _ _ _ (Nm.trim zs) (Nm.trim ys) _ AT.out BT.out C.out).mono ?_
  rintro e w1 ⟨rfl, hb1⟩
  have D1 := hid hb1
  clear hb1
  go_wp2_with fail
  refine (widened_any p (Nm.tsize zs) (Nm.tsize zs) 0 0 (Nm.trim zs) _ rfl (Nm.trim_length zs) (by omega) (AT.out.below D1.out (Nat.le_refl _)).2.2.2.1).mono ?_
  rintro e w2 ⟨rfl, ho, hb1, hz1⟩
  rw [List.replicate_zero, List.append_nil] at ho
  have HO := hid ho
  have D2 := hid hb1
  have S1 := hid D1.out.size
  clear ho hb1 hz1
  go_wp2_with fail
  refine (subFrom_any w1.heap.size (Nm.tsize zs) (Nm.trim zs) q (Nm.tsize ys) (Nm.tsize ys) (Nm.trim ys) _ (Nm.trim_length zs) (by omega) HO.out a5.trim (Nm.trim_length ys) tyz ((BT.out.below D1.out (Nat.le_refl _)).2.2.2.1.below D2.out (Nat.le_refl _)) b5.trim (fun h0 => (BT.out.below D1.out (Nat.le_refl _)).2.2.2.1.lt h0) HS.out.1).mono ?_
  rintro e w3 ⟨rfl, hw⟩
  obtain ⟨os, o1, o2, o3, o4, o5, o6⟩ := hw
  have HO3 := hid o1
  have O4 := hid o4
  have HB2 := hid o5
  clear o1 o4 o5 o6
  go_wp2_with fail
  refine (limited_own w1.heap.size (Nm.tsize zs) os _ o2 (by omega) HO3.out o3 w'.heap.size S1.out (by rw [O4.out]; exact HS.out.2)).mono ?_
  rintro e w4 ⟨r, xs, rfl, hans, rfl⟩
  rw [O4.out, V.out] at hans
  have HA := hid hans
  clear hans
  go_wp2_with fail
  go_ret2
  exact ⟨r, xs, rfl, HA.out, D1.out.trans ((D2.out.trans HB2.out).mono S1.out)⟩

set_option maxHeartbeats 1000000 in
theorem sub_below (p q : Option Addr) (n cap m cap' : Nat) (zs ys : List Int) (w : World) (ha : Arg w p n cap zs) (hb : Arg w q m cap' ys) (tz : Nm.tsize zs ≤ 4096) (ty : Nm.tsize ys ≤ 4096) (hlt : Nm.val zs < Nm.val ys) :
    Calls Tryd.prog 35 #[.slice p n cap, .slice q m cap'] w fun e w' => e = .returned (.tuple #[.slice none 0 0, .int .i64 10]) ∧ Below w.heap.size w w' := by
  have AT := hid ha.trim
  have BT := hid hb.trim
  obtain ⟨a1, a2, a3, a4, a5⟩ := ha
  obtain ⟨b1, b2, b3, b4, b5⟩ := hb
  have C := hid (cmpI_lt hlt)
  rw [← Nm.val_trim zs, ← Nm.val_trim ys] at C
  clear hlt
  go_enter Tryd.func35, Tryd.ntmps35
  go_wp2_with fail
  refine (pair_ok p q n cap m cap' zs ys _ a1 a2 (by omega) a4 tz b1 b2 (by omega) b4 ty).mono ?_
  rintro e w' ⟨rfl, rfl⟩
  go_wp2_with fail
  refine (cmp_is _ p q _ _ _ _ (Nm.trim zs) (Nm.trim ys) _ AT.out BT.out C.out).mono ?_
  rintro e w1 ⟨rfl, hb1⟩
  have D1 := hid hb1
  clear hb1
  go_wp2_with fail
  go_ret2
  exact ⟨rfl, D1.out⟩
end Go.Proofs.YtffkopijfelacaaDoor

namespace Go.Proofs.YtffkopijfelacaaDoor
open Go.RowKit Go.Deep

theorem add_big (p q : Option Addr) (n cap m cap' : Nat) (zs ys : List Int) (w : World) (ha : Arg w p n cap zs) (hb : Arg w q m cap' ys) (hs : 4096 < Nm.tsize zs ∨ 4096 < Nm.tsize ys) :
    Calls Tryd.prog 9 #[.slice p n cap, .slice q m cap'] w fun e w' => e = .returned (.tuple #[.slice none 0 0, .int .i64 2]) ∧ w' = w := by
  obtain ⟨a1, a2, a3, a4, a5⟩ := ha
  obtain ⟨b1, b2, b3, b4, b5⟩ := hb
  have HT := hid (pair_big p q n cap m cap' zs ys w a1 a2 (by omega) a4 b1 b2 (by omega) b4 hs)
  clear hs
  go_enter Tryd.func9, Tryd.ntmps9
  go_wp2_with fail
  refine HT.out.mono ?_
  rintro e w' ⟨rfl, rfl⟩
  go_wp2_with fail
  go_ret2
  exact ⟨rfl, rfl⟩

theorem sub_big (p q : Option Addr) (n cap m cap' : Nat) (zs ys : List Int) (w : World) (ha : Arg w p n cap zs) (hb : Arg w q m cap' ys) (hs : 4096 < Nm.tsize zs ∨ 4096 < Nm.tsize ys) :
    Calls Tryd.prog 35 #[.slice p n cap, .slice q m cap'] w fun e w' => e = .returned (.tuple #[.slice none 0 0, .int .i64 2]) ∧ w' = w := by
  obtain ⟨a1, a2, a3, a4, a5⟩ := ha
  obtain ⟨b1, b2, b3, b4, b5⟩ := hb
  have HT := hid (pair_big p q n cap m cap' zs ys w a1 a2 (by omega) a4 b1 b2 (by omega) b4 hs)
  clear hs
  go_enter Tryd.func35, Tryd.ntmps35
  go_wp2_with fail
  refine HT.out.mono ?_
  rintro e w' ⟨rfl, rfl⟩
  go_wp2_with fail
  go_ret2
  exact ⟨rfl, rfl⟩

theorem mul_big (p q : Option Addr) (n cap m cap' : Nat) (zs ys : List Int) (w : World) (ha : Arg w p n cap zs) (hb : Arg w q m cap' ys) (hs : 4096 < Nm.tsize zs ∨ 4096 < Nm.tsize ys) :
    Calls Tryd.prog 10 #[.slice p n cap, .slice q m cap'] w fun e w' => e = .returned (.tuple #[.slice none 0 0, .int .i64 2]) ∧ w' = w := by
  obtain ⟨a1, a2, a3, a4, a5⟩ := ha
  obtain ⟨b1, b2, b3, b4, b5⟩ := hb
  have HT := hid (pair_big p q n cap m cap' zs ys w a1 a2 (by omega) a4 b1 b2 (by omega) b4 hs)
  clear hs
  go_enter Tryd.func10, Tryd.ntmps10
  go_wp2_with fail
  refine HT.out.mono ?_
  rintro e w' ⟨rfl, rfl⟩
  go_wp2_with fail
  go_ret2
  exact ⟨rfl, rfl⟩

theorem lshift_big (p : Option Addr) (n cap : Nat) (zs : List Int) (k : Int) (w : World) (ha : Arg w p n cap zs) (tz : 4096 < Nm.tsize zs) :
    Calls Tryd.prog 62 #[.slice p n cap, .int .i64 k] w fun e w' => e = .returned (.tuple #[.slice none 0 0, .int .i64 2]) ∧ w' = w := by
  obtain ⟨a1, a2, a3, a4, a5⟩ := ha
  have HT := hid (limited_big p n cap zs w a1 a2 (by omega) a4 tz)
  go_enter Tryd.func62, Tryd.ntmps62
  go_wp2_with fail
  refine HT.out.mono ?_
  rintro e w' ⟨rfl, rfl⟩
  go_wp2_with fail
  go_ret2
  exact ⟨rfl, rfl⟩

/-- A shift's operand is refused, with this error. -/
theorem lshift_bad (p : Option Addr) (n cap : Nat) (zs : List Int) (k : Int) (w : World) (ha : Arg w p n cap zs) (h : 4096 < Nm.tsize zs ∨ k < 0) (E : Int) (hE : E = if 4096 < Nm.tsize zs then 2 else 1) :
    Calls Tryd.prog 62 #[.slice p n cap, .int .i64 k] w fun e w' => e = .returned (.tuple #[.slice none 0 0, .int .i64 E]) ∧ w' = w := by
  by_cases tz : 4096 < Nm.tsize zs
  · rw [if_pos tz] at hE
    subst hE
    exact lshift_big p n cap zs k w ha tz
  · rw [if_neg tz] at hE
    subst hE
    exact lshift_neg p n cap zs k w ha (by omega) (by omega)

theorem shl_bad (p : Option Addr) (n cap : Nat) (zs : List Int) (k : Int) (w : World) (ha : Arg w p n cap zs) (h : 4096 < Nm.tsize zs ∨ k < 0) (E : Int) (hE : E = if 4096 < Nm.tsize zs then 2 else 1) :
    Calls Tryd.prog 38 #[.slice p n cap, .int .i64 k] w fun e w' => e = .returned (.tuple #[.slice none 0 0, .int .i64 E]) ∧ w' = w := by
  have HT := hid (lshift_bad p n cap zs k w ha h E hE)
  have h0 : (E == 0) = false := by rw [beq_eq_false_iff_ne, hE]; split <;> omega
  clear hE h
  go_enter Tryd.func38, Tryd.ntmps38
  go_wp2_with fail
  refine HT.out.mono ?_
  rintro e w' ⟨rfl, rfl⟩
  go_wp2_with fail
  go_ret2
  exact ⟨rfl, rfl⟩

theorem low_bad (p : Option Addr) (n cap : Nat) (zs : List Int) (k : Int) (w : World) (ha : Arg w p n cap zs) (h : 4096 < Nm.tsize zs ∨ k < 0) (E : Int) (hE : E = if 4096 < Nm.tsize zs then 2 else 1) :
    Calls Tryd.prog 41 #[.slice p n cap, .int .i64 k] w fun e w' => e = .returned (.tuple #[.slice none 0 0, .int .i64 E]) ∧ w' = w := by
  have HT := hid (lshift_bad p n cap zs k w ha h E hE)
  have h0 : (E == 0) = false := by rw [beq_eq_false_iff_ne, hE]; split <;> omega
  clear hE h
  go_enter Tryd.func41, Tryd.ntmps41
  go_wp2_with fail
  refine HT.out.mono ?_
  rintro e w' ⟨rfl, rfl⟩
  go_wp2_with fail
  go_ret2
  exact ⟨rfl, rfl⟩

theorem shr_bad (p : Option Addr) (n cap : Nat) (zs : List Int) (k : Int) (w : World) (ha : Arg w p n cap zs) (h : 4096 < Nm.tsize zs ∨ k < 0) (E : Int) (hE : E = if 4096 < Nm.tsize zs then 2 else 1) :
    Calls Tryd.prog 39 #[.slice p n cap, .int .i64 k] w fun e w' => e = .returned (.tuple #[.slice none 0 0, .bool false, .int .i64 E]) ∧ w' = w := by
  have HT := hid (lshift_bad p n cap zs k w ha h E hE)
  have h0 : (E == 0) = false := by rw [beq_eq_false_iff_ne, hE]; split <;> omega
  clear hE h
  go_enter Tryd.func39, Tryd.ntmps39
  go_wp2_with fail
  refine HT.out.mono ?_
  rintro e w' ⟨rfl, rfl⟩
  go_wp2_with fail
  go_ret3
  exact ⟨rfl, rfl⟩

theorem add_tell (p q : Option Addr) (n cap m cap' : Nat) (za zb : List Int) (w : World) (ha : Arg w p n cap za) (hb : Arg w q m cap' zb) :
    Calls Tryd.prog 9 #[.slice p n cap, .slice q m cap'] w fun e w' => Tells (4096 < Nm.tsize za ∨ 4096 < Nm.tsize zb ∨ Nm.pw 4096 ≤ Nm.val za + Nm.val zb) 2 (Nm.val za + Nm.val zb) w e w' := by
  by_cases h : 4096 < Nm.tsize za ∨ 4096 < Nm.tsize zb
  · refine (add_big p q n cap m cap' za zb w ha hb h).mono ?_
    rintro e w' ⟨rfl, rfl⟩
    exact Tells.bad (by rcases h with h | h; exact .inl h; exact .inr (.inl h)) (Below.refl _ _)
  · by_cases hs : Nm.pw 4096 ≤ Nm.val za + Nm.val zb
    · refine (add_over p q n cap m cap' za zb w ha hb (by omega) (by omega) hs).mono ?_
      rintro e w' ⟨rfl, hB⟩
      exact Tells.bad (.inr (.inr hs)) hB
    · refine (add_ok p q n cap m cap' za zb w ha hb (by omega)).mono ?_
      rintro e w' ⟨r, os, rfl, A, hB⟩
      exact Tells.good (by omega) A hB

theorem mul_tell (p q : Option Addr) (n cap m cap' : Nat) (za zb : List Int) (w : World) (ha : Arg w p n cap za) (hb : Arg w q m cap' zb) :
    Calls Tryd.prog 10 #[.slice p n cap, .slice q m cap'] w fun e w' => Tells (4096 < Nm.tsize za ∨ 4096 < Nm.tsize zb ∨ Nm.pw 4096 ≤ Nm.val za * Nm.val zb) 2 (Nm.val za * Nm.val zb) w e w' := by
  by_cases h : 4096 < Nm.tsize za ∨ 4096 < Nm.tsize zb
  · refine (mul_big p q n cap m cap' za zb w ha hb h).mono ?_
    rintro e w' ⟨rfl, rfl⟩
    exact Tells.bad (by rcases h with h | h; exact .inl h; exact .inr (.inl h)) (Below.refl _ _)
  · by_cases hs : Nm.pw 4096 ≤ Nm.val za * Nm.val zb
    · refine (mul_over p q n cap m cap' za zb w ha hb (by omega) (by omega) hs).mono ?_
      rintro e w' ⟨rfl, hB⟩
      exact Tells.bad (.inr (.inr hs)) hB
    · refine (mul_ok p q n cap m cap' za zb w ha hb (by omega) (by omega) (by omega)).mono ?_
      rintro e w' ⟨r, os, rfl, A, hB⟩
      exact Tells.good (by omega) A hB

theorem sub_tell (p q : Option Addr) (n cap m cap' : Nat) (za zb : List Int) (w : World) (ha : Arg w p n cap za) (hb : Arg w q m cap' zb) :
    Calls Tryd.prog 35 #[.slice p n cap, .slice q m cap'] w fun e w' => Tells ((4096 < Nm.tsize za ∨ 4096 < Nm.tsize zb) ∨ Nm.val za < Nm.val zb) (subErr za zb) (Nm.val za - Nm.val zb) w e w' := by
  by_cases h : 4096 < Nm.tsize za ∨ 4096 < Nm.tsize zb
  · have e2 : subErr za zb = 2 := if_pos h
    rw [e2]
    refine (sub_big p q n cap m cap' za zb w ha hb h).mono ?_
    rintro e w' ⟨rfl, rfl⟩
    exact Tells.bad (.inl h) (Below.refl _ _)
  · have e2 : subErr za zb = 10 := if_neg h
    rw [e2]
    by_cases hs : Nm.val za < Nm.val zb
    · refine (sub_below p q n cap m cap' za zb w ha hb (by omega) (by omega) hs).mono ?_
      rintro e w' ⟨rfl, hB⟩
      exact Tells.bad (.inr hs) hB
    · refine (sub_ok p q n cap m cap' za zb w ha hb (by omega) (by omega)).mono ?_
      rintro e w' ⟨r, os, rfl, A, hB⟩
      exact Tells.good (by omega) A hB

theorem mulAdd_tell (p : Option Addr) (n cap : Nat) (za : List Int) (mm cc : Int) (w : World) (ha : Arg w p n cap za) (hm0 : 0 ≤ mm) (hm1 : mm < 18446744073709551616) (hc0 : 0 ≤ cc) (hc1 : cc < 18446744073709551616) :
    Calls Tryd.prog 36 #[.slice p n cap, .int .u64 mm, .int .u64 cc] w fun e w' => Tells (4096 < Nm.tsize za ∨ Nm.pw 4096 ≤ Nm.val za * mm + cc) 2 (Nm.val za * mm + cc) w e w' := by
  by_cases h : 4096 < Nm.tsize za
  · refine (mulAdd_big p n cap za mm cc w ha h).mono ?_
    rintro e w' ⟨rfl, rfl⟩
    exact Tells.bad (.inl h) (Below.refl _ _)
  · refine (mulAdd_any p n cap za mm cc w ha (by omega) hm0 hm1 hc0 hc1).mono ?_
    rintro e w' ⟨h1, h2, hB⟩
    by_cases hs : Nm.pw 4096 ≤ Nm.val za * mm + cc
    · rw [h2 hs]
      exact Tells.bad (.inr hs) hB
    · obtain ⟨r, os, rfl, A⟩ := h1 (by omega)
      exact Tells.good (by omega) A hB

theorem shl_tell (p : Option Addr) (n cap : Nat) (za : List Int) (kk : Int) (w : World) (ha : Arg w p n cap za) (hk1 : kk ≤ 9223372036854775807) :
    Calls Tryd.prog 38 #[.slice p n cap, .int .i64 kk] w fun e w' => Tells (shlBad za kk) (shlErr za kk) (Nm.val za * 2 ^ kk.toNat) w e w' := by
  by_cases h : 4096 < Nm.tsize za ∨ kk < 0
  · have e2 : shlErr za kk = if 4096 < Nm.tsize za then 2 else 1 := by
      unfold shlErr
      by_cases h1 : 4096 < Nm.tsize za
      · rw [if_pos h1, if_pos h1]
      · rw [if_neg h1, if_neg h1, if_pos (by omega)]
    refine (shl_bad p n cap za kk w ha h _ e2).mono ?_
    rintro e w' ⟨rfl, rfl⟩
    exact Tells.bad (by rcases h with h | h; exact .inl h; exact .inr (.inl h)) (Below.refl _ _)
  · have e2 : shlErr za kk = 2 := by
      unfold shlErr
      rw [if_neg (by omega), if_neg (by omega)]
    rw [e2]
    by_cases hs : Nm.pw 4096 ≤ Nm.val za * 2 ^ kk.toNat
    · refine (shl_over p n cap za kk kk.toNat w ha (by omega) (by omega) hk1 hs).mono ?_
      rintro e w' ⟨rfl, rfl⟩
      exact Tells.bad (.inr (.inr hs)) (Below.refl _ _)
    · refine (shl_any p n cap za kk kk.toNat w ha (by omega) (by omega) (by omega)).mono ?_
      rintro e w' ⟨r, os, rfl, A, hB⟩
      refine Tells.good ?_ A hB
      rintro (h1 | h1 | h1)
      · exact h (.inl h1)
      · exact h (.inr h1)
      · exact hs h1
end Go.Proofs.YtffkopijfelacaaDoor

namespace Go.Proofs.YtffkopijfelacaaDoor
open Go.RowKit Go.Deep

/-- The error of a shift that is refused. -/
def shErr (za : List Int) : Int := if 4096 < Nm.tsize za then 2 else 1

/-- What Shr answers. -/
def ShrSays (za : List Int) (kk : Int) (w : World) (e : Ending) (w' : World) : Prop :=
  ∃ r os B f, e = .returned (.tuple #[.slice r (List.length os) (List.length os), .bool B, .int .i64 f]) ∧ (((4096 < Nm.tsize za ∨ kk < 0) ∧ f = shErr za ∧ B = false ∧ os = [] ∧ r = none) ∨ (¬ (4096 < Nm.tsize za ∨ kk < 0) ∧ f = 0 ∧ B = decide (Nm.val za % 2 ^ kk.toNat ≠ 0) ∧ Ans w.heap.size w' r os (Nm.val za / 2 ^ kk.toNat))) ∧ Below w.heap.size w w'

theorem trl_lt {v : Int} {t k : Nat} (h : Nm.Trl v t) (h0 : 0 < v) : decide ((t : Int) < (k : Int)) = decide (v % 2 ^ k ≠ 0) := by
  rcases h with ⟨c, _⟩ | ⟨m, hm⟩
  · omega
  rw [Bool.eq_iff_iff]
  simp only [decide_eq_true_eq]
  constructor
  · intro hlt hz
    obtain ⟨q, hq⟩ := Int.dvd_of_emod_eq_zero hz
    obtain ⟨d, rfl⟩ : ∃ d, k = t + (d + 1) := ⟨k - t - 1, by omega⟩
    rw [Nm.two_add, Int.mul_assoc] at hq
    have hp := Nm.two_pos t
    have e : 2 * m + 1 = 2 ^ (d + 1) * q := Int.eq_of_mul_eq_mul_left (by omega) (hm.symm.trans hq)
    exact Nm.odd_unique e
  · intro hz
    rcases Nat.lt_or_ge t k with c | c
    · omega
    · exfalso
      apply hz
      obtain ⟨d, rfl⟩ : ∃ d, t = k + d := ⟨t - k, by omega⟩
      rw [hm, Nm.two_add, Int.mul_assoc]
      exact Int.mul_emod_right _ _

set_option maxHeartbeats 1000000 in
theorem refShr_any (p : Option Addr) (n cap : Nat) (za : List Int) (kk : Int) (w : World) (ha : Arg w p n cap za) (hk1 : kk ≤ 9223372036854775807) :
    Calls Tryd.prog 24 #[.slice p n cap, .int .i64 kk] w fun e w' => ShrSays za kk w e w' := by
  have HA := hid ha
  by_cases h1 : 4096 < Nm.tsize za
  · have S1 := hid (refBig_is true p n cap za w ha (by simpa using h1))
    have E : Hid (ShrSays za kk w (.returned (.tuple #[.slice none 0 0, .bool false, .int .i64 2])) w) := ⟨none, [], false, 2, rfl, .inl ⟨.inl h1, by rw [shErr, if_pos h1], rfl, rfl, rfl⟩, Below.refl _ _⟩
    clear ha h1 HA
    go_enter Tryd.func24, Tryd.ntmps24
    go_wp2_with fail
    refine S1.out.mono ?_
    rintro e w' ⟨rfl, rfl⟩
    go_wp2
    go_ret3
    exact E.out
  have S1 := hid (refBig_is false p n cap za w ha (by simp; omega))
  by_cases h2 : kk < 0
  · have E : Hid (ShrSays za kk w (.returned (.tuple #[.slice none 0 0, .bool false, .int .i64 1])) w) := ⟨none, [], false, 1, rfl, .inl ⟨.inr h2, by rw [shErr, if_neg h1], rfl, rfl, rfl⟩, Below.refl _ _⟩
    clear ha h1 HA
    go_enter Tryd.func24, Tryd.ntmps24
    go_wp2_with fail
    refine S1.out.mono ?_
    rintro e w' ⟨rfl, rfl⟩
    go_wp2
    go_ret3
    exact E.out
  have T1 : Hid (Nm.tsize za ≤ 4096) := by show _ ≤ _; omega
  have x0 := hid (Nm.val_bd za ha.2.2.2.2).1
  have x1 := Shut.mk ((Nm.tsize_le_iff ha.2.2.2.2 4096).1 T1.out)
  obtain ⟨k, HK⟩ : ∃ k : Nat, Hid (kk = (k : Int)) := ⟨kk.toNat, by show _ = _; omega⟩
  have HKN : Hid (kk.toNat = k) := by have := HK.out; show _ = _; omega
  have NB : Hid (¬ (4096 < Nm.tsize za ∨ kk < 0)) := by show ¬ _; omega
  have DR : Hid (k ≤ 262144 → Calls Tryd.prog 53 #[.slice p n cap, .int .i64 kk] w fun e w' => ∃ r os, e = .returned (.slice r (List.length os) (List.length os)) ∧ Ans w.heap.size w' r os (Nm.val za / 2 ^ k) ∧ Below w.heap.size w w') := fun h => drop_any p n cap za kk k w ha (by have := T1.out; omega) HK.out h
  have FIN : Hid (∀ w' r os B, B = decide (Nm.val za % 2 ^ k ≠ 0) → Ans w.heap.size w' r os (Nm.val za / 2 ^ k) → Below w.heap.size w w' → ShrSays za kk w (.returned (.tuple #[.slice r (List.length os) (List.length os), .bool B, .int .i64 0])) w') := by
    intro w' r os B hB hA hb
    exact ⟨r, os, B, 0, rfl, .inr ⟨NB.out, rfl, by rw [HKN.out]; exact hB, by rw [HKN.out]; exact hA⟩, hb⟩
  clear ha h1
  go_enter Tryd.func24, Tryd.ntmps24
  go_wp2_with fail
  refine S1.out.mono ?_
  rintro e w' ⟨rfl, rfl⟩
  go_wp2_with fail
  refine (refBitLen_any p n cap za _ HA.out).mono ?_
  rintro e w2 ⟨⟨L, rfl, BL⟩, rfl⟩
  have HBL := hid BL
  have lL := blen_le BL x0.out x1.out
  clear BL
  by_cases hL : (L : Int) ≤ kk
  · have D : Hid (Below w2.heap.size w2 (w2.alloc (.cells #[] 25))) := (Below.refl _ _).alloc (Nat.le_refl _) _
    have hlt : Shut (Nm.val za < 2 ^ k) := ⟨by
      have := HBL.out.1
      have := Nm.two_mono (show L ≤ k by have := HK.out; omega)
      omega⟩
    have E := hid (FIN.out (w2.alloc (.cells #[] 25)) (some ⟨w2.heap.size, 0, none⟩) [] (decide (0 < L)) (by
      rw [Int.emod_eq_of_lt x0.out hlt.out, Bool.eq_iff_iff]
      simp only [decide_eq_true_eq]
      rcases (show Nm.val za = 0 ∨ 0 < Nm.val za by have := x0.out; omega) with h | h
      · have := HBL.out.2.1 h; omega
      · have := (HBL.out.2.2 h).1; omega) (by rw [Int.ediv_eq_zero_of_lt x0.out hlt.out]; exact Ans.none _ _ _ (fun a h => by cases h; exact Nat.le_refl _)) D.out)
    clear FIN DR
    go_wp2
    go_ret3
    exact E.out
  · have VP : Shut (0 < Nm.val za) := ⟨by
      rcases (show Nm.val za = 0 ∨ 0 < Nm.val za by have := x0.out; omega) with h | h
      · have := HBL.out.2.1 h; have := HK.out; omega
      · exact h⟩
    have hkb : k ≤ 262144 := by have := HK.out; omega
    have DR2 := hid (DR.out hkb)
    clear DR
    go_wp2_with fail
    refine DR2.out.mono ?_
    rintro e w3 ⟨r, os, rfl, hA, hb1⟩
    have AA := hid (HA.out.below hb1 (Nat.le_refl _))
    have E := hid (fun B h => FIN.out w3 r os B h hA hb1)
    clear hA hb1 FIN DR2
    go_wp2_with fail
    refine (refTrail_any p n cap za w3 AA.out).mono ?_
    rintro e w4 ⟨⟨t, rfl, TT⟩, rfl⟩
    have HTT := hid TT
    clear TT
    obtain ⟨B, hB⟩ : ∃ B, decide ((t : Int) < kk) = B := ⟨_, rfl⟩
    have E2 := hid (E.out B (by rw [← hB]; have := trl_lt (k := k) HTT.out VP.out; rw [HK.out]; exact this))
    clear E HTT
    go_wp2
    go_ret3
    exact E2.out

theorem shr_tell (p : Option Addr) (n cap : Nat) (za : List Int) (kk : Int) (w : World) (ha : Arg w p n cap za) (hT : Tab w) :
    Calls Tryd.prog 39 #[.slice p n cap, .int .i64 kk] w fun e w' => ShrSays za kk w e w' := by
  by_cases h : 4096 < Nm.tsize za ∨ kk < 0
  · refine (shr_bad p n cap za kk w ha h _ rfl).mono ?_
    rintro e w' ⟨rfl, rfl⟩
    exact ⟨none, [], false, shErr za, rfl, .inl ⟨h, rfl, rfl, rfl, rfl⟩, Below.refl _ _⟩
  · refine (shr_any p n cap za kk kk.toNat w ha hT (by omega) (by omega)).mono ?_
    rintro e w' ⟨r, os, rfl, A, hB⟩
    exact ⟨r, os, _, 0, rfl, .inr ⟨h, rfl, rfl, A⟩, hB⟩
end Go.Proofs.YtffkopijfelacaaDoor
