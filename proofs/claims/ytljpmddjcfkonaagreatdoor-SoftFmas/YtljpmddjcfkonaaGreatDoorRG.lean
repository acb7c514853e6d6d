/-
  Texts put together: Sub, XPlus, XAddL, XFma, XSpecF, YRef9.
-/
import Derived.Test.YtljpmddjcfkonaaGreatDoorRC
import Derived.Test.YtljpmddjcfkonaaGreatDoorRF
import Derived.Test.YtljpmddjcfkonaaGreatDoorSmall
import Derived.Test.YtljpmddjcfkonaaGreatDoorXPlusA
import Derived.Test.YtljpmddjcfkonaaGreatDoorXBox
import Derived.Test.YtljpmddjcfkonaaGreatDoorXNum
import Derived.Test.YtljpmddjcfkonaaGreatDoorIShiftA
import Derived.Test.YtljpmddjcfkonaaGreatDoorRA
namespace Go.Proofs.YtljpmddjcfkonaaGreatDoor
open Go.RowKit Go.Deep

set_option maxHeartbeats 1000000 in
theorem subFrom_any (g k : Nat) (zs : List Int) (q : Option Addr) (m cap : Nat) (ys : List Int) (w : World) (hk : zs.length = k) (hkm : k ≤ 35184372088832) (ho : Own w g zs) (hl : Nm.Limbs zs)
    (hm : ys.length = m) (hmk : m ≤ k) (hy : Lies w q ys) (hly : Nm.Limbs ys) (hq : 0 < ys.length → ∀ a, q = some a → a.block < g) (hT : 0 ≤ Nm.val zs - Nm.val ys) :
    Calls Tryz.prog 100 #[.slice (some ⟨g, 0, none⟩) k k, .slice q m cap] w fun e w' => e = .returned (.tuple #[]) ∧ Wrote g k (Nm.val zs - Nm.val ys) w w' := by
  rcases hy with rfl | ⟨b, off, rfl, hcell⟩
  · have hm0 : m = 0 := by simpa using hm.symm
    subst hm0
    have E : Wrote g k (Nm.val zs - Nm.val []) w w := ⟨zs, ho, hk, hl, by simp [Nm.val], Below.refl _ _, rfl⟩
    clear ho hl hT hq hm hk
    go_enter Tryz.func100, Tryz.ntmps100
    go_wp2
    refine wp_loop_rounds 1 ?_
    rw [rounds_succ]
    go_wp2
    refine wp_loop_rounds 1 ?_
    rw [rounds_succ]
    go_wp2
    go_end0
    exact ⟨rfl, E⟩
  · have hbg : 0 < ys.length → b < g := fun h => hq h _ rfl
    have I0 : AddInv g k w (Nm.val zs - Nm.val (ys.take 0)) 0 (-0) zs w := ⟨ho, hk, hl, by simp [Nm.val], Below.refl _ _, rfl⟩
    have HC : Hid (∀ i, i < ys.length → w.cell? ⟨b, off + i, none⟩ = some (.int .u64 (ys.getD i 0))) := hcell
    have HM : Hid (ys.length = m) := hm
    have HT : Hid (0 ≤ Nm.val zs - Nm.val ys) := hT
    have HY : Hid (Nm.Limbs ys) := hly
    clear hcell hm hT hly hq ho hk hl
    go_enter Tryz.func100, Tryz.ntmps100
    go_wp2
    go_loopw [4, 10] (fun c i wr => ∃ (j : Nat) (cc : Int) (os : List Int), j ≤ m ∧ i = .int .i64 j ∧ c = .int .u64 cc ∧ 0 ≤ cc ∧ cc ≤ 1 ∧ AddInv g k w (Nm.val zs - Nm.val (ys.take j)) j (-cc) os wr) (fun _ i _ => m - (intOf i).toNat)
    case atStart => exact ⟨0, 0, zs, Nat.zero_le _, rfl, rfl, by omega, by omega, I0⟩
    case round =>
      clear I0
      obtain ⟨j, cc, os, hj, rfl, rfl, hc0, hc1, I⟩ := hrel
      by_cases hlt : j < m
      · obtain ⟨x, hx, X⟩ : ∃ x, wr.cell? ⟨b, off + j, none⟩ = some (.int .u64 x) ∧ Hid (x = ys.getD j 0) :=
          ⟨_, (I.2.2.2.2.1.cell (p := ⟨b, off + j, none⟩) (hbg (by have := HM.out; omega))).trans (HC.out j (by have := HM.out; omega)), rfl⟩
        obtain ⟨y, hyc, Y⟩ : ∃ y, wr.cell? ⟨g, j, none⟩ = some (.int .u64 y) ∧ Hid (y = os.getD j 0) := ⟨_, I.1.cell j (by have := I.2.1; omega), rfl⟩
        have hfr := I.1.free j
        have hx0 := HY.out.at j
        rw [← X.out] at hx0
        obtain ⟨hx0, hx1⟩ := hx0
        have hy0 := I.2.2.1.at j
        rw [← Y.out] at hy0
        obtain ⟨hy0, hy1⟩ := hy0
        obtain ⟨s, c', hs, hc', E⟩ := sub_names y x cc hy0 hy1 hx0 hx1 hc0 hc1
        have hjk : (j : Int) < (k : Int) := by omega
        go_wp2_with (simp only [sub64' y x cc s c' hy0 hy1 hx0 hx1 hc0 hc1 hs hc' E.out])
        go_roundw
        case rel =>
          have hst := I.down (by omega) (x := -x) (s := s) (c' := -c') hs (by rw [← Y.out]; exact E.out)
          refine ⟨j + 1, c', os.set j s, by omega, by go_num, rfl, hc'.1, hc'.2, ?_⟩
          have e : Nm.val zs - Nm.val (ys.take (j + 1)) = Nm.val zs - Nm.val (ys.take j) + Nm.pw j * (-x) := by
            rw [Nm.val_take_succ ys j (by have := HM.out; omega), ← X.out, Int.mul_neg]
            omega
          rw [e]
          exact hst
        case measure => simp [intOf]; omega
      · have hjm : j = m := by omega
        subst hjm
        rw [List.take_of_length_le (by have := HM.out; omega)] at I
        go_wp2
        go_loopw [4, 7] (fun c i wr => ∃ (t : Nat) (cc : Int) (os : List Int), t ≤ k ∧ i = .int .i64 t ∧ c = .int .u64 cc ∧ 0 ≤ cc ∧ cc ≤ 1 ∧ AddInv g k w (Nm.val zs - Nm.val ys) t (-cc) os wr) (fun _ i _ => k - (intOf i).toNat)
        case atStart => exact ⟨j, cc, os, hmk, rfl, rfl, hc0, hc1, I⟩
        case round =>
          clear I hc0 hc1
          obtain ⟨t, cc, os, ht, rfl, rfl, hc0, hc1, I⟩ := hrel
          by_cases hz : cc = 0
          · subst hz
            have E : Wrote g k (Nm.val zs - Nm.val ys) w wr := ⟨os, I.1, I.2.1, I.2.2.1, by have := I.2.2.2.1; simp at this; omega, I.2.2.2.2.1, I.2.2.2.2.2⟩
            clear I
            go_wp2
            go_end0
            exact ⟨rfl, E⟩
          · have htk := I.stop HT.out (by omega)
            have htk' : (t : Int) < (k : Int) := by omega
            obtain ⟨y, hyc, Y⟩ : ∃ y, wr.cell? ⟨g, t, none⟩ = some (.int .u64 y) ∧ Hid (y = os.getD t 0) := ⟨_, I.1.cell t (by have := I.2.1; omega), rfl⟩
            have hfr := I.1.free t
            have hy0 := I.2.2.1.at t
            rw [← Y.out] at hy0
            obtain ⟨hy0, hy1⟩ := hy0
            obtain ⟨s, c', hs, hc', E⟩ := sub_names y 0 cc hy0 hy1 (by omega) (by omega) hc0 hc1
            go_wp2_with (simp only [sub64' y 0 cc s c' hy0 hy1 (Int.le_refl 0) (by decide) hc0 hc1 hs hc' E.out])
            go_roundw
            case rel =>
              have hst := I.down (by omega) (x := -0) (s := s) (c' := -c') hs (by rw [← Y.out]; exact E.out)
              rw [Int.neg_zero, Int.mul_zero, Int.add_zero] at hst
              exact ⟨t + 1, c', os.set t s, by omega, by go_num, rfl, hc'.1, hc'.2, hst⟩
            case measure => simp [intOf]; omega

theorem Arg.trim {w : World} {p : Option Addr} {n cap : Nat} {zs : List Int} (h : Arg w p n cap zs) : Arg w p (Nm.tsize zs) (Nm.tsize zs) (Nm.trim zs) :=
  ⟨Nm.trim_length zs, Nat.le_refl _, by have := h.tl; have := h.2.1; have := h.2.2.1; omega, h.2.2.2.1.trim, h.2.2.2.2.trim⟩

set_option maxHeartbeats 1000000 in
theorem sub_ok (p q : Option Addr) (n cap m cap' : Nat) (zs ys : List Int) (w : World) (ha : Arg w p n cap zs) (hb : Arg w q m cap' ys) (tz : Nm.tsize zs ≤ 4096) (hle : Nm.val ys ≤ Nm.val zs) :
    Calls Tryz.prog 71 #[.slice p n cap, .slice q m cap'] w fun e w' => ∃ r os, e = .returned (.tuple #[.slice r (List.length os) (List.length os), .int .i64 0]) ∧ Ans w.heap.size w' r os (Nm.val zs - Nm.val ys) ∧ Below w.heap.size w w' := by
  have hs : Nm.val zs < Nm.pw 4096 := (Nm.tsize_le_iff ha.2.2.2.2 4096).1 tz
  have y0 := (Nm.val_bd ys hb.2.2.2.2).1
  have ty : Nm.tsize ys ≤ 4096 := (Nm.tsize_le_iff hb.2.2.2.2 4096).2 (by omega)
  have tyz : Nm.tsize ys ≤ Nm.tsize zs := by
    have h1 := Nm.val_lt_tsize ha.2.2.2.2
    exact (Nm.tsize_le_iff hb.2.2.2.2 _).2 (by omega)
  have AT := hid ha.trim
  have BT := hid hb.trim
  obtain ⟨a1, a2, a3, a4, a5⟩ := ha
  obtain ⟨b1, b2, b3, b4, b5⟩ := hb
  obtain ⟨c, C⟩ : ∃ c, Hid (cmpI (Nm.val (Nm.trim zs)) (Nm.val (Nm.trim ys)) = c) := ⟨_, rfl⟩
  have hc : ¬ c < 0 := by
    rw [← C.out, Nm.val_trim, Nm.val_trim]
    unfold cmpI
    rw [if_neg (by omega)]
    split <;> omega
  have V : Hid (Nm.val (Nm.trim zs) - Nm.val (Nm.trim ys) = Nm.val zs - Nm.val ys) := by rw [Hid, Nm.val_trim, Nm.val_trim]
  have HS : Hid (0 ≤ Nm.val (Nm.trim zs) - Nm.val (Nm.trim ys) ∧ Nm.val (Nm.trim zs) - Nm.val (Nm.trim ys) < Nm.pw 4096) := by rw [Hid, Nm.val_trim, Nm.val_trim]; omega
  clear hs y0 hle
  go_enter Tryz.func71, Tryz.ntmps71
  go_wp2_with fail
  refine (pair_ok p q n cap m cap' zs ys _ a1 a2 (by omega) a4 tz b1 b2 (by omega) b4 ty).mono ?_
  rintro e w' ⟨rfl, rfl⟩
  go_wp2_with fail
  refine (cmp_is c p q _ _ _ _ (Nm.trim zs) (Nm.trim ys) _ AT.out BT.out C.out).mono ?_
  rintro e w1 ⟨rfl, hb1⟩
  have D1 := hid hb1
  clear hb1
  go_wp2_with fail
  refine (widened_any p (Nm.tsize zs) (Nm.tsize zs) 0 0 (Nm.trim zs) _ rfl (Nm.trim_length zs) (by omega) (AT.out.below D1.out (Nat.le_refl _)).2.2.2.1).mono ?_
  rintro e w2 ⟨rfl, ho, hb1, hz1⟩
  rw [List.replicate_zero, List.append_nil] at ho
  have HO := hid ho
  have D2 := hid hb1
  have S1 := hid D1.out.size
  clear ho hb1 hz1
  go_wp2_with fail
  refine (subFrom_any w1.heap.size (Nm.tsize zs) (Nm.trim zs) q (Nm.tsize ys) (Nm.tsize ys) (Nm.trim ys) _ (Nm.trim_length zs) (by omega) HO.out a5.trim (Nm.trim_length ys) tyz ((BT.out.below D1.out (Nat.le_refl _)).2.2.2.1.below D2.out (Nat.le_refl _)) b5.trim (fun h0 => (BT.out.below D1.out (Nat.le_refl _)).2.2.2.1.lt h0) HS.out.1).mono ?_
  rintro e w3 ⟨rfl, hw⟩
  obtain ⟨os, o1, o2, o3, o4, o5, o6⟩ := hw
  have HO3 := hid o1
  have O4 := hid o4
  have HB2 := hid o5
  clear o1 o4 o5 o6
  go_wp2_with fail
  refine (limited_own w1.heap.size (Nm.tsize zs) os _ o2 (by omega) HO3.out o3 w'.heap.size S1.out (by rw [O4.out]; exact HS.out.2)).mono ?_
  rintro e w4 ⟨r, xs, rfl, hans, rfl⟩
  rw [O4.out, V.out] at hans
  have HA := hid hans
  clear hans
  go_wp2_with fail
  go_ret2
  exact ⟨r, xs, rfl, HA.out, D1.out.trans ((D2.out.trans HB2.out).mono S1.out)⟩

set_option maxHeartbeats 1000000 in
theorem sub_below (p q : Option Addr) (n cap m cap' : Nat) (zs ys : List Int) (w : World) (ha : Arg w p n cap zs) (hb : Arg w q m cap' ys) (tz : Nm.tsize zs ≤ 4096) (ty : Nm.tsize ys ≤ 4096) (hlt : Nm.val zs < Nm.val ys) :
    Calls Tryz.prog 71 #[.slice p n cap, .slice q m cap'] w fun e w' => e = .returned (.tuple #[.slice none 0 0, .int .i64 10]) ∧ Below w.heap.size w w' := by
  have AT := hid ha.trim
  have BT := hid hb.trim
  obtain ⟨a1, a2, a3, a4, a5⟩ := ha
  obtain ⟨b1, b2, b3, b4, b5⟩ := hb
  have C := hid (cmpI_lt hlt)
  rw [← Nm.val_trim zs, ← Nm.val_trim ys] at C
  clear hlt
  go_enter Tryz.func71, Tryz.ntmps71
  go_wp2_with fail
  refine (pair_ok p q n cap m cap' zs ys _ a1 a2 (by omega) a4 tz b1 b2 (by omega) b4 ty).mono ?_
  rintro e w' ⟨rfl, rfl⟩
  go_wp2_with fail
  refine (cmp_is _ p q _ _ _ _ (Nm.trim zs) (Nm.trim ys) _ AT.out BT.out C.out).mono ?_
  rintro e w1 ⟨rfl, hb1⟩
  have D1 := hid hb1
  clear hb1
  go_wp2_with fail
  go_ret2
  exact ⟨rfl, D1.out⟩
end Go.Proofs.YtljpmddjcfkonaaGreatDoor

/-
  soft: plus.
-/
namespace Go.Proofs.YtljpmddjcfkonaaGreatDoor
open Go Go.RowKit Go.Deep

set_option maxRecDepth 100000 in
set_option maxHeartbeats 8000000 in
theorem plus_at (n1 n2 m1 m2 : Bool) (p1 p2 : Option Addr) (l1 c1 l2 c2 : Nat) (z1 z2 : List Int) (e1 e2 V1 V2 : Int) (w : World) (a1 : Arg w p1 l1 c1 z1) (a2 : Arg w p2 l2 c2 z2) (hV1 : Nm.val z1 = V1) (hV2 : Nm.val z2 = V2) (b1 : V1 < 2 ^ 200) (b2 : V2 < 2 ^ 200)
    (q1 : -2200 ≤ e1) (q2 : e1 ≤ 2000) (q3 : -2200 ≤ e2) (q4 : e2 ≤ 2000) (m : Int) (k1 k2 : Nat) (hm : min e1 e2 = m) (hk1 : (k1 : Int) = e1 - m) (hk2 : (k2 : Int) = e2 - m) :
    Calls Tryz.prog 35 #[exactOf n1 p1 l1 c1 e1 m1, exactOf n2 p2 l2 c2 e2 m2] w fun e w' => PlusTold n1 V1 e1 n2 V2 e2 w e w' := by
  have kk : k1 ≤ 4200 ∧ k2 ≤ 4200 := by omega
  have v1 : 0 ≤ V1 := by rw [← hV1]; exact (Nm.val_bd z1 a1.2.2.2.2).1
  have v2 : 0 ≤ V2 := by rw [← hV2]; exact (Nm.val_bd z2 a2.2.2.2.2).1
  have u1 := Ie.up_lt b1 kk.1
  have u2 := Ie.up_lt b2 kk.2
  have x1 : 0 ≤ V1 * 2 ^ k1 := Int.mul_nonneg v1 (by have := Nm.two_pos k1; omega)
  have x2 : 0 ≤ V2 * 2 ^ k2 := Int.mul_nonneg v2 (by have := Nm.two_pos k2; omega)
  have e4096 := pw_4096
  have big := Nm.two_mono (show 4401 ≤ 262144 by omega)
  have two : (2 : Int) ^ 4401 = 2 * 2 ^ 4400 := Nm.two_succ 4400
  have five := Nm.two_mono (show 4401 ≤ 5000 by omega)
  have t1 : Nm.tsize z1 ≤ 4096 := (Nm.tsize_le_iff a1.2.2.2.2 4096).2 (by rw [hV1]; have := Nm.two_mono (show 200 ≤ 4400 by omega); omega)
  have t2 : Nm.tsize z2 ≤ 4096 := (Nm.tsize_le_iff a2.2.2.2.2 4096).2 (by rw [hV2]; have := Nm.two_mono (show 200 ≤ 4400 by omega); omega)
  have S1 : Hid (∀ (wx : World) (d : Int), Below w.heap.size w wx → d = e1 - m → Calls Tryz.prog 68 #[.slice p1 l1 c1, .int .i64 d] wx fun e w' => ∃ r os, e = .returned (.tuple #[.slice r (List.length os) (List.length os), .int .i64 0]) ∧ Ans wx.heap.size w' r os (V1 * 2 ^ k1) ∧ Below wx.heap.size wx w') := by
    intro wx d hx hd
    have := shl_any p1 l1 c1 z1 d k1 wx (a1.below hx (Nat.le_refl _)) t1 (by omega) (by rw [hV1]; omega)
    rw [hV1] at this
    exact this
  have S2 : Hid (∀ (wx : World) (d : Int), Below w.heap.size w wx → d = e2 - m → Calls Tryz.prog 68 #[.slice p2 l2 c2, .int .i64 d] wx fun e w' => ∃ r os, e = .returned (.tuple #[.slice r (List.length os) (List.length os), .int .i64 0]) ∧ Ans wx.heap.size w' r os (V2 * 2 ^ k2) ∧ Below wx.heap.size wx w') := by
    intro wx d hx hd
    have := shl_any p2 l2 c2 z2 d k2 wx (a2.below hx (Nat.le_refl _)) t2 (by omega) (by rw [hV2]; omega)
    rw [hV2] at this
    exact this
  have FIN : Hid (∀ (w3 : World) (neg : Bool) (p : Option Addr) (os : List Int) (V x : Int) (x0 x1 x2 x3 y0 y1 y2 y3 : Value), Box w w3 x0 x1 x2 x3 y0 y1 y2 y3 → Ans (w.heap.size + 3) w3 p os V → Ie.SumIs n1 V1 e1 n2 V2 e2 neg V x →
      PlusTold n1 V1 e1 n2 V2 e2 w (.returned (exactOf neg p (List.length os) (List.length os) x false)) ((((w3.setCell ⟨w.heap.size + 2, 0, none⟩ (.bool neg)).setCell ⟨w.heap.size + 2, 1, none⟩ (.slice p os.length os.length)).setCell ⟨w.heap.size + 2, 2, none⟩ (.int .i64 x)).setCell ⟨w.heap.size + 2, 3, none⟩ (.bool false))) := by
    intro w3 neg p os V x x0 x1 x2 x3 y0 y1 y2 y3 hb A hS
    have A' := A.set4 (b := w.heap.size + 2) (u0 := .bool neg) (u1 := .slice p os.length os.length) (u2 := .int .i64 x) (u3 := .bool false) (by omega)
    exact ⟨neg, p, os, V, x, rfl, ⟨A'.1, A'.2.1, A'.2.2.1, A'.2.2.2.1, fun a h => by have := A'.2.2.2.2 a h; omega⟩, set4_below hb.2.1 (by omega), hS⟩
  have B0 := Box.new w (.bool n1) (.slice p1 l1 c1) (.int .i64 e1) (.bool m1) (.bool n2) (.slice p2 l2 c2) (.int .i64 e2) (.bool m2)
  have SA : Hid (∀ (neg : Bool) (V : Int), Ie.sn neg V = Ie.sn n1 (V1 * 2 ^ k1) + Ie.sn n2 (V2 * 2 ^ k2) → (V = 0 → neg = (n1 && n2)) → 0 ≤ V → V < 2 ^ 5000 → Ie.SumIs n1 V1 e1 n2 V2 e2 neg V m) := fun neg V h h0 h1 h2 => Ie.sum_at hm hk1 hk2 h h0 h1 h2
  have SN : Hid (n1 ≠ n2 → V1 * 2 ^ k1 = V2 * 2 ^ k2 → Ie.SumIs n1 V1 e1 n2 V2 e2 false 0 0) := fun h h' => Ie.sum_none hm hk1 hk2 h h'
  have U1 := hid u1
  have U2 := hid u2
  have BG : Hid ((V1 * 2 ^ k1 + V2 * 2 ^ k2 < Nm.pw 4096 ∧ V1 * 2 ^ k1 + V2 * 2 ^ k2 < 2 ^ 5000) ∧ (V1 * 2 ^ k1 < 2 ^ 5000 ∧ V2 * 2 ^ k2 < 2 ^ 5000)) := by
    have e : (2 : Int) ^ (200 + 4200) = 2 ^ 4400 := rfl
    rw [e] at u1 u2
    refine ⟨⟨?_, ?_⟩, ?_, ?_⟩ <;> omega
  clear hV1 hV2 b1 b2 a1 a2 v1 v2 kk u1 u2 big two five t1 t2 e4096 hk1 hk2
  generalize hX1 : V1 * 2 ^ k1 = X1 at *
  generalize hX2 : V2 * 2 ^ k2 = X2 at *
  clear hX1 hX2
  simp only [exactOf]
  by_cases hn : n1 = n2
  · subst hn
    have nn : (n1 == n1) = true := by simp
    go_enter Tryz.func35, Tryz.ntmps35
    go_wp2_with fail
    refine (S1.out _ _ B0.2.1 (by omega)).mono ?_
    rintro e wa ⟨r1, o1, rfl, A1, hB1⟩
    have Ba := B0.on hB1
    obtain ⟨⟨cx0, cx1, cx2⟩, ⟨cy0, cy1, cy2⟩, -⟩ := Ba.cells
    have s0 := B0.2.2
    have AA := hid A1
    clear hB1 A1 S1
    go_wp2_with fail
    refine (S2.out _ _ Ba.2.1 (by omega)).mono ?_
    rintro e wb ⟨r2, o2, rfl, A2, hB2⟩
    have Bb := Ba.on hB2
    have A1 := AA.out.below hB2 (Nat.le_refl _)
    have sa := Ba.2.2
    obtain ⟨⟨h1, h2⟩, h3, h4⟩ := BG.out
    obtain ⟨t1, l1', y1⟩ := A1.tl U1.out (by omega)
    obtain ⟨t2, l2', y2⟩ := A2.tl U2.out (by omega)
    clear cx0 cx1 cx2 cy0 cy1 cy2
    obtain ⟨⟨cx0, cx1, cx2⟩, ⟨cy0, cy1, cy2⟩, -⟩ := Bb.cells
    have g1 := A1.arg (by omega)
    have g2 := A2.arg (by omega)
    have CC := hid (add_ok r1 r2 _ _ _ _ o1 o2 wb g1 g2 (by rw [A1.2.2.2.1, A2.2.2.2.1]; omega))
    rw [A1.2.2.2.1, A2.2.2.2.1] at CC
    have HH := hid (And.intro h2 (And.intro h3 h4))
    have BB := hid Bb
    have SS := hid (And.intro s0 sa)
    clear S2 hB2 A1 A2 AA Ba Bb U1 U2 BG t1 t2 l1' l2' y1 y2 g1 g2 h1 h2 h3 h4 s0 sa B0
    go_wp2_with fail
    refine CC.out.mono ?_
    rintro e wc ⟨r3, o3, rfl, A3, hB3⟩
    have Bc := BB.out.on hB3
    have KF := FIN.out wc n1 r3 o3 (X1 + X2) m _ _ _ _ _ _ _ _ Bc ⟨A3.1, A3.2.1, A3.2.2.1, A3.2.2.2.1, fun a h => by have := A3.2.2.2.2 a h; have := BB.out.2.2; omega⟩ (SA.out n1 (X1 + X2) (by cases n1 <;> simp only [Ie.sn, Bool.false_eq_true, if_true, if_false] <;> omega) (fun _ => by simp) (by omega) HH.out.1)
    clear A3 hB3 CC BB cx0 cx1 cx2 cy0 cy1 cy2
    obtain ⟨⟨cx0, cx1, cx2⟩, ⟨cy0, cy1, cy2⟩, ⟨⟨r0, r1', r2', r3⟩, ⟨f0, f1, f2, f3⟩⟩⟩ := Bc.cells
    have RR := hid Bc.1.2.2
    have KK := hid KF
    clear Bc KF
    go_wp2_with fail
    (try simp only [Exit.inBlock, Exit.then])
    refine bodyPost_ret (results_cell_row rfl _ _ (w.heap.size + 2) 54 _ (0, 0) _ rfl (Row4.set RR.out) Tryz.underlying54 rfl (by kernel_rfl)) rfl ?_
    exact KK.out
  · have nn : (n1 == n2) = false := by rw [beq_eq_false_iff_ne]; exact hn
    rcases (show X2 < X1 ∨ X1 < X2 ∨ X1 = X2 by omega) with ho | ho | ho
    · have CI : cmpI X1 X2 = 1 := cmpI_gt ho
      go_enter Tryz.func35, Tryz.ntmps35
      go_wp2_with fail
      refine (S1.out _ _ B0.2.1 (by omega)).mono ?_
      rintro e wa ⟨r1, o1, rfl, A1, hB1⟩
      have Ba := B0.on hB1
      obtain ⟨⟨cx0, cx1, cx2⟩, ⟨cy0, cy1, cy2⟩, -⟩ := Ba.cells
      have s0 := B0.2.2
      have AA := hid A1
      clear hB1 A1 S1
      go_wp2_with fail
      refine (S2.out _ _ Ba.2.1 (by omega)).mono ?_
      rintro e wb ⟨r2, o2, rfl, A2, hB2⟩
      have Bb := Ba.on hB2
      have A1 := AA.out.below hB2 (Nat.le_refl _)
      have sa := Ba.2.2
      obtain ⟨⟨h1, h2⟩, h3, h4⟩ := BG.out
      obtain ⟨t1, l1', y1⟩ := A1.tl U1.out (by omega)
      obtain ⟨t2, l2', y2⟩ := A2.tl U2.out (by omega)
      clear cx0 cx1 cx2 cy0 cy1 cy2
      obtain ⟨⟨cx0, cx1, cx2⟩, ⟨cy0, cy1, cy2⟩, -⟩ := Bb.cells
      have g1 := A1.arg (by omega)
      have g2 := A2.arg (by omega)
      have C0 := hid (cmp_is (cmpI X1 X2) r1 r2 _ _ _ _ o1 o2 wb g1 g2 (by rw [A1.2.2.2.1, A2.2.2.2.1]))
      rw [CI] at C0
      have CC := hid (fun (wx : World) (hx : Below wb.heap.size wb wx) => sub_ok r1 r2 _ _ _ _ o1 o2 wx (g1.below hx (Nat.le_refl _)) (g2.below hx (Nat.le_refl _)) t1 (by rw [A1.2.2.2.1, A2.2.2.2.1]; omega))
      rw [A1.2.2.2.1, A2.2.2.2.1] at CC
      have HH := hid (And.intro h2 (And.intro h3 h4))
      have BB := hid Bb
      have SS := hid (And.intro s0 sa)
      clear S2 hB2 A1 A2 AA Ba Bb U1 U2 BG t1 t2 l1' l2' y1 y2 g1 g2 h1 h2 h3 h4 s0 sa B0 CI
      go_wp2_with fail
      refine C0.out.mono ?_
      rintro e wz ⟨rfl, hBz⟩
      have Bz := BB.out.on hBz
      have C1 := hid (CC.out wz hBz)
      have ZZ := hid Bz
      clear CC hBz Bz BB cx0 cx1 cx2 cy0 cy1 cy2
      go_wp2_with fail
      refine C1.out.mono ?_
      rintro e wc ⟨r3, o3, rfl, A3, hB3⟩
      have Bc := ZZ.out.on hB3
      have KF := FIN.out wc n1 r3 o3 (X1 - X2) m _ _ _ _ _ _ _ _ Bc ⟨A3.1, A3.2.1, A3.2.2.1, A3.2.2.2.1, fun a h => by have := A3.2.2.2.2 a h; have := ZZ.out.2.2; omega⟩ (SA.out n1 (X1 - X2) (by cases n1 <;> cases n2 <;> simp only [Ie.sn, Bool.false_eq_true, if_true, if_false] <;> first | exact absurd rfl hn | omega) (fun h => by omega) (by omega) (by have := HH.out; omega))
      clear A3 hB3 C1 ZZ C0
      obtain ⟨⟨cx0, cx1, cx2⟩, ⟨cy0, cy1, cy2⟩, ⟨⟨r0, r1', r2', r3⟩, ⟨f0, f1, f2, f3⟩⟩⟩ := Bc.cells
      have RR := hid Bc.1.2.2
      have KK := hid KF
      clear Bc KF
      go_wp2_with fail
      (try simp only [Exit.inBlock, Exit.then])
      refine bodyPost_ret (results_cell_row rfl _ _ (w.heap.size + 2) 54 _ (0, 0) _ rfl (Row4.set RR.out) Tryz.underlying54 rfl (by kernel_rfl)) rfl ?_
      exact KK.out
    · have CI : cmpI X1 X2 = -1 := cmpI_lt ho
      go_enter Tryz.func35, Tryz.ntmps35
      go_wp2_with fail
      refine (S1.out _ _ B0.2.1 (by omega)).mono ?_
      rintro e wa ⟨r1, o1, rfl, A1, hB1⟩
      have Ba := B0.on hB1
      obtain ⟨⟨cx0, cx1, cx2⟩, ⟨cy0, cy1, cy2⟩, -⟩ := Ba.cells
      have s0 := B0.2.2
      have AA := hid A1
      clear hB1 A1 S1
      go_wp2_with fail
      refine (S2.out _ _ Ba.2.1 (by omega)).mono ?_
      rintro e wb ⟨r2, o2, rfl, A2, hB2⟩
      have Bb := Ba.on hB2
      have A1 := AA.out.below hB2 (Nat.le_refl _)
      have sa := Ba.2.2
      obtain ⟨⟨h1, h2⟩, h3, h4⟩ := BG.out
      obtain ⟨t1, l1', y1⟩ := A1.tl U1.out (by omega)
      obtain ⟨t2, l2', y2⟩ := A2.tl U2.out (by omega)
      clear cx0 cx1 cx2 cy0 cy1 cy2
      obtain ⟨⟨cx0, cx1, cx2⟩, ⟨cy0, cy1, cy2⟩, -⟩ := Bb.cells
      have g1 := A1.arg (by omega)
      have g2 := A2.arg (by omega)
      have C0 := hid (cmp_is (cmpI X1 X2) r1 r2 _ _ _ _ o1 o2 wb g1 g2 (by rw [A1.2.2.2.1, A2.2.2.2.1]))
      rw [CI] at C0
      have CC := hid (fun (wx : World) (hx : Below wb.heap.size wb wx) => sub_ok r2 r1 _ _ _ _ o2 o1 wx (g2.below hx (Nat.le_refl _)) (g1.below hx (Nat.le_refl _)) t2 (by rw [A1.2.2.2.1, A2.2.2.2.1]; omega))
      rw [A1.2.2.2.1, A2.2.2.2.1] at CC
      have HH := hid (And.intro h2 (And.intro h3 h4))
      have BB := hid Bb
      have SS := hid (And.intro s0 sa)
      clear S2 hB2 A1 A2 AA Ba Bb U1 U2 BG t1 t2 l1' l2' y1 y2 g1 g2 h1 h2 h3 h4 s0 sa B0 CI
      go_wp2_with fail
      refine C0.out.mono ?_
      rintro e wz ⟨rfl, hBz⟩
      have Bz := BB.out.on hBz
      have C1 := hid (CC.out wz hBz)
      have ZZ := hid Bz
      clear CC hBz Bz BB cx0 cx1 cx2 cy0 cy1 cy2
      go_wp2_with fail
      refine C1.out.mono ?_
      rintro e wc ⟨r3, o3, rfl, A3, hB3⟩
      have Bc := ZZ.out.on hB3
      have KF := FIN.out wc n2 r3 o3 (X2 - X1) m _ _ _ _ _ _ _ _ Bc ⟨A3.1, A3.2.1, A3.2.2.1, A3.2.2.2.1, fun a h => by have := A3.2.2.2.2 a h; have := ZZ.out.2.2; omega⟩ (SA.out n2 (X2 - X1) (by cases n1 <;> cases n2 <;> simp only [Ie.sn, Bool.false_eq_true, if_true, if_false] <;> first | exact absurd rfl hn | omega) (fun h => by omega) (by omega) (by have := HH.out; omega))
      clear A3 hB3 C1 ZZ C0
      obtain ⟨⟨cx0, cx1, cx2⟩, ⟨cy0, cy1, cy2⟩, ⟨⟨r0, r1', r2', r3⟩, ⟨f0, f1, f2, f3⟩⟩⟩ := Bc.cells
      have RR := hid Bc.1.2.2
      have KK := hid KF
      clear Bc KF
      go_wp2_with fail
      (try simp only [Exit.inBlock, Exit.then])
      refine bodyPost_ret (results_cell_row rfl _ _ (w.heap.size + 2) 54 _ (0, 0) _ rfl (Row4.set RR.out) Tryz.underlying54 rfl (by kernel_rfl)) rfl ?_
      exact KK.out
    · have CI : cmpI X1 X2 = 0 := cmpI_eq ho
      go_enter Tryz.func35, Tryz.ntmps35
      go_wp2_with fail
      refine (S1.out _ _ B0.2.1 (by omega)).mono ?_
      rintro e wa ⟨r1, o1, rfl, A1, hB1⟩
      have Ba := B0.on hB1
      obtain ⟨⟨cx0, cx1, cx2⟩, ⟨cy0, cy1, cy2⟩, -⟩ := Ba.cells
      have s0 := B0.2.2
      have AA := hid A1
      clear hB1 A1 S1
      go_wp2_with fail
      refine (S2.out _ _ Ba.2.1 (by omega)).mono ?_
      rintro e wb ⟨r2, o2, rfl, A2, hB2⟩
      have Bb := Ba.on hB2
      have A1 := AA.out.below hB2 (Nat.le_refl _)
      have sa := Ba.2.2
      obtain ⟨⟨h1, h2⟩, h3, h4⟩ := BG.out
      obtain ⟨t1, l1', y1⟩ := A1.tl U1.out (by omega)
      obtain ⟨t2, l2', y2⟩ := A2.tl U2.out (by omega)
      clear cx0 cx1 cx2 cy0 cy1 cy2
      obtain ⟨⟨cx0, cx1, cx2⟩, ⟨cy0, cy1, cy2⟩, -⟩ := Bb.cells
      have g1 := A1.arg (by omega)
      have g2 := A2.arg (by omega)
      have C0 := hid (cmp_is (cmpI X1 X2) r1 r2 _ _ _ _ o1 o2 wb g1 g2 (by rw [A1.2.2.2.1, A2.2.2.2.1]))
      rw [CI] at C0
      have HH := hid (And.intro h2 (And.intro h3 h4))
      have BB := hid Bb
      have SS := hid (And.intro s0 sa)
      clear S2 hB2 A1 A2 AA Ba Bb U1 U2 BG t1 t2 l1' l2' y1 y2 g1 g2 h1 h2 h3 h4 s0 sa B0 CI
      go_wp2_with fail
      refine C0.out.mono ?_
      rintro e wz ⟨rfl, hBz⟩
      have Bz := BB.out.on hBz
      have Bc := Bz
      have KF := FIN.out wz false none [] 0 0 _ _ _ _ _ _ _ _ Bc ⟨Lies.nil _ _, Nm.Limbs.nil, rfl, rfl, fun a h => by cases h⟩ (SN.out hn ho)
      clear BB Bz hBz cx0 cx1 cx2 cy0 cy1 cy2 C0
      obtain ⟨⟨cx0, cx1, cx2⟩, ⟨cy0, cy1, cy2⟩, ⟨⟨r0, r1', r2', r3⟩, ⟨f0, f1, f2, f3⟩⟩⟩ := Bc.cells
      have RR := hid Bc.1.2.2
      have KK := hid KF
      clear Bc KF
      go_wp2_with fail
      (try simp only [Exit.inBlock, Exit.then])
      refine bodyPost_ret (results_cell_row rfl _ _ (w.heap.size + 2) 54 _ (0, 0) _ rfl (Row4.set RR.out) Tryz.underlying54 rfl (by kernel_rfl)) rfl ?_
      exact KK.out

theorem xplus_any (n1 n2 m1 m2 : Bool) (p1 p2 : Option Addr) (l1 c1 l2 c2 : Nat) (z1 z2 : List Int) (e1 e2 V1 V2 : Int) (w : World) (a1 : Arg w p1 l1 c1 z1) (a2 : Arg w p2 l2 c2 z2) (hV1 : Nm.val z1 = V1) (hV2 : Nm.val z2 = V2) (b1 : V1 < 2 ^ 200) (b2 : V2 < 2 ^ 200)
    (q1 : -2200 ≤ e1) (q2 : e1 ≤ 2000) (q3 : -2200 ≤ e2) (q4 : e2 ≤ 2000) :
    Calls Tryz.prog 35 #[exactOf n1 p1 l1 c1 e1 m1, exactOf n2 p2 l2 c2 e2 m2] w fun e w' => PlusTold n1 V1 e1 n2 V2 e2 w e w' :=
  plus_at n1 n2 m1 m2 p1 p2 l1 c1 l2 c2 z1 z2 e1 e2 V1 V2 w a1 a2 hV1 hV2 b1 b2 q1 q2 q3 q4 (min e1 e2) (e1 - min e1 e2).toNat (e2 - min e1 e2).toNat rfl (by omega) (by omega)
end Go.Proofs.YtljpmddjcfkonaaGreatDoor

/-
  soft: add, sub, Add, Sub.
-/
namespace Go.Proofs.YtljpmddjcfkonaaGreatDoor
open Go Go.RowKit Go.Deep

set_option maxRecDepth 100000 in
set_option maxHeartbeats 4000000 in
theorem add_fin (a b : Int) (w : World) (a0 : 0 ≤ a) (a1 : a < 18446744073709551616) (b0 : 0 ≤ b) (b1 : b < 18446744073709551616) (hT : Tab w) (na : Ie.isn a = false) (ia : Ie.isi a = false) (nb : Ie.isn b = false) (ib : Ie.isi b = false) :
    Calls Tryz.prog 32 #[.int .u64 a, .int .u64 b] w fun e w' => Told2 (Ie.AddIs a b) w e w' := by
  have fa := Ie.fin_of na ia
  have fb := Ie.fin_of nb ib
  have FI : Hid (∀ (neg : Bool) (V e r f : Int), Ie.SumIs (Ie.ngd a) (Ie.dm a) (Ie.de a) (Ie.ngd b) (Ie.dm b) (Ie.de b) neg V e → Ie.Res neg V e false r f → Ie.AddIs a b r f) := by
    intro neg V e r f h1 h2
    rw [Ie.AddIs, na, nb, ia, ib]
    simp only [Bool.false_eq_true, or_self, false_and, if_false]
    exact ⟨neg, V, e, h1, h2⟩
  have NA := hid (fun (wx : World) => nan_any a wx a0 a1)
  rw [na] at NA
  have NB := hid (fun (wx : World) => nan_any b wx b0 b1)
  rw [nb] at NB
  have IA := hid (fun (wx : World) => infinite_any a wx a0 a1)
  rw [ia] at IA
  have IB := hid (fun (wx : World) => infinite_any b wx b0 b1)
  rw [ib] at IB
  obtain ⟨⟨da0, da1⟩, ⟨ea0, ea1⟩, -, -⟩ := Ie.dec_f a fa
  obtain ⟨⟨db0, db1⟩, ⟨eb0, eb1⟩, -, -⟩ := Ie.dec_f b fb
  have e60 : (2 : Int) ^ 60 = 1152921504606846976 := by decide
  have da2 : Ie.dm a < 2 ^ 60 := by omega
  have db2 : Ie.dm b < 2 ^ 60 := by omega
  have UA := hid (fun (wx : World) => number_any a wx a0 a1 fa)
  have UB := hid (fun (wx : World) => number_any b wx b0 b1 fb)
  have e200 := Nm.two_mono (show 60 ≤ 200 by omega)
  have HT := hid hT
  clear fa fb na nb ia ib hT
  have RU : Hid (∀ (w2 : World) (pa pb : Option Addr) (oa ob : List Int) (B B' : Nat), Below w.heap.size w w2 → Ans B w2 pa oa (Ie.dm a) → Ans B' w2 pb ob (Ie.dm b) → Calls Tryz.prog 35 #[exactOf (Ie.ngd a) pa oa.length oa.length (Ie.de a) false, exactOf (Ie.ngd b) pb ob.length ob.length (Ie.de b) false] w2 fun e w' => PlusTold (Ie.ngd a) (Ie.dm a) (Ie.de a) (Ie.ngd b) (Ie.dm b) (Ie.de b) w2 e w') := by
    intro w2 pa pb oa ob B B' hB A1 A2
    exact xplus_any _ _ _ _ _ _ _ _ _ _ oa ob _ _ _ _ w2 (A1.arg (by have := A1.tl da2 (show 60 ≤ 262144 by omega); omega)) (A2.arg (by have := A2.tl db2 (show 60 ≤ 262144 by omega); omega)) A1.2.2.2.1 A2.2.2.2.1 (by omega) (by omega) (by omega) (by omega) (by omega) (by omega)
  have RO : Hid (∀ (w3 : World) (neg : Bool) (p : Option Addr) (os : List Int) (V e : Int) (B : Nat), Below w.heap.size w w3 → Ans B w3 p os V → Ie.SumIs (Ie.ngd a) (Ie.dm a) (Ie.de a) (Ie.ngd b) (Ie.dm b) (Ie.de b) neg V e → Calls Tryz.prog 36 #[exactOf neg p os.length os.length e false] w3 fun r w' => RoundedTold neg V e false w3 r w') := by
    intro w3 neg p os V e B hB A hS
    have vb := hS.2.2.1.2
    have eb : -10000 ≤ e ∧ e ≤ 10000 := by rcases hS.1 with h | ⟨_, h⟩ <;> omega
    exact rounded_any neg false p _ _ os e V w3 (A.arg (by have := A.tl vb (show 5000 ≤ 262144 by omega); omega)) (HT.out.below hB) A.2.2.2.1 A.len0 vb eb.1 eb.2
  clear da0 da1 ea0 ea1 db0 db1 eb0 eb1 e60 da2 db2 e200 HT
  go_enter Tryz.func32, Tryz.ntmps32
  go_wp2_with fail
  refine (NA.out _).mono ?_
  rintro e wz ⟨rfl, hz⟩
  replace hz := hz.symm
  subst hz
  go_wp2_with fail
  refine (NB.out _).mono ?_
  rintro e wz ⟨rfl, hz⟩
  replace hz := hz.symm
  subst hz
  go_wp2_with fail
  refine (IA.out _).mono ?_
  rintro e wz ⟨rfl, hz⟩
  replace hz := hz.symm
  subst hz
  go_wp2_with fail
  refine (IA.out _).mono ?_
  rintro e wz ⟨rfl, hz⟩
  replace hz := hz.symm
  subst hz
  go_wp2_with fail
  refine (IB.out _).mono ?_
  rintro e wz ⟨rfl, hz⟩
  replace hz := hz.symm
  subst hz
  go_wp2_with fail
  refine (UA.out _).mono ?_
  rintro e w1 ⟨pa, oa, rfl, A1, hB1⟩
  have H1 := hid (And.intro A1 hB1)
  clear A1 hB1
  simp only [exactOf]
  go_wp2_with fail
  refine (UB.out _).mono ?_
  rintro e w2 ⟨pb, ob, rfl, A2, hB2⟩
  have A1 := H1.out.1.below hB2 (Nat.le_refl _)
  have Bw := H1.out.2.trans (hB2.mono H1.out.2.size)
  have PL := hid (RU.out w2 pa pb oa ob _ _ Bw A1 A2)
  have HB := hid Bw
  simp only [exactOf] at PL ⊢
  clear A1 A2 hB2 Bw H1 RU
  go_wp2_with fail
  refine PL.out.mono ?_
  rintro e w3 ⟨neg, p, os, V, x, rfl, A3, hB3, hS⟩
  have Bw := HB.out.trans (hB3.mono HB.out.size)
  have RR := hid (RO.out w3 neg p os V x _ Bw A3 hS)
  have HS := hid hS
  have HC := hid Bw
  simp only [exactOf] at RR ⊢
  clear A3 hB3 hS Bw RO PL HB
  go_wp2_with fail
  refine RR.out.mono ?_
  rintro e w4 ⟨d, t, L, rfl, h1, h2, h3, hB4⟩
  have KK : Hid (Told2 (Ie.AddIs a b) w (.returned (.tuple #[.int .u64 (Ie.sg neg d), .int .i64 (Ie.flg V x false (Ie.sg neg d) t L)])) w4) :=
    ⟨_, _, rfl, FI.out neg V x _ _ HS.out ⟨d, t, L, rfl, rfl, h1, h2, h3⟩, HC.out.trans (hB4.mono HC.out.size)⟩
  clear h1 h2 h3 hB4 HS HC RR FI
  go_wp2_with fail
  go_ret2
  exact KK.out

set_option maxRecDepth 100000 in
set_option maxHeartbeats 4000000 in
theorem add_any (a b : Int) (w : World) (a0 : 0 ≤ a) (a1 : a < 18446744073709551616) (b0 : 0 ≤ b) (b1 : b < 18446744073709551616) (hT : Tab w) :
    Calls Tryz.prog 32 #[.int .u64 a, .int .u64 b] w fun e w' => Told2 (Ie.AddIs a b) w e w' := by
  have NA := hid (fun (wx : World) => nan_any a wx a0 a1)
  have NB := hid (fun (wx : World) => nan_any b wx b0 b1)
  have IA := hid (fun (wx : World) => infinite_any a wx a0 a1)
  have IB := hid (fun (wx : World) => infinite_any b wx b0 b1)
  have KK : Hid (∀ (e : Ending) (r f : Int), e = .returned (.tuple #[.int .u64 r, .int .i64 f]) → Ie.AddIs a b r f → Told2 (Ie.AddIs a b) w e w) := fun e r f h1 h2 => ⟨r, f, h1, h2, Below.refl _ _⟩
  cases na : Ie.isn a
  · cases nb : Ie.isn b
    · cases ia : Ie.isi a
      · cases ib : Ie.isi b
        · exact add_fin a b w a0 a1 b0 b1 hT na ia nb ib
        · have SP : Hid (Ie.AddIs a b b 0) := by rw [Hid, Ie.AddIs, na, nb, ia, ib]; simp
          rw [na] at NA
          rw [nb] at NB
          rw [ia] at IA
          rw [ib] at IB
          clear na nb ia ib hT
          go_enter Tryz.func32, Tryz.ntmps32
          go_wp2_with fail
          refine (NA.out _).mono ?_
          rintro e wz ⟨rfl, rfl⟩
          go_wp2_with fail
          refine (NB.out _).mono ?_
          rintro e wz ⟨rfl, rfl⟩
          go_wp2_with fail
          refine (IA.out _).mono ?_
          rintro e wz ⟨rfl, rfl⟩
          go_wp2_with fail
          refine (IA.out _).mono ?_
          rintro e wz ⟨rfl, rfl⟩
          go_wp2_with fail
          refine (IB.out _).mono ?_
          rintro e wz ⟨rfl, rfl⟩
          go_wp2_with fail
          go_ret2
          exact KK.out _ _ _ rfl SP.out
      · cases ib : Ie.isi b
        · have SP : Hid (Ie.AddIs a b a 0) := by rw [Hid, Ie.AddIs, na, nb, ia, ib]; simp
          rw [na] at NA
          rw [nb] at NB
          rw [ia] at IA
          rw [ib] at IB
          clear na nb ia ib hT
          go_enter Tryz.func32, Tryz.ntmps32
          go_wp2_with fail
          refine (NA.out _).mono ?_
          rintro e wz ⟨rfl, rfl⟩
          go_wp2_with fail
          refine (NB.out _).mono ?_
          rintro e wz ⟨rfl, rfl⟩
          go_wp2_with fail
          refine (IA.out _).mono ?_
          rintro e wz ⟨rfl, rfl⟩
          go_wp2_with fail
          refine (IB.out _).mono ?_
          rintro e wz ⟨rfl, rfl⟩
          go_wp2_with fail
          refine (IA.out _).mono ?_
          rintro e wz ⟨rfl, rfl⟩
          go_wp2_with fail
          go_ret2
          exact KK.out _ _ _ rfl SP.out
        · rw [na] at NA
          rw [nb] at NB
          rw [ia] at IA
          rw [ib] at IB
          by_cases hab : a = b
          · have SP : Hid (Ie.AddIs a b a 0) := by rw [Hid, Ie.AddIs, na, nb, ia, ib]; simp [hab]
            subst hab
            clear na nb ia ib hT
            go_enter Tryz.func32, Tryz.ntmps32
            go_wp2_with fail
            refine (NA.out _).mono ?_
            rintro e wz ⟨rfl, rfl⟩
            go_wp2_with fail
            refine (NB.out _).mono ?_
            rintro e wz ⟨rfl, rfl⟩
            go_wp2_with fail
            refine (IA.out _).mono ?_
            rintro e wz ⟨rfl, rfl⟩
            go_wp2_with fail
            refine (IB.out _).mono ?_
            rintro e wz ⟨rfl, rfl⟩
            go_wp2_with fail
            refine (IA.out _).mono ?_
            rintro e wz ⟨rfl, rfl⟩
            go_wp2_with fail
            go_ret2
            exact KK.out _ _ _ rfl SP.out
          · have SP : Hid (Ie.AddIs a b 9221120237041090560 1) := by rw [Hid, Ie.AddIs, na, nb, ia, ib]; simp [hab]
            have hab' : (a == b) = false := by rw [beq_eq_false_iff_ne]; exact hab
            clear na nb ia ib hT
            go_enter Tryz.func32, Tryz.ntmps32
            go_wp2_with fail
            refine (NA.out _).mono ?_
            rintro e wz ⟨rfl, rfl⟩
            go_wp2_with fail
            refine (NB.out _).mono ?_
            rintro e wz ⟨rfl, rfl⟩
            go_wp2_with fail
            refine (IA.out _).mono ?_
            rintro e wz ⟨rfl, rfl⟩
            go_wp2_with fail
            refine (IB.out _).mono ?_
            rintro e wz ⟨rfl, rfl⟩
            go_wp2_with fail
            go_ret2
            exact KK.out _ _ _ rfl SP.out
    · have SP : Hid (Ie.AddIs a b 9221120237041090560 0) := by rw [Hid, Ie.AddIs, na, nb]; simp
      rw [na] at NA
      rw [nb] at NB
      clear na nb hT
      go_enter Tryz.func32, Tryz.ntmps32
      go_wp2_with fail
      refine (NA.out _).mono ?_
      rintro e wz ⟨rfl, rfl⟩
      go_wp2_with fail
      refine (NB.out _).mono ?_
      rintro e wz ⟨rfl, rfl⟩
      go_wp2_with fail
      go_ret2
      exact KK.out _ _ _ rfl SP.out
  · have SP : Hid (Ie.AddIs a b 9221120237041090560 0) := by rw [Hid, Ie.AddIs, na]; simp
    rw [na] at NA
    clear na hT
    go_enter Tryz.func32, Tryz.ntmps32
    go_wp2_with fail
    refine (NA.out _).mono ?_
    rintro e wz ⟨rfl, rfl⟩
    go_wp2_with fail
    go_ret2
    exact KK.out _ _ _ rfl SP.out

end Go.Proofs.YtljpmddjcfkonaaGreatDoor

/-
  soft: fma, Fma (made by mkfma.py).
-/
namespace Go.Proofs.YtljpmddjcfkonaaGreatDoor
open Go Go.RowKit Go.Deep

namespace Ie
/-- What fma answers. -/
def FmaIs (a b c r f : Int) : Prop :=
  if isn a = true ∨ isn b = true ∨ isn c = true then r = 9221120237041090560 ∧ f = 0
  else if isi a = true ∨ isi b = true then (if isz a = true ∨ isz b = true then r = 9221120237041090560 ∧ f = 1 else AddIs (sb (ngd a != ngd b) 9218868437227405312) c r f)
  else if isi c = true then r = c ∧ f = 0
  else ∃ neg V e, SumIs (ngd a != ngd b) (dm a * dm b) (de a + de b) (ngd c) (dm c) (de c) neg V e ∧ Res neg V e false r f
end Ie

set_option maxRecDepth 100000 in
set_option maxHeartbeats 8000000 in
theorem fma_fin (a b c : Int) (w : World) (a0 : 0 ≤ a) (a1 : a < 18446744073709551616) (b0 : 0 ≤ b) (b1 : b < 18446744073709551616) (c0 : 0 ≤ c) (c1 : c < 18446744073709551616) (hT : Tab w) (na : Ie.isn a = false) (ia : Ie.isi a = false) (nb : Ie.isn b = false) (ib : Ie.isi b = false) (nc : Ie.isn c = false) (ic : Ie.isi c = false) :
    Calls Tryz.prog 10 #[.int .u64 a, .int .u64 b, .int .u64 c] w fun e w' => Told2 (Ie.FmaIs a b c) w e w' := by
  have fa := Ie.fin_of na ia
  have fb := Ie.fin_of nb ib
  have fc := Ie.fin_of nc ic
  have FI : Hid (∀ (neg : Bool) (V e r f : Int), Ie.SumIs (Ie.ngd a != Ie.ngd b) (Ie.dm a * Ie.dm b) (Ie.de a + Ie.de b) (Ie.ngd c) (Ie.dm c) (Ie.de c) neg V e → Ie.Res neg V e false r f → Ie.FmaIs a b c r f) := by
    intro neg V e r f h1 h2
    rw [Ie.FmaIs, na, nb, ia, ib, nc, ic]
    simp only [Bool.false_eq_true, or_self, if_false]
    exact ⟨neg, V, e, h1, h2⟩
  have NA := hid (fun (wx : World) => nan_any a wx a0 a1)
  rw [na] at NA
  have NB := hid (fun (wx : World) => nan_any b wx b0 b1)
  rw [nb] at NB
  have NC := hid (fun (wx : World) => nan_any c wx c0 c1)
  rw [nc] at NC
  have IA := hid (fun (wx : World) => infinite_any a wx a0 a1)
  rw [ia] at IA
  have IB := hid (fun (wx : World) => infinite_any b wx b0 b1)
  rw [ib] at IB
  have IC := hid (fun (wx : World) => infinite_any c wx c0 c1)
  rw [ic] at IC
  obtain ⟨⟨da0, da1⟩, ⟨ea0, ea1⟩, -, -⟩ := Ie.dec_f a fa
  obtain ⟨⟨db0, db1⟩, ⟨eb0, eb1⟩, -, -⟩ := Ie.dec_f b fb
  obtain ⟨⟨dc0, dc1⟩, ⟨ec0, ec1⟩, -, -⟩ := Ie.dec_f c fc
  have e60 : (2 : Int) ^ 60 = 1152921504606846976 := by decide
  have da2 : Ie.dm a < 2 ^ 60 := by omega
  have db2 : Ie.dm b < 2 ^ 60 := by omega
  have dc2 : Ie.dm c < 2 ^ 60 := by omega
  have e200 := Nm.two_mono (show 60 + 60 ≤ 200 by omega)
  have e201 := Nm.two_mono (show 60 ≤ 200 by omega)
  have pb : Ie.dm a * Ie.dm b < 2 ^ (60 + 60) := by
    have h1 : Ie.dm a * Ie.dm b ≤ Ie.dm a * 2 ^ 60 := Int.mul_le_mul_of_nonneg_left (by omega) da0
    have h2 : Ie.dm a * 2 ^ 60 < 2 ^ 60 * 2 ^ 60 := Int.mul_lt_mul_of_pos_right da2 (Nm.two_pos 60)
    rw [← Nm.two_add] at h2
    omega
  have UA := hid (fun (wx : World) => number_any a wx a0 a1 fa)
  have UB := hid (fun (wx : World) => number_any b wx b0 b1 fb)
  have UC := hid (fun (wx : World) => number_any c wx c0 c1 fc)
  have HT := hid hT
  have RT : Hid (∀ (w2 : World) (pa pb : Option Addr) (oa ob : List Int) (B B' : Nat), Ans B w2 pa oa (Ie.dm a) → Ans B' w2 pb ob (Ie.dm b) → Calls Tryz.prog 34 #[exactOf (Ie.ngd a) pa oa.length oa.length (Ie.de a) false, exactOf (Ie.ngd b) pb ob.length ob.length (Ie.de b) false] w2 fun e w' => ∃ p os, e = .returned (exactOf (Ie.ngd a != Ie.ngd b) p (List.length os) (List.length os) (Ie.de a + Ie.de b) false) ∧ Ans w2.heap.size w' p os (Ie.dm a * Ie.dm b) ∧ Below w2.heap.size w2 w') := by
    intro w2 pa pb oa ob B B' A1 A2
    exact times_xany _ _ _ _ _ _ _ _ _ _ oa ob _ _ _ _ w2 (A1.arg (by have := A1.tl da2 (show 60 ≤ 262144 by omega); omega)) (A2.arg (by have := A2.tl db2 (show 60 ≤ 262144 by omega); omega)) A1.2.2.2.1 A2.2.2.2.1 da2 db2 (by omega) (by omega) (by omega) (by omega)
  have RU : Hid (∀ (w2 : World) (pp pc : Option Addr) (op oc : List Int) (B B' : Nat), Ans B w2 pp op (Ie.dm a * Ie.dm b) → Ans B' w2 pc oc (Ie.dm c) → Calls Tryz.prog 35 #[exactOf (Ie.ngd a != Ie.ngd b) pp op.length op.length (Ie.de a + Ie.de b) false, exactOf (Ie.ngd c) pc oc.length oc.length (Ie.de c) false] w2 fun e w' => PlusTold (Ie.ngd a != Ie.ngd b) (Ie.dm a * Ie.dm b) (Ie.de a + Ie.de b) (Ie.ngd c) (Ie.dm c) (Ie.de c) w2 e w') := by
    intro w2 pp pc op oc B B' A1 A2
    exact xplus_any _ _ _ _ _ _ _ _ _ _ op oc _ _ _ _ w2 (A1.arg (by have := A1.tl pb (show 60 + 60 ≤ 262144 by omega); omega)) (A2.arg (by have := A2.tl dc2 (show 60 ≤ 262144 by omega); omega)) A1.2.2.2.1 A2.2.2.2.1 (by omega) (by omega) (by omega) (by omega) (by omega) (by omega)
  have RO : Hid (∀ (w3 : World) (neg : Bool) (p : Option Addr) (os : List Int) (V e : Int) (B : Nat), Below w.heap.size w w3 → Ans B w3 p os V → Ie.SumIs (Ie.ngd a != Ie.ngd b) (Ie.dm a * Ie.dm b) (Ie.de a + Ie.de b) (Ie.ngd c) (Ie.dm c) (Ie.de c) neg V e → Calls Tryz.prog 36 #[exactOf neg p os.length os.length e false] w3 fun r w' => RoundedTold neg V e false w3 r w') := by
    intro w3 neg p os V e B hB A hS
    have vb := hS.2.2.1.2
    have eb : -10000 ≤ e ∧ e ≤ 10000 := by rcases hS.1 with h | ⟨_, h⟩ <;> omega
    exact rounded_any neg false p _ _ os e V w3 (A.arg (by have := A.tl vb (show 5000 ≤ 262144 by omega); omega)) (HT.out.below hB) A.2.2.2.1 A.len0 vb eb.1 eb.2
  clear fa fb fc na nb nc ia ib ic hT da0 da1 ea0 ea1 db0 db1 eb0 eb1 dc0 dc1 ec0 ec1 e60 da2 db2 dc2 e200 e201 pb HT
  go_enter Tryz.func10, Tryz.ntmps10
  go_wp2_with fail
  refine (NA.out _).mono ?_
  rintro e wz ⟨rfl, hz⟩
  replace hz := hz.symm
  subst hz
  go_wp2_with fail
  refine (NB.out _).mono ?_
  rintro e wz ⟨rfl, hz⟩
  replace hz := hz.symm
  subst hz
  go_wp2_with fail
  refine (NC.out _).mono ?_
  rintro e wz ⟨rfl, hz⟩
  replace hz := hz.symm
  subst hz
  go_wp2_with fail
  refine (IA.out _).mono ?_
  rintro e wz ⟨rfl, hz⟩
  replace hz := hz.symm
  subst hz
  go_wp2_with fail
  refine (IB.out _).mono ?_
  rintro e wz ⟨rfl, hz⟩
  replace hz := hz.symm
  subst hz
  go_wp2_with fail
  refine (IC.out _).mono ?_
  rintro e wz ⟨rfl, hz⟩
  replace hz := hz.symm
  subst hz
  go_wp2_with fail
  refine (UA.out _).mono ?_
  rintro e w1 ⟨pa, oa, rfl, A1, hB1⟩
  have H1 := hid (And.intro A1 hB1)
  clear A1 hB1
  simp only [exactOf]
  go_wp2_with fail
  refine (UB.out _).mono ?_
  rintro e w2 ⟨pb, ob, rfl, A2, hB2⟩
  have A1 := H1.out.1.below hB2 (Nat.le_refl _)
  have Bw := H1.out.2.trans (hB2.mono H1.out.2.size)
  have TM := hid (RT.out w2 pa pb oa ob _ _ A1 A2)
  have HB := hid Bw
  simp only [exactOf] at TM ⊢
  clear A1 A2 hB2 Bw H1 RT
  go_wp2_with fail
  refine TM.out.mono ?_
  rintro e w3 ⟨pp, op, rfl, A3, hB3⟩
  have H3 := hid (And.intro A3 (HB.out.trans (hB3.mono HB.out.size)))
  clear A3 hB3 HB TM
  go_wp2_with fail
  refine (UC.out _).mono ?_
  rintro e w4 ⟨pc, oc, rfl, A4, hB4⟩
  have A3 := H3.out.1.below hB4 (Nat.le_refl _)
  have Bw := H3.out.2.trans (hB4.mono H3.out.2.size)
  have PL := hid (RU.out w4 pp pc op oc _ _ A3 A4)
  have HB := hid Bw
  simp only [exactOf] at PL ⊢
  clear A3 A4 hB4 Bw H3 RU
  go_wp2_with fail
  refine PL.out.mono ?_
  rintro e w5 ⟨neg, p, os, V, x, rfl, A5, hB5, hS⟩
  have Bw := HB.out.trans (hB5.mono HB.out.size)
  have RR := hid (RO.out w5 neg p os V x _ Bw A5 hS)
  have HS := hid hS
  have HC := hid Bw
  simp only [exactOf] at RR ⊢
  clear A5 hB5 hS Bw RO PL HB
  go_wp2_with fail
  refine RR.out.mono ?_
  rintro e w6 ⟨d, t, L, rfl, h1, h2, h3, hB6⟩
  have KK : Hid (Told2 (Ie.FmaIs a b c) w (.returned (.tuple #[.int .u64 (Ie.sg neg d), .int .i64 (Ie.flg V x false (Ie.sg neg d) t L)])) w6) :=
    ⟨_, _, rfl, FI.out neg V x _ _ HS.out ⟨d, t, L, rfl, rfl, h1, h2, h3⟩, HC.out.trans (hB6.mono HC.out.size)⟩
  clear h1 h2 h3 hB6 HS HC RR FI
  go_wp2_with fail
  go_ret2
  exact KK.out

set_option maxRecDepth 100000 in
set_option maxHeartbeats 8000000 in
theorem fma_inf (a b c : Int) (w : World) (a0 : 0 ≤ a) (a1 : a < 18446744073709551616) (b0 : 0 ≤ b) (b1 : b < 18446744073709551616) (c0 : 0 ≤ c) (c1 : c < 18446744073709551616) (hT : Tab w) (na : Ie.isn a = false) (nb : Ie.isn b = false) (nc : Ie.isn c = false) (hi : Ie.isi a = true ∨ Ie.isi b = true) :
    Calls Tryz.prog 10 #[.int .u64 a, .int .u64 b, .int .u64 c] w fun e w' => Told2 (Ie.FmaIs a b c) w e w' := by
  have NA := hid (fun (wx : World) => nan_any a wx a0 a1)
  rw [na] at NA
  have NB := hid (fun (wx : World) => nan_any b wx b0 b1)
  rw [nb] at NB
  have NC := hid (fun (wx : World) => nan_any c wx c0 c1)
  rw [nc] at NC
  have IA := hid (fun (wx : World) => infinite_any a wx a0 a1)
  have IB := hid (fun (wx : World) => infinite_any b wx b0 b1)
  obtain ⟨p, fl, MU, KA⟩ : ∃ (p fl : Int), Hid (∀ wx : World, Below w.heap.size w wx → Calls Tryz.prog 31 #[.int .u64 a, .int .u64 b] wx fun e w' => e = .returned (.tuple #[.int .u64 p, .int .i64 fl]) ∧ Below wx.heap.size wx w') ∧
      Hid ((fl = 1 ∧ Ie.FmaIs a b c p 1) ∨ (fl = 0 ∧ (0 ≤ p ∧ p < 18446744073709551616) ∧ ∀ r f, Ie.AddIs p c r f → Ie.FmaIs a b c r f)) := by
    by_cases hz : Ie.isz a = true ∨ Ie.isz b = true
    · refine ⟨9221120237041090560, 1, fun wx hx => ?_, .inl ⟨rfl, ?_⟩⟩
      · refine (mul_any a b wx a0 a1 b0 b1 (hT.below hx)).mono ?_
        rintro e w' ⟨r, f, rfl, h, hB⟩
        rw [Ie.MulIs, na, nb] at h
        simp only [Bool.false_eq_true, or_self, if_false] at h
        have cond : (Ie.isi a = true ∧ Ie.isz b = true) ∨ (Ie.isz a = true ∧ Ie.isi b = true) := by
          rcases hi with hi | hi
          · rcases hz with hz | hz
            · rw [Ie.not_iz hi] at hz; cases hz
            · exact .inl ⟨hi, hz⟩
          · rcases hz with hz | hz
            · exact .inr ⟨hz, hi⟩
            · rw [Ie.not_iz hi] at hz; cases hz
        rw [if_pos cond] at h
        obtain ⟨rfl, rfl⟩ := h
        exact ⟨rfl, hB⟩
      · rw [Ie.FmaIs, na, nb, nc]
        simp only [Bool.false_eq_true, or_self, if_false]
        rw [if_pos hi, if_pos hz]
        simp
    · refine ⟨Ie.sb (Ie.ngd a != Ie.ngd b) 9218868437227405312, 0, fun wx hx => ?_, .inr ⟨rfl, ?_, fun r f h => ?_⟩⟩
      · refine (mul_any a b wx a0 a1 b0 b1 (hT.below hx)).mono ?_
        rintro e w' ⟨r, f, rfl, h, hB⟩
        rw [Ie.MulIs, na, nb] at h
        simp only [Bool.false_eq_true, or_self, if_false] at h
        have cond : ¬ ((Ie.isi a = true ∧ Ie.isz b = true) ∨ (Ie.isz a = true ∧ Ie.isi b = true)) := by
          rintro (⟨_, g⟩ | ⟨g, _⟩)
          · exact hz (.inr g)
          · exact hz (.inl g)
        rw [if_neg cond, if_pos hi] at h
        obtain ⟨rfl, rfl⟩ := h
        exact ⟨rfl, hB⟩
      · cases Ie.ngd a != Ie.ngd b <;> simp only [Ie.sb, Bool.false_eq_true, if_true, if_false] <;> omega
      · rw [Ie.FmaIs, na, nb, nc]
        simp only [Bool.false_eq_true, or_self, if_false]
        rw [if_pos hi, if_neg hz]
        exact h
  have AD := hid (fun (wx : World) (hx : Below w.heap.size w wx) (p0 : 0 ≤ p) (p1 : p < 18446744073709551616) => add_any p c wx p0 p1 c0 c1 (hT.below hx))
  rcases KA.out with ⟨rfl, KB⟩ | ⟨rfl, ⟨p0, p1⟩, KB⟩
  · have KC := hid KB
    clear KA KB
    cases ia : Ie.isi a
    · have ib : Ie.isi b = true := by
        rcases hi with h | h
        · rw [ia] at h; cases h
        · exact h
      rw [ia] at IA
      rw [ib] at IB
      clear ia ib na nb nc hT hi
      go_enter Tryz.func10, Tryz.ntmps10
      go_wp2_with fail
      refine (NA.out _).mono ?_
      rintro e wz ⟨rfl, hz⟩
      replace hz := hz.symm
      subst hz
      go_wp2_with fail
      refine (NB.out _).mono ?_
      rintro e wz ⟨rfl, hz⟩
      replace hz := hz.symm
      subst hz
      go_wp2_with fail
      refine (NC.out _).mono ?_
      rintro e wz ⟨rfl, hz⟩
      replace hz := hz.symm
      subst hz
      go_wp2_with fail
      refine (IA.out _).mono ?_
      rintro e wz ⟨rfl, hz⟩
      replace hz := hz.symm
      subst hz
      go_wp2_with fail
      refine (IB.out _).mono ?_
      rintro e wz ⟨rfl, hz⟩
      replace hz := hz.symm
      subst hz
      go_wp2_with fail
      refine (MU.out _ (Below.refl _ _)).mono ?_
      rintro e w1 ⟨rfl, hB1⟩
      have HB := hid hB1
      clear hB1 MU
      go_wp2_with fail
      go_ret2
      exact ⟨_, _, rfl, KC.out, HB.out⟩
    · rw [ia] at IA
      clear ia na nb nc hT hi
      go_enter Tryz.func10, Tryz.ntmps10
      go_wp2_with fail
      refine (NA.out _).mono ?_
      rintro e wz ⟨rfl, hz⟩
      replace hz := hz.symm
      subst hz
      go_wp2_with fail
      refine (NB.out _).mono ?_
      rintro e wz ⟨rfl, hz⟩
      replace hz := hz.symm
      subst hz
      go_wp2_with fail
      refine (NC.out _).mono ?_
      rintro e wz ⟨rfl, hz⟩
      replace hz := hz.symm
      subst hz
      go_wp2_with fail
      refine (IA.out _).mono ?_
      rintro e wz ⟨rfl, hz⟩
      replace hz := hz.symm
      subst hz
      go_wp2_with fail
      refine (MU.out _ (Below.refl _ _)).mono ?_
      rintro e w1 ⟨rfl, hB1⟩
      have HB := hid hB1
      clear hB1 MU
      go_wp2_with fail
      go_ret2
      exact ⟨_, _, rfl, KC.out, HB.out⟩
  · have KC := hid KB
    clear KA KB
    cases ia : Ie.isi a
    · have ib : Ie.isi b = true := by
        rcases hi with h | h
        · rw [ia] at h; cases h
        · exact h
      rw [ia] at IA
      rw [ib] at IB
      clear ia ib na nb nc hT hi
      go_enter Tryz.func10, Tryz.ntmps10
      go_wp2_with fail
      refine (NA.out _).mono ?_
      rintro e wz ⟨rfl, hz⟩
      replace hz := hz.symm
      subst hz
      go_wp2_with fail
      refine (NB.out _).mono ?_
      rintro e wz ⟨rfl, hz⟩
      replace hz := hz.symm
      subst hz
      go_wp2_with fail
      refine (NC.out _).mono ?_
      rintro e wz ⟨rfl, hz⟩
      replace hz := hz.symm
      subst hz
      go_wp2_with fail
      refine (IA.out _).mono ?_
      rintro e wz ⟨rfl, hz⟩
      replace hz := hz.symm
      subst hz
      go_wp2_with fail
      refine (IB.out _).mono ?_
      rintro e wz ⟨rfl, hz⟩
      replace hz := hz.symm
      subst hz
      go_wp2_with fail
      refine (MU.out _ (Below.refl _ _)).mono ?_
      rintro e w1 ⟨rfl, hB1⟩
      have HB := hid hB1
      clear hB1 MU
      have AD1 := hid (AD.out w1 HB.out p0 p1)
      clear AD
      go_wp2_with fail
      refine AD1.out.mono ?_
      rintro e w2 ⟨r, f, rfl, h, hB2⟩
      have KK : Hid (Told2 (Ie.FmaIs a b c) w (.returned (.tuple #[.int .u64 r, .int .i64 f])) w2) := ⟨r, f, rfl, KC.out r f h, HB.out.trans (hB2.mono HB.out.size)⟩
      clear h hB2 HB AD1 KC
      go_wp2_with fail
      go_ret2
      exact KK.out
    · rw [ia] at IA
      clear ia na nb nc hT hi
      go_enter Tryz.func10, Tryz.ntmps10
      go_wp2_with fail
      refine (NA.out _).mono ?_
      rintro e wz ⟨rfl, hz⟩
      replace hz := hz.symm
      subst hz
      go_wp2_with fail
      refine (NB.out _).mono ?_
      rintro e wz ⟨rfl, hz⟩
      replace hz := hz.symm
      subst hz
      go_wp2_with fail
      refine (NC.out _).mono ?_
      rintro e wz ⟨rfl, hz⟩
      replace hz := hz.symm
      subst hz
      go_wp2_with fail
      refine (IA.out _).mono ?_
      rintro e wz ⟨rfl, hz⟩
      replace hz := hz.symm
      subst hz
      go_wp2_with fail
      refine (MU.out _ (Below.refl _ _)).mono ?_
      rintro e w1 ⟨rfl, hB1⟩
      have HB := hid hB1
      clear hB1 MU
      have AD1 := hid (AD.out w1 HB.out p0 p1)
      clear AD
      go_wp2_with fail
      refine AD1.out.mono ?_
      rintro e w2 ⟨r, f, rfl, h, hB2⟩
      have KK : Hid (Told2 (Ie.FmaIs a b c) w (.returned (.tuple #[.int .u64 r, .int .i64 f])) w2) := ⟨r, f, rfl, KC.out r f h, HB.out.trans (hB2.mono HB.out.size)⟩
      clear h hB2 HB AD1 KC
      go_wp2_with fail
      go_ret2
      exact KK.out

set_option maxRecDepth 100000 in
set_option maxHeartbeats 8000000 in
theorem fma_any (a b c : Int) (w : World) (a0 : 0 ≤ a) (a1 : a < 18446744073709551616) (b0 : 0 ≤ b) (b1 : b < 18446744073709551616) (c0 : 0 ≤ c) (c1 : c < 18446744073709551616) (hT : Tab w) :
    Calls Tryz.prog 10 #[.int .u64 a, .int .u64 b, .int .u64 c] w fun e w' => Told2 (Ie.FmaIs a b c) w e w' := by
  have NA := hid (fun (wx : World) => nan_any a wx a0 a1)
  have NB := hid (fun (wx : World) => nan_any b wx b0 b1)
  have NC := hid (fun (wx : World) => nan_any c wx c0 c1)
  have IA := hid (fun (wx : World) => infinite_any a wx a0 a1)
  have IB := hid (fun (wx : World) => infinite_any b wx b0 b1)
  have IC := hid (fun (wx : World) => infinite_any c wx c0 c1)
  have KK : Hid (∀ (e : Ending) (r f : Int), e = .returned (.tuple #[.int .u64 r, .int .i64 f]) → Ie.FmaIs a b c r f → Told2 (Ie.FmaIs a b c) w e w) := fun e r f h1 h2 => ⟨r, f, h1, h2, Below.refl _ _⟩
  cases na : Ie.isn a
  · cases nb : Ie.isn b
    · cases nc : Ie.isn c
      · by_cases hi : Ie.isi a = true ∨ Ie.isi b = true
        · exact fma_inf a b c w a0 a1 b0 b1 c0 c1 hT na nb nc hi
        · have ia : Ie.isi a = false := by
            cases h : Ie.isi a
            · rfl
            · exact absurd (.inl h) hi
          have ib : Ie.isi b = false := by
            cases h : Ie.isi b
            · rfl
            · exact absurd (.inr h) hi
          cases ic : Ie.isi c
          · exact fma_fin a b c w a0 a1 b0 b1 c0 c1 hT na ia nb ib nc ic
          · have SP : Hid (Ie.FmaIs a b c c 0) := by rw [Hid, Ie.FmaIs, na, nb, nc, ia, ib, ic]; simp
            rw [na] at NA
            rw [nb] at NB
            rw [nc] at NC
            rw [ia] at IA
            rw [ib] at IB
            rw [ic] at IC
            clear na nb nc ia ib ic hT hi
            go_enter Tryz.func10, Tryz.ntmps10
            go_wp2_with fail
            refine (NA.out _).mono ?_
            rintro e wz ⟨rfl, hz⟩
            replace hz := hz.symm
            subst hz
            go_wp2_with fail
            refine (NB.out _).mono ?_
            rintro e wz ⟨rfl, hz⟩
            replace hz := hz.symm
            subst hz
            go_wp2_with fail
            refine (NC.out _).mono ?_
            rintro e wz ⟨rfl, hz⟩
            replace hz := hz.symm
            subst hz
            go_wp2_with fail
            refine (IA.out _).mono ?_
            rintro e wz ⟨rfl, hz⟩
            replace hz := hz.symm
            subst hz
            go_wp2_with fail
            refine (IB.out _).mono ?_
            rintro e wz ⟨rfl, hz⟩
            replace hz := hz.symm
            subst hz
            go_wp2_with fail
            refine (IC.out _).mono ?_
            rintro e wz ⟨rfl, hz⟩
            replace hz := hz.symm
            subst hz
            go_wp2_with fail
            go_ret2
            exact KK.out _ _ _ rfl SP.out
      · have SP : Hid (Ie.FmaIs a b c 9221120237041090560 0) := by rw [Hid, Ie.FmaIs, na, nb, nc]; simp
        rw [na] at NA
        rw [nb] at NB
        rw [nc] at NC
        clear na nb nc hT
        go_enter Tryz.func10, Tryz.ntmps10
        go_wp2_with fail
        refine (NA.out _).mono ?_
        rintro e wz ⟨rfl, hz⟩
        replace hz := hz.symm
        subst hz
        go_wp2_with fail
        refine (NB.out _).mono ?_
        rintro e wz ⟨rfl, hz⟩
        replace hz := hz.symm
        subst hz
        go_wp2_with fail
        refine (NC.out _).mono ?_
        rintro e wz ⟨rfl, hz⟩
        replace hz := hz.symm
        subst hz
        go_wp2_with fail
        go_ret2
        exact KK.out _ _ _ rfl SP.out
    · have SP : Hid (Ie.FmaIs a b c 9221120237041090560 0) := by rw [Hid, Ie.FmaIs, na, nb]; simp
      rw [na] at NA
      rw [nb] at NB
      clear na nb hT
      go_enter Tryz.func10, Tryz.ntmps10
      go_wp2_with fail
      refine (NA.out _).mono ?_
      rintro e wz ⟨rfl, hz⟩
      replace hz := hz.symm
      subst hz
      go_wp2_with fail
      refine (NB.out _).mono ?_
      rintro e wz ⟨rfl, hz⟩
      replace hz := hz.symm
      subst hz
      go_wp2_with fail
      go_ret2
      exact KK.out _ _ _ rfl SP.out
  · have SP : Hid (Ie.FmaIs a b c 9221120237041090560 0) := by rw [Hid, Ie.FmaIs, na]; simp
    rw [na] at NA
    clear na hT
    go_enter Tryz.func10, Tryz.ntmps10
    go_wp2_with fail
    refine (NA.out _).mono ?_
    rintro e wz ⟨rfl, hz⟩
    replace hz := hz.symm
    subst hz
    go_wp2_with fail
    go_ret2
    exact KK.out _ _ _ rfl SP.out

set_option maxRecDepth 100000 in
set_option maxHeartbeats 8000000 in
theorem softFma_any (a b c : Int) (w : World) (a0 : 0 ≤ a) (a1 : a < 18446744073709551616) (b0 : 0 ≤ b) (b1 : b < 18446744073709551616) (c0 : 0 ≤ c) (c1 : c < 18446744073709551616) (hT : Tab w) :
    Calls Tryz.prog 5 #[.int .u64 a, .int .u64 b, .int .u64 c] w fun e w' => Told1 (Ie.FmaIs a b c) w e w' := by
  have AD := hid (fma_any a b c w a0 a1 b0 b1 c0 c1 hT)
  clear hT
  go_enter Tryz.func5, Tryz.ntmps5
  go_wp2_with fail
  refine AD.out.mono ?_
  rintro e w1 ⟨r, f, rfl, h, hB⟩
  have KK : Hid (Told1 (Ie.FmaIs a b c) w (.returned (.int .u64 r)) w1) := ⟨r, f, rfl, h, hB⟩
  clear h hB AD
  go_wp2_with fail
  go_ret
  exact KK.out

end Go.Proofs.YtljpmddjcfkonaaGreatDoor

/-
  What fma answers of finite doubles; closed ones.
-/
namespace Go.Proofs.YtljpmddjcfkonaaGreatDoor
namespace Ie

theorem FmaIs.get {a b c r f : Int} (fa : fin a) (fb : fin b) (fc : fin c) (h : FmaIs a b c r f) : ∃ neg V e, SumIs (ngd a != ngd b) (dm a * dm b) (de a + de b) (ngd c) (dm c) (de c) neg V e ∧ Res neg V e false r f := by
  rw [FmaIs, (fin_not fa).1, (fin_not fa).2, (fin_not fb).1, (fin_not fb).2, (fin_not fc).1, (fin_not fc).2] at h
  simp only [Bool.false_eq_true, or_self, if_false] at h
  exact h

theorem FmaIs.rs {a b c r f : Int} (fa : fin a) (fb : fin b) (fc : fin c) (h : FmaIs a b c r f) : RS (uv a * uv b + uv c * 2 ^ 1074) (2 ^ 1074) ((ngd a != ngd b) && ngd c) r := by
  obtain ⟨neg, V, e, hS, x, t, L, rfl, -, hR, -, -⟩ := h.get fa fb fc
  obtain ⟨_, ⟨ea0, ea1⟩, _, _⟩ := dec_f a fa
  obtain ⟨_, ⟨eb0, eb1⟩, _, _⟩ := dec_f b fb
  obtain ⟨_, ⟨ec0, ec1⟩, gc, _⟩ := dec_f c fc
  have g2 : ∀ k : Nat, (k : Int) = de c + (2148 : Nat) → dm c * 2 ^ k = un (ab c) * 2 ^ 1074 := by
    intro k hk
    obtain ⟨kc, hkc⟩ : ∃ k : Nat, (k : Int) = de c + 1074 := ⟨(de c + 1074).toNat, by omega⟩
    rw [← gc kc hkc, show k = kc + 1074 by omega, Nm.two_add, Int.mul_assoc]
  obtain ⟨c', hc, key, h0⟩ := hS.at 2148 (by omega) (by omega) (fun k hk => prod_at fa fb k (by omega)) g2
  rw [← uv_mul, ← sn_mul_right (ngd c)] at key h0
  exact rs_of hR hS.2.2.1.1 c' 1074 (by omega) key.symm rfl h0
end Ie
end Go.Proofs.YtljpmddjcfkonaaGreatDoor

namespace Go.Proofs.YtljpmddjcfkonaaGreatDoor
open Go Go.RowKit Go.Deep

namespace Ie
/-- What a fused product and sum answers, whoever makes it: one double. -/
def FmaR (a b c r : Int) : Prop :=
  if isn a = true ∨ isn b = true ∨ isn c = true then r = 9221120237041090560
  else if isi a = true ∨ isi b = true then (if isz a = true ∨ isz b = true then r = 9221120237041090560 else AddR (sb (ngd a != ngd b) 9218868437227405312) c r)
  else if isi c = true then r = c
  else RS (uv a * uv b + uv c * 2 ^ 1074) (2 ^ 1074) ((ngd a != ngd b) && ngd c) r

theorem FmaIs.r {a b c r f : Int} (h : FmaIs a b c r f) : FmaR a b c r := by
  have h0 := h
  unfold FmaR
  unfold FmaIs at h
  split
  · rename_i g; rw [if_pos g] at h; exact h.1
  rename_i g1; rw [if_neg g1] at h
  split
  · rename_i g; rw [if_pos g] at h
    split
    · rename_i k; rw [if_pos k] at h; exact h.1
    · rename_i k; rw [if_neg k] at h; exact h.r
  rename_i g2; rw [if_neg g2] at h
  split
  · rename_i g; rw [if_pos g] at h; exact h.1
  rename_i g3
  have fa : fin a := fin_of (by cases c : isn a; rfl; exact absurd (.inl c) g1) (by cases c : isi a; rfl; exact absurd (.inl c) g2)
  have fb : fin b := fin_of (by cases c : isn b; rfl; exact absurd (.inr (.inl c)) g1) (by cases c : isi b; rfl; exact absurd (.inr c) g2)
  have fc : fin c := fin_of (by cases d : isn c; rfl; exact absurd (.inr (.inr d)) g1) (by cases d : isi c; rfl; exact absurd d g3)
  exact h0.rs fa fb fc

theorem FmaR.one {a b c r r' : Int} (h : FmaR a b c r) (k : FmaR a b c r') : r = r' := by
  unfold FmaR at h k
  split at h
  · rename_i g; rw [if_pos g] at k; rw [h, k]
  rename_i g1; rw [if_neg g1] at k
  split at h
  · rename_i g; rw [if_pos g] at k
    split at h
    · rename_i j; rw [if_pos j] at k; rw [h, k]
    · rename_i j; rw [if_neg j] at k; exact h.one k
  rename_i g2; rw [if_neg g2] at k
  split at h
  · rename_i g; rw [if_pos g] at k; rw [h, k]
  rename_i g3; rw [if_neg g3] at k
  exact h.one (Nm.two_pos 1074) (Nm.two_pos 1074) k rfl

theorem fmaR_ex (a b c : Int) : ∃ r, FmaR a b c r := by
  unfold FmaR
  split
  · exact ⟨_, rfl⟩
  split
  · split
    · exact ⟨_, rfl⟩
    · exact addR_ex _ _
  split
  · exact ⟨_, rfl⟩
  exact rs_ex _ _ _

theorem yfma_rs {a b c : Int} {neg : Bool} {V m x : Int} (fa : fin a) (fb : fin b) (fc : fin c) (hS : SumIs (ngd a != ngd b) (dm a * dm b) (de a + de b) (ngd c) (dm c) (de c) neg V m) (hR : Rnd V 1 m false x) : RS (uv a * uv b + uv c * 2 ^ 1074) (2 ^ 1074) ((ngd a != ngd b) && ngd c) (sg neg x) := by
  obtain ⟨_, ⟨ea0, ea1⟩, _, _⟩ := dec_f a fa
  obtain ⟨_, ⟨eb0, eb1⟩, _, _⟩ := dec_f b fb
  obtain ⟨_, ⟨ec0, ec1⟩, gc, _⟩ := dec_f c fc
  have g2 : ∀ k : Nat, (k : Int) = de c + (2148 : Nat) → dm c * 2 ^ k = un (ab c) * 2 ^ 1074 := by
    intro k hk
    obtain ⟨kc, hkc⟩ : ∃ k : Nat, (k : Int) = de c + 1074 := ⟨(de c + 1074).toNat, by omega⟩
    rw [← gc kc hkc, show k = kc + 1074 by omega, Nm.two_add, Int.mul_assoc]
  obtain ⟨c', hc, key, h0⟩ := hS.at 2148 (by omega) (by omega) (fun k hk => prod_at fa fb k (by omega)) g2
  rw [← uv_mul, ← sn_mul_right (ngd c)] at key h0
  exact rs_of hR hS.2.2.1.1 c' 1074 (by omega) key.symm rfl h0

/-- The product of what isn't two numbers, and c. -/
theorem fmaR_inf {a b c p r : Int} (n1 : isn a = false) (n2 : isn b = false) (n3 : isn c = false) (hi : isi a = true ∨ isi b = true) (hp : MulR a b p) (hr : AddR p c r) : FmaR a b c r := by
  unfold FmaR
  rw [if_neg (by simp [n1, n2, n3]), if_pos hi]
  unfold MulR at hp
  rw [if_neg (by simp [n1, n2])] at hp
  have xa : isi a = true → isz a = false := fun h => by simp only [isi, isz, decide_eq_true_eq, decide_eq_false_iff_not] at *; omega
  have xb : isi b = true → isz b = false := fun h => by simp only [isi, isz, decide_eq_true_eq, decide_eq_false_iff_not] at *; omega
  by_cases hz : isz a = true ∨ isz b = true
  · rw [if_pos hz]
    rw [if_pos (by
      rcases hi with h | h
      · have := xa h
        rcases hz with z | z
        · rw [this] at z; cases z
        · exact .inl ⟨h, z⟩
      · have := xb h
        rcases hz with z | z
        · exact .inr ⟨z, h⟩
        · rw [this] at z; cases z)] at hp
    subst hp
    unfold AddR at hr
    rw [if_pos (.inl (by decide))] at hr
    exact hr
  · rw [if_neg hz]
    rw [if_neg (by
      rintro (⟨_, z⟩ | ⟨z, _⟩)
      · exact hz (.inr z)
      · exact hz (.inl z)), if_pos hi] at hp
    rw [← hp]
    exact hr
theorem fmaR_last {a b c p r : Int} (n1 : isn a = false) (n2 : isn b = false) (n3 : isn c = false) (i1 : isi a = false) (i2 : isi b = false) (i3 : isi c = true) (hp : p = sb (ngd a != ngd b) 0) (hr : AddR p c r) : FmaR a b c r := by
  unfold FmaR
  rw [if_neg (by simp [n1, n2, n3]), if_neg (by simp [i1, i2]), if_pos i3]
  have hn : ∀ q : Bool, isn (sb q 0) = false ∧ isi (sb q 0) = false := by intro q; cases q <;> decide
  unfold AddR at hr
  rw [hp] at hr
  rw [if_neg (by simp [(hn (ngd a != ngd b)).1, n3]), if_neg (by simp [(hn (ngd a != ngd b)).2]), if_neg (by simp [(hn (ngd a != ngd b)).2]), if_pos i3] at hr
  exact hr
theorem mulR_bd {a b p : Int} (h : MulR a b p) : 0 ≤ p ∧ p < 18446744073709551616 := by
  have sbb : ∀ (q : Bool) (x : Int), 0 ≤ x → x ≤ 9218868437227405312 → 0 ≤ sb q x ∧ sb q x < 18446744073709551616 := by
    intro q x h0 h1
    cases q <;> simp only [sb, Bool.false_eq_true, if_true, if_false] <;> omega
  unfold MulR at h
  split at h
  · omega
  split at h
  · omega
  split at h
  · rw [h]; exact sbb _ _ (by omega) (by omega)
  obtain ⟨neg, V, x, rfl, _, _, hN, _⟩ := h
  exact sbb _ _ hN.1.1 hN.1.2
end Ie

def FmaTold5 (a b c : Int) (w : World) (r : Ending) (w' : World) : Prop := ∃ x, r = .returned (.int .u64 x) ∧ Ie.FmaR a b c x ∧ Below w.heap.size w w'

set_option maxRecDepth 100000 in
set_option maxHeartbeats 4000000 in
theorem yfma_any (a b c : Int) (w : World) (a0 : 0 ≤ a) (a1 : a < 18446744073709551616) (b0 : 0 ≤ b) (b1 : b < 18446744073709551616) (c0 : 0 ≤ c) (c1 : c < 18446744073709551616) :
    Calls Tryz.prog 7 #[.int .u64 a, .int .u64 b, .int .u64 c] w fun e w' => FmaTold5 a b c w e w' := by
  have GA := hid (fun wx => yngd_any a wx)
  have GB := hid (fun wx => yngd_any b wx)
  have AN := hid (fun wx => yanynan_any a b wx a0 a1 b0 b1)
  have NC := hid (fun wx => ynan_any c wx c0 c1)
  have IA := hid (fun wx => yinf_any a wx a0 a1)
  have IB := hid (fun wx => yinf_any b wx b0 b1)
  have IC := hid (fun wx => yinf_any c wx c0 c1)
  have SI := hid (fun wx => ysigned_any (Ie.ngd a != Ie.ngd b) 0 wx (by omega) (by omega))
  have FF : Hid (∀ x w', Ie.FmaR a b c x → Below w.heap.size w w' → FmaTold5 a b c w (.returned (.int .u64 x)) w') := fun x w' h k => ⟨x, rfl, h, k⟩
  have BR := hid (Below.refl w.heap.size w)
  have ML := hid (fun wx => ymultiply_any a b wx a0 a1 b0 b1)
  have AD := hid (fun p wx (p0 : 0 ≤ p) (p1 : p < 18446744073709551616) => yadd_any p c wx p0 p1 c0 c1)
  have RA : Hid (Ie.isn a = false → Ie.isi a = false → Ie.isn b = false → Ie.isi b = false → Ie.isn c = false → Ie.isi c = false → (∀ wx, Calls Tryz.prog 22 #[.int .u64 a] wx (fun r w' => NumTold5 (Ie.ngd a) (Ie.dm a) 1 (Ie.de a) wx r w')) ∧ (∀ wx, Calls Tryz.prog 22 #[.int .u64 b] wx (fun r w' => NumTold5 (Ie.ngd b) (Ie.dm b) 1 (Ie.de b) wx r w')) ∧ (∀ wx, Calls Tryz.prog 22 #[.int .u64 c] wx (fun r w' => NumTold5 (Ie.ngd c) (Ie.dm c) 1 (Ie.de c) wx r w')) ∧ (Ie.fin a ∧ Ie.fin b ∧ Ie.fin c) ∧ (Ie.dm a < 9007199254740992 ∧ Ie.dm b < 9007199254740992 ∧ Ie.dm a * Ie.dm b < 1298074214633706907132624082305024 ∧ Ie.dm c < 1298074214633706907132624082305024) ∧ (-1100 ≤ Ie.de a ∧ Ie.de a ≤ 1000) ∧ (-1100 ≤ Ie.de b ∧ Ie.de b ≤ 1000) ∧ -1100 ≤ Ie.de c ∧ Ie.de c ≤ 1000) := fun h1 h2 h3 h4 h5 h6 => by
    have fa := Ie.fin_of h1 h2
    have fb := Ie.fin_of h3 h4
    have fc := Ie.fin_of h5 h6
    obtain ⟨⟨da0, da1⟩, ⟨ea0, ea1⟩, _, _⟩ := Ie.dec_f a fa
    obtain ⟨⟨db0, db1⟩, ⟨eb0, eb1⟩, _, _⟩ := Ie.dec_f b fb
    obtain ⟨⟨dc0, dc1⟩, ⟨ec0, ec1⟩, _, _⟩ := Ie.dec_f c fc
    have pb : Ie.dm a * Ie.dm b ≤ 9007199254740992 * 9007199254740992 := Int.mul_le_mul (by omega) (by omega) db0 (by omega)
    exact ⟨fun wx => yof2 a _ _ _ wx a0 a1 rfl rfl rfl da0 da1, fun wx => yof2 b _ _ _ wx b0 b1 rfl rfl rfl db0 db1, fun wx => yof2 c _ _ _ wx c0 c1 rfl rfl rfl dc0 dc1, ⟨fa, fb, fc⟩, ⟨da1, db1, by omega, by omega⟩, ⟨by omega, by omega⟩, ⟨by omega, by omega⟩, by omega, by omega⟩
  clear a0 a1 b0 b1 c0 c1
  rw [show Ie.ab 0 = 0 by decide] at SI
  have SI2 : Hid (∀ wx, Calls Tryz.prog 15 #[.bool (!(Ie.ngd a == Ie.ngd b)), .int .u64 0] wx fun e w' => e = .returned (.int .u64 (Ie.sb (Ie.ngd a != Ie.ngd b) 0)) ∧ w' = wx) := SI.out
  clear SI
  by_cases hn : (Ie.isn a || Ie.isn b) = true
  · have hn2 : Ie.isn a = true ∨ Ie.isn b = true ∨ Ie.isn c = true := by
      rcases Bool.or_eq_true _ _ |>.mp hn with h | h
      · exact .inl h
      · exact .inr (.inl h)
    rw [hn] at AN
    have F := hid (FF.out 9221120237041090560 w (by unfold Ie.FmaR; rw [if_pos hn2]) BR.out)
    clear FF RA BR ML AD
    go_enter Tryz.func7, Tryz.ntmps7
    go_wp2_with (first | (go_at_call 16; first | (with_reducible refine (GA.out _).mono ?_; rintro e w' ⟨rfl, rfl⟩) | (with_reducible refine (GB.out _).mono ?_; rintro e w' ⟨rfl, rfl⟩)) | (go_at_call 12; first | (with_reducible refine (AN.out _).mono ?_; rintro e w' ⟨rfl, rfl⟩)) | (go_at_call 13; first | (with_reducible refine (NC.out _).mono ?_; rintro e w' ⟨rfl, rfl⟩)) | (go_at_call 14; first | (with_reducible refine (IA.out _).mono ?_; rintro e w' ⟨rfl, rfl⟩) | (with_reducible refine (IB.out _).mono ?_; rintro e w' ⟨rfl, rfl⟩) | (with_reducible refine (IC.out _).mono ?_; rintro e w' ⟨rfl, rfl⟩)) | (go_at_call 15; first | (with_reducible refine (SI2.out _).mono ?_; rintro e w' ⟨rfl, rfl⟩)))
    go_ret
    exact F.out
  have h1 : Ie.isn a = false := by cases c : Ie.isn a; rfl; simp [c] at hn
  have h2 : Ie.isn b = false := by cases c : Ie.isn b; rfl; simp [c] at hn
  rw [h1, h2] at AN
  clear hn
  cases h3 : Ie.isn c
  · rw [h3] at NC
    cases h4 : Ie.isi a
    · rw [h4] at IA
      cases h5 : Ie.isi b
      · rw [h5] at IB
        cases h6 : Ie.isi c
        · rw [h6] at IC
          obtain ⟨OA, OB, OC, ⟨fa, fb, fc⟩, ⟨ma, mb, mp, mc⟩, ⟨ea0, ea1⟩, ⟨eb0, eb1⟩, ec0, ec1⟩ := RA.out h1 h4 h2 h5 h3 h6
          have HA := hid OA
          have HB := hid OB
          have HC := hid OC
          have KK : Hid (∀ neg V m x w', Ie.SumIs (Ie.ngd a != Ie.ngd b) (Ie.dm a * Ie.dm b) (Ie.de a + Ie.de b) (Ie.ngd c) (Ie.dm c) (Ie.de c) neg V m → Ie.Rnd V 1 m false x → Below w.heap.size w w' → FmaTold5 a b c w (.returned (.int .u64 (Ie.sg neg x))) w') := fun neg V m x w' hS hR k => FF.out _ w' (by unfold Ie.FmaR; simp only [h1, h2, h3, h4, h5, h6, Bool.false_eq_true, or_self, if_false]; exact Ie.yfma_rs fa fb fc hS hR) k
          clear OA OB OC fa fb fc FF RA BR ML AD SI2
          go_enter Tryz.func7, Tryz.ntmps7
          go_wp2_with (first | (go_at_call 16; first | (with_reducible refine (GA.out _).mono ?_; rintro e w' ⟨rfl, rfl⟩) | (with_reducible refine (GB.out _).mono ?_; rintro e w' ⟨rfl, rfl⟩)) | (go_at_call 12; first | (with_reducible refine (AN.out _).mono ?_; rintro e w' ⟨rfl, rfl⟩)) | (go_at_call 13; first | (with_reducible refine (NC.out _).mono ?_; rintro e w' ⟨rfl, rfl⟩)) | (go_at_call 14; first | (with_reducible refine (IA.out _).mono ?_; rintro e w' ⟨rfl, rfl⟩) | (with_reducible refine (IB.out _).mono ?_; rintro e w' ⟨rfl, rfl⟩) | (with_reducible refine (IC.out _).mono ?_; rintro e w' ⟨rfl, rfl⟩)) | (go_at_call 15; first | (with_reducible refine (SI2.out _).mono ?_; rintro e w' ⟨rfl, rfl⟩)))
          with_reducible refine (HA.out _).mono ?_
          rintro r w1 ⟨v1, rfl, N1, hB1⟩
          go_wp2_with fail
          with_reducible refine (HB.out _).mono ?_
          rintro r w2 ⟨v2, rfl, N2, hB2⟩
          have PR := hid (yproduct_any (N1.on hB2) (N2.lower hB1.size) (Nat.le_trans hB1.size hB2.size) ma mb (by omega) (by omega) (by omega) (by omega))
          have B2 := hid (bel hB1 hB2)
          clear N1 N2 hB1 hB2 HA HB
          go_wp2_with fail
          with_reducible refine PR.out.mono ?_
          rintro r w3 ⟨v3, rfl, N3, hB3⟩
          have B3 := hid (bel B2.out hB3)
          have M3 := hid N3
          clear N3 hB3 PR B2
          go_wp2_with fail
          with_reducible refine (HC.out _).mono ?_
          rintro r w4 ⟨v4, rfl, N4, hB4⟩
          have B4 := hid (bel B3.out hB4)
          have SU := hid (ysum_any (M3.out.on hB4) (N4.lower B3.out.size) B4.out.size mp mc (by omega) (by omega) (by omega) (by omega))
          clear N4 hB4 M3 HC B3
          go_wp2_with fail
          with_reducible refine SU.out.mono ?_
          rintro r w5 ⟨v5, neg, V, m, rfl, N5, hS, hB5⟩
          have YR := hid (yrounded_any N5 (by omega))
          have B5 := hid (bel B4.out hB5)
          have HS := hid hS
          clear N5 hB5 SU B4 hS
          go_wp2_with fail
          with_reducible refine YR.out.mono ?_
          rintro r w6 ⟨x, rfl, R, hB6⟩
          have F := hid (KK.out neg V m x w6 HS.out R (bel B5.out hB6))
          clear R hB6 YR KK B5 HS
          go_wp2_with fail
          go_ret
          exact F.out
        · rw [h6] at IC
          have pz : ∀ q : Bool, 0 ≤ Ie.sb q 0 ∧ Ie.sb q 0 < 18446744073709551616 := by intro q; cases q <;> decide
          have A1 := hid (fun wx => AD.out (Ie.sb (Ie.ngd a != Ie.ngd b) 0) wx (pz _).1 (pz _).2)
          have K1 : Hid (∀ x w', Ie.AddR (Ie.sb (Ie.ngd a != Ie.ngd b) 0) c x → Below w.heap.size w w' → FmaTold5 a b c w (.returned (.int .u64 x)) w') := fun x w' h k => FF.out x w' (Ie.fmaR_last h1 h2 h3 h4 h5 h6 rfl h) k
          clear FF RA BR ML AD pz
          obtain ⟨P, hP⟩ : ∃ P, Ie.sb (Ie.ngd a != Ie.ngd b) 0 = P := ⟨_, rfl⟩
          rw [hP] at A1 K1 SI2
          clear hP
          go_enter Tryz.func7, Tryz.ntmps7
          go_wp2_with (first | (go_at_call 16; first | (with_reducible refine (GA.out _).mono ?_; rintro e w' ⟨rfl, rfl⟩) | (with_reducible refine (GB.out _).mono ?_; rintro e w' ⟨rfl, rfl⟩)) | (go_at_call 12; first | (with_reducible refine (AN.out _).mono ?_; rintro e w' ⟨rfl, rfl⟩)) | (go_at_call 13; first | (with_reducible refine (NC.out _).mono ?_; rintro e w' ⟨rfl, rfl⟩)) | (go_at_call 14; first | (with_reducible refine (IA.out _).mono ?_; rintro e w' ⟨rfl, rfl⟩) | (with_reducible refine (IB.out _).mono ?_; rintro e w' ⟨rfl, rfl⟩) | (with_reducible refine (IC.out _).mono ?_; rintro e w' ⟨rfl, rfl⟩)) | (go_at_call 15; first | (with_reducible refine (SI2.out _).mono ?_; rintro e w' ⟨rfl, rfl⟩)))
          with_reducible refine (A1.out _).mono ?_
          rintro r w1 ⟨x, rfl, hx, hB1⟩
          have F := hid (K1.out x w1 hx hB1)
          clear hx hB1 A1 K1
          go_wp2_with fail
          go_ret
          exact F.out
      · rw [h5] at IB
        have K1 : Hid (∀ p x w', Ie.MulR a b p → Ie.AddR p c x → Below w.heap.size w w' → FmaTold5 a b c w (.returned (.int .u64 x)) w') := fun p x w' hp h k => FF.out x w' (Ie.fmaR_inf h1 h2 h3 (.inr h5) hp h) k
        clear FF RA BR
        obtain ⟨P, hP⟩ : ∃ P, Ie.sb (Ie.ngd a != Ie.ngd b) 0 = P := ⟨_, rfl⟩
        rw [hP] at SI2
        clear hP
        go_enter Tryz.func7, Tryz.ntmps7
        go_wp2_with (first | (go_at_call 16; first | (with_reducible refine (GA.out _).mono ?_; rintro e w' ⟨rfl, rfl⟩) | (with_reducible refine (GB.out _).mono ?_; rintro e w' ⟨rfl, rfl⟩)) | (go_at_call 12; first | (with_reducible refine (AN.out _).mono ?_; rintro e w' ⟨rfl, rfl⟩)) | (go_at_call 13; first | (with_reducible refine (NC.out _).mono ?_; rintro e w' ⟨rfl, rfl⟩)) | (go_at_call 14; first | (with_reducible refine (IA.out _).mono ?_; rintro e w' ⟨rfl, rfl⟩) | (with_reducible refine (IB.out _).mono ?_; rintro e w' ⟨rfl, rfl⟩) | (with_reducible refine (IC.out _).mono ?_; rintro e w' ⟨rfl, rfl⟩)) | (go_at_call 15; first | (with_reducible refine (SI2.out _).mono ?_; rintro e w' ⟨rfl, rfl⟩)))
        with_reducible refine (ML.out _).mono ?_
        rintro r w1 ⟨p, rfl, hp, hB1⟩
        have pb := Ie.mulR_bd hp
        have A1 := hid (fun wx => AD.out p wx pb.1 pb.2)
        have HP := hid hp
        have B1 := hid hB1
        clear hp pb hB1 ML AD
        go_wp2_with fail
        with_reducible refine (A1.out _).mono ?_
        rintro r w2 ⟨x, rfl, hx, hB2⟩
        have F := hid (K1.out p x w2 HP.out hx (bel B1.out hB2))
        clear hx hB2 A1 K1 HP B1
        go_wp2_with fail
        go_ret
        exact F.out
    · rw [h4] at IA
      have K1 : Hid (∀ p x w', Ie.MulR a b p → Ie.AddR p c x → Below w.heap.size w w' → FmaTold5 a b c w (.returned (.int .u64 x)) w') := fun p x w' hp h k => FF.out x w' (Ie.fmaR_inf h1 h2 h3 (.inl h4) hp h) k
      clear FF RA BR
      obtain ⟨P, hP⟩ : ∃ P, Ie.sb (Ie.ngd a != Ie.ngd b) 0 = P := ⟨_, rfl⟩
      rw [hP] at SI2
      clear hP
      go_enter Tryz.func7, Tryz.ntmps7
      go_wp2_with (first | (go_at_call 16; first | (with_reducible refine (GA.out _).mono ?_; rintro e w' ⟨rfl, rfl⟩) | (with_reducible refine (GB.out _).mono ?_; rintro e w' ⟨rfl, rfl⟩)) | (go_at_call 12; first | (with_reducible refine (AN.out _).mono ?_; rintro e w' ⟨rfl, rfl⟩)) | (go_at_call 13; first | (with_reducible refine (NC.out _).mono ?_; rintro e w' ⟨rfl, rfl⟩)) | (go_at_call 14; first | (with_reducible refine (IA.out _).mono ?_; rintro e w' ⟨rfl, rfl⟩) | (with_reducible refine (IB.out _).mono ?_; rintro e w' ⟨rfl, rfl⟩) | (with_reducible refine (IC.out _).mono ?_; rintro e w' ⟨rfl, rfl⟩)) | (go_at_call 15; first | (with_reducible refine (SI2.out _).mono ?_; rintro e w' ⟨rfl, rfl⟩)))
      with_reducible refine (ML.out _).mono ?_
      rintro r w1 ⟨p, rfl, hp, hB1⟩
      have pb := Ie.mulR_bd hp
      have A1 := hid (fun wx => AD.out p wx pb.1 pb.2)
      have HP := hid hp
      have B1 := hid hB1
      clear hp pb hB1 ML AD
      go_wp2_with fail
      with_reducible refine (A1.out _).mono ?_
      rintro r w2 ⟨x, rfl, hx, hB2⟩
      have F := hid (K1.out p x w2 HP.out hx (bel B1.out hB2))
      clear hx hB2 A1 K1 HP B1
      go_wp2_with fail
      go_ret
      exact F.out
  · rw [h3] at NC
    have F := hid (FF.out 9221120237041090560 w (by unfold Ie.FmaR; rw [if_pos (.inr (.inr h3))]) BR.out)
    clear FF RA BR ML AD
    go_enter Tryz.func7, Tryz.ntmps7
    go_wp2_with (first | (go_at_call 16; first | (with_reducible refine (GA.out _).mono ?_; rintro e w' ⟨rfl, rfl⟩) | (with_reducible refine (GB.out _).mono ?_; rintro e w' ⟨rfl, rfl⟩)) | (go_at_call 12; first | (with_reducible refine (AN.out _).mono ?_; rintro e w' ⟨rfl, rfl⟩)) | (go_at_call 13; first | (with_reducible refine (NC.out _).mono ?_; rintro e w' ⟨rfl, rfl⟩)) | (go_at_call 14; first | (with_reducible refine (IA.out _).mono ?_; rintro e w' ⟨rfl, rfl⟩) | (with_reducible refine (IB.out _).mono ?_; rintro e w' ⟨rfl, rfl⟩) | (with_reducible refine (IC.out _).mono ?_; rintro e w' ⟨rfl, rfl⟩)) | (go_at_call 15; first | (with_reducible refine (SI2.out _).mono ?_; rintro e w' ⟨rfl, rfl⟩)))
    go_ret
    exact F.out
end Go.Proofs.YtljpmddjcfkonaaGreatDoor
