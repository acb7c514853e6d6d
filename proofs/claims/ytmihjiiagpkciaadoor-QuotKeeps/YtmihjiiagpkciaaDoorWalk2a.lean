/-
  THE WALK OF addTimes; WHAT A LOOP THAT WRITES A SUM KEEPS TO.
-/
import Derived.Test.YtmihjiiagpkciaaDoorWalk1
import Derived.Test.YtmihjiiagpkciaaDoorBits
namespace Go.Proofs.YtmihjiiagpkciaaDoor
open Go.RowKit Go.Deep

theorem Ans.small {B : Nat} {w : World} {p : Option Addr} {ys : List Int} {n : Int} (h : Ans B w p ys n) (hn : n < Nm.pw 4096) : ys.length ≤ 4096 := by
  have h1 := (Nm.tsize_le_iff h.2.1 4096).2 (by rw [h.2.2.2.1]; exact hn)
  have h2 := h.2.2.1
  omega

theorem Arg.small {w : World} {p : Option Addr} {n cap : Nat} {zs : List Int} (h : Arg w p n cap zs) (hn : Nm.val zs < Nm.pw 4096) : Nm.tsize zs ≤ 4096 := (Nm.tsize_le_iff h.2.2.2.2 4096).2 hn

/-- Behind j limbs of a sum: what is in the block, and the carry beyond it, is T. -/
def AddInv (g k : Nat) (w : World) (T : Int) (j : Nat) (c : Int) (os : List Int) (wr : World) : Prop :=
  Own wr g os ∧ os.length = k ∧ Nm.Limbs os ∧ Nm.val os + Nm.pw j * c = T ∧ Below g w wr ∧ wr.heap.size = w.heap.size

theorem AddInv.step {g k : Nat} {w : World} {T : Int} {j : Nat} {c : Int} {os : List Int} {wr : World} (h : AddInv g k w T j c os wr) (hj : j < k) {x s c' : Int}
    (hs : s = (os.getD j 0 + x + c) % 18446744073709551616) (hc : c' = (os.getD j 0 + x + c) / 18446744073709551616) :
    AddInv g k w (T + Nm.pw j * x) (j + 1) c' (os.set j s) (wr.setCell ⟨g, j, none⟩ (.int .u64 s)) := by
  obtain ⟨h1, h2, h3, h4, h5, h6⟩ := h
  refine ⟨h1.set j s, by simpa using h2, h3.set j (by omega) (by omega), Nm.add_step (by omega) (by omega) h4, h5.setCell (Nat.le_refl _) _, by simpa [World.setCell] using h6⟩

theorem AddInv.end {g k : Nat} {w : World} {T : Int} {j : Nat} {c : Int} {os : List Int} {wr : World} (h : AddInv g k w T j c os wr) (hT : T < Nm.pw k) (hc : 1 ≤ c) : j < k := by
  obtain ⟨h1, h2, h3, h4, h5, h6⟩ := h
  rcases Nat.lt_or_ge j k with hj | hj
  · exact hj
  · have e1 := Nm.pw_mono hj
    have e2 := (Nm.val_bd os h3).1
    have e3 := Nm.pw_pos j
    have e4 : Nm.pw j * 1 ≤ Nm.pw j * c := Int.mul_le_mul_of_nonneg_left hc (by omega)
    omega

/-- Block g holds k limbs of the number T; below g nothing has turned. -/
def Wrote (g k : Nat) (T : Int) (w w' : World) : Prop := ∃ os, Own w' g os ∧ os.length = k ∧ Nm.Limbs os ∧ Nm.val os = T ∧ Below g w w' ∧ w'.heap.size = w.heap.size

/-- Behind j limbs of a product added in, from limb o on: what is in the block, and the carry beyond, is T; behind limb 'top' nothing has turned. -/
def MulInv (g k top : Nat) (w : World) (zs : List Int) (T : Int) (j : Nat) (c : Int) (os : List Int) (wr : World) : Prop :=
  AddInv g k w T j c os wr ∧ (0 ≤ c ∧ c < 18446744073709551616) ∧ ∀ i, top ≤ i → os.getD i 0 = zs.getD i 0

/-- One limb: s + 2^64 c' = out[j] + x m + c. -/
theorem MulInv.step {g k top : Nat} {w : World} {zs : List Int} {T : Int} {j : Nat} {c : Int} {os : List Int} {wr : World} (h : MulInv g k top w zs T j c os wr) (hj : j < k) (ht : j < top) {x s c' : Int}
    (hs0 : 0 ≤ s ∧ s < 18446744073709551616) (hc0 : 0 ≤ c' ∧ c' < 18446744073709551616) (hs : s + 18446744073709551616 * c' = os.getD j 0 + x + c) :
    MulInv g k top w zs (T + Nm.pw j * x) (j + 1) c' (os.set j s) (wr.setCell ⟨g, j, none⟩ (.int .u64 s)) := by
  obtain ⟨⟨h1, h2, h3, h4, h5, h6⟩, h7, h8⟩ := h
  refine ⟨⟨h1.set j s, by simpa using h2, h3.set j hs0.1 hs0.2, Nm.add_step (by omega) hs h4, h5.setCell (Nat.le_refl _) _, by simpa [World.setCell] using h6⟩, hc0, fun i hi => ?_⟩
  rw [Nm.getD_set _ _ _ _ (by omega), if_neg (by omega)]
  exact h8 i hi

/-- The limbs of one round of addTimes. -/
theorem times_step {x m y c p l h : Int} {s1 k1 s2 k2 : Int} (hp : l + 18446744073709551616 * h = p) (hl : 0 ≤ l ∧ l < 18446744073709551616) (hh : 0 ≤ h) (hx : 0 ≤ x ∧ x < 18446744073709551616) (hm : 0 ≤ m ∧ m < 18446744073709551616) (hxm : p = x * m)
    (hy : 0 ≤ y ∧ y < 18446744073709551616) (hc : 0 ≤ c ∧ c < 18446744073709551616)
    (e1 : s1 = (l + y + 0) % 18446744073709551616) (e2 : k1 = (l + y + 0) / 18446744073709551616) (e3 : s2 = (s1 + c + 0) % 18446744073709551616) (e4 : k2 = (s1 + c + 0) / 18446744073709551616) :
    (0 ≤ s2 ∧ s2 < 18446744073709551616) ∧ (0 ≤ h + k1 + k2 ∧ h + k1 + k2 < 18446744073709551616) ∧ s2 + 18446744073709551616 * (h + k1 + k2) = y + x * m + c := by
  have hb : x * m ≤ 18446744073709551615 * 18446744073709551615 := Int.mul_le_mul (by omega) (by omega) (by omega) (by omega)
  rw [← hxm] at hb ⊢
  clear hxm
  omega

set_option maxHeartbeats 1000000 in
theorem addTimes_any (g k o n cap : Nat) (zs : List Int) (q : Option Addr) (cap' : Nat) (ys : List Int) (m : Int) (w : World) (hk : zs.length = k) (hkm : k ≤ 35184372088832) (ho : Own w g zs) (hl : Nm.Limbs zs)
    (hn : ys.length = n) (hon : o + n ≤ k) (hy : Lies w q ys) (hly : Nm.Limbs ys) (hq : 0 < ys.length → ∀ a, q = some a → a.block < g) (hm0 : 0 ≤ m) (hm1 : m < 18446744073709551616) :
    Calls Tryd.prog 66 #[.slice (some ⟨g, o, none⟩) n cap, .slice q n cap', .int .u64 m] w fun e w' => ∃ (c : Int) (os : List Int), e = .returned (.int .u64 c) ∧
      MulInv g k (o + n) w zs (Nm.val zs + Nm.pw o * (Nm.val ys * m)) (o + n) c os w' := by
  rcases hy with rfl | ⟨b, off, rfl, hcell⟩
  · have hn0 : n = 0 := by simpa using hn.symm
    subst hn0
    have E : MulInv g k (o + 0) w zs (Nm.val zs + Nm.pw o * (Nm.val [] * m)) (o + 0) 0 zs w := ⟨⟨ho, hk, hl, by simp [Nm.val], Below.refl _ _, rfl⟩, by omega, fun _ _ => rfl⟩
    clear ho hl hq hn hk
    go_enter Tryd.func66, Tryd.ntmps66
    go_wp2
    refine wp_loop_rounds 1 ?_
    rw [rounds_succ]
    go_wp2
    go_ret
    exact ⟨0, zs, rfl, E⟩
  · have hbg : 0 < ys.length → b < g := fun h => hq h _ rfl
    have I0 : MulInv g k (o + n) w zs (Nm.val zs + Nm.pw o * (Nm.val (ys.take 0) * m)) (o + 0) 0 zs w := ⟨⟨ho, hk, hl, by simp [Nm.val], Below.refl _ _, rfl⟩, by omega, fun _ _ => rfl⟩
    have HC : Hid (∀ i, i < ys.length → w.cell? ⟨b, off + i, none⟩ = some (.int .u64 (ys.getD i 0))) := hcell
    have HM : Hid (ys.length = n) := hn
    have HY : Hid (Nm.Limbs ys) := hly
    clear hcell hn hly hq ho hk hl
    go_enter Tryd.func66, Tryd.ntmps66
    go_wp2
    go_loopw [7, 15] (fun c i wr => ∃ (j : Nat) (cc : Int) (os : List Int), j ≤ n ∧ i = .int .i64 j ∧ c = .int .u64 cc ∧ MulInv g k (o + n) w zs (Nm.val zs + Nm.pw o * (Nm.val (ys.take j) * m)) (o + j) cc os wr) (fun _ i _ => n - (intOf i).toNat)
    case atStart => exact ⟨0, 0, zs, Nat.zero_le _, rfl, rfl, I0⟩
    case round =>
      clear I0
      obtain ⟨j, cc, os, hj, rfl, rfl, I⟩ := hrel
      by_cases hlt : j < n
      · obtain ⟨x, hx, X⟩ : ∃ x, wr.cell? ⟨b, off + j, none⟩ = some (.int .u64 x) ∧ Hid (x = ys.getD j 0) :=
          ⟨_, (I.1.2.2.2.2.1.cell (p := ⟨b, off + j, none⟩) (hbg (by have := HM.out; omega))).trans (HC.out j (by have := HM.out; omega)), rfl⟩
        obtain ⟨y, hyc, Y⟩ : ∃ y, wr.cell? ⟨g, o + j, none⟩ = some (.int .u64 y) ∧ Hid (y = os.getD (o + j) 0) := ⟨_, I.1.1.cell (o + j) (by have := I.1.2.1; omega), rfl⟩
        have hfr := I.1.1.free (o + j)
        have hx0 : 0 ≤ x ∧ x < 18446744073709551616 := by have := HY.out.at j; have := X.out; omega
        have hy0 : 0 ≤ y ∧ y < 18446744073709551616 := by have := I.1.2.2.1.at (o + j); have := Y.out; omega
        have hcc := I.2.1
        obtain ⟨hx0, hx1⟩ := hx0
        obtain ⟨hy0, hy1⟩ := hy0
        obtain ⟨hcc0, hcc1⟩ := hcc
        go_wp2_with fail
        refine (mul64 x m hx0 hx1 hm0 hm1 _).mono ?_
        rintro e w' ⟨h, l, rfl, ⟨hh0, hh1, hl0, hl1⟩, P1, _, rfl⟩
        obtain ⟨s1, S1⟩ : ∃ s, Hid (s = (l + y + 0) % 18446744073709551616) := ⟨_, rfl⟩
        obtain ⟨k1, K1⟩ : ∃ c, Hid (c = (l + y + 0) / 18446744073709551616) := ⟨_, rfl⟩
        obtain ⟨s2, S2⟩ : ∃ s, Hid (s = (s1 + cc + 0) % 18446744073709551616) := ⟨_, rfl⟩
        obtain ⟨k2, K2⟩ : ∃ c, Hid (c = (s1 + cc + 0) / 18446744073709551616) := ⟨_, rfl⟩
        have hs1 : 0 ≤ s1 := by have := S1.out; omega
        have ST := hid (times_step P1.out ⟨hl0, hl1⟩ hh0 ⟨hx0, hx1⟩ ⟨hm0, hm1⟩ rfl ⟨hy0, hy1⟩ ⟨hcc0, hcc1⟩ S1.out K1.out S2.out K2.out)
        have hk1 : 0 ≤ k1 := by have := K1.out; omega
        have hk2 : 0 ≤ k2 := by have := K2.out; omega
        have hkk : h + k1 + k2 < 18446744073709551616 := ST.out.2.1.2
        go_wp2_with (first | simp only [add64' l y 0 s1 k1 hl0 hy0 (Int.le_refl 0) (by decide) S1.out K1.out] | simp only [add64' s1 cc 0 s2 k2 hs1 hcc0 (Int.le_refl 0) (by decide) S2.out K2.out])
        go_roundw
        case rel =>
          have hst := I.step (by omega) (by omega) (x := x * m) (s := s2) (c' := h + k1 + k2) ST.out.1 ST.out.2.1 (by rw [← Y.out]; exact ST.out.2.2)
          refine ⟨j + 1, h + k1 + k2, os.set (o + j) s2, by omega, by go_num, rfl, ?_⟩
          have e : Nm.val zs + Nm.pw o * (Nm.val (ys.take (j + 1)) * m) = Nm.val zs + Nm.pw o * (Nm.val (ys.take j) * m) + Nm.pw (o + j) * (x * m) := by
            rw [Nm.val_take_succ ys j (by have := HM.out; omega), ← X.out, Nm.pw_add, Int.add_mul, Int.mul_add, Int.mul_assoc, Int.mul_assoc]
            omega
          rw [e]
          exact hst
        case measure => simp [intOf]; omega
      · have hjn : j = n := by omega
        subst hjn
        rw [List.take_of_length_le (by have := HM.out; omega)] at I
        go_wp2
        go_ret
        exact ⟨cc, os, rfl, I⟩
end Go.Proofs.YtmihjiiagpkciaaDoor
