/-
  Texts put together: QGuess, SubA, QTake, QDiv, QLimbs, FromW, Walk6, QDivMod, QDivOk, IAnsS.
-/
import Derived.Test.YtggiioipppbedaaGreatDoorQShift
import Derived.Test.YtggiioipppbedaaGreatDoorWalk2a
import Derived.Shelf.Spec.BitsCarry
import Derived.Test.YtggiioipppbedaaGreatDoorWalk5a
import Derived.Test.YtggiioipppbedaaGreatDoorBare
import Derived.WalkMore
import Derived.Deep.LoopGhost
import Derived.Test.YtggiioipppbedaaGreatDoorBlenIs
import Derived.Test.YtggiioipppbedaaGreatDoorSmallA
import Derived.Test.YtggiioipppbedaaGreatDoorDiv1
import Derived.Test.YtggiioipppbedaaGreatDoorTrimW
import Derived.Test.YtggiioipppbedaaGreatDoorMem
namespace Go.Proofs.YtggiioipppbedaaGreatDoor
open Go.RowKit Go.Deep

/-- Both lists lie where they lay. -/
def Both (w : World) (p q : Option Addr) (ps bs : List Int) : Prop := Lies w p ps ∧ Lies w q bs

theorem Both.below {w w' : World} {p q : Option Addr} {ps bs : List Int} (h : Both w p q ps bs) (hb : Below w.heap.size w w') : Both w' p q ps bs :=
  ⟨h.1.below hb (Nat.le_refl _), h.2.below hb (Nat.le_refl _)⟩

/-- Moved up till its highest binary digit is at the top, the divisor keeps its limbs. -/
theorem room_up {bs : List Int} (hz : Nm.Limbs bs) {k : Nat} (lb : bs.length = k + 2) {T U y : Int} (hT : 0 < T) (hTU : T * U = 18446744073709551616) (hy : bs.getD (k + 1) 0 = y) (hyT : y * T < 18446744073709551616) : Nm.val bs * T < Nm.pw (k + 2) := by
  have h1 := Nm.val_take_succ bs (k + 1) (by omega)
  rw [List.take_of_length_le (by omega), hy] at h1
  have h2 := (Nm.val_bd _ (hz.take (k + 1))).2
  rw [List.length_take, Nat.min_eq_left (by omega)] at h2
  have hyU : y + 1 ≤ U := by
    rcases (show y + 1 ≤ U ∨ U ≤ y by omega) with c | c
    · exact c
    · exfalso
      have : U * T ≤ y * T := Int.mul_le_mul_of_nonneg_right c (by omega)
      rw [Int.mul_comm U T, hTU] at this
      omega
  have h3 : (y + 1) * T ≤ U * T := Int.mul_le_mul_of_nonneg_right hyU (by omega)
  rw [Int.mul_comm U T, hTU] at h3
  have hp := Nm.pw_pos (k + 1)
  have h4 : Nm.pw (k + 1) * ((y + 1) * T) ≤ Nm.pw (k + 1) * 18446744073709551616 := Int.mul_le_mul_of_nonneg_left h3 (by omega)
  have h5 : Nm.val bs < Nm.pw (k + 1) * (y + 1) := by rw [Int.mul_add, Int.mul_one]; omega
  have h6 := Int.mul_lt_mul_of_pos_right h5 hT
  rw [Int.mul_assoc] at h6
  rw [show k + 2 = k + 1 + 1 from rfl, Nm.pw_succ]
  omega

set_option maxRecDepth 100000 in
set_option maxHeartbeats 1000000 in
theorem guess_any (p q : Option Addr) (k n n1 cap cap' : Nat) (ps bs : List Int) (w : World) (hn : n = k + 2) (hn1 : n1 = k + 3) (lb : bs.length = n) (lp : ps.length = n1) (hc : n1 ≤ cap) (hc' : n ≤ cap') (hm : cap ≤ 140737488355328) (hm' : cap' ≤ 140737488355328)
    (hp : Lies w p ps) (hb : Lies w q bs) (hlp : Nm.Limbs ps) (hlb : Nm.Limbs bs) (htop : bs.getD (k + 1) 0 ≠ 0) (hpb : Nm.val ps < Nm.val bs * 18446744073709551616) :
    Calls Tryz.prog 105 #[.slice p n1 cap, .slice q n cap'] w fun e w' => ∃ g, e = .returned (.int .u64 g) ∧ (0 ≤ g ∧ g < 18446744073709551616) ∧ Hid (∀ x, 0 ≤ x → x * Nm.val bs ≤ Nm.val ps → x ≤ g) ∧ Below w.heap.size w w' := by
  obtain ⟨b, off, rfl, hbw, HC⟩ := hb.at (by omega)
  obtain ⟨t1, HT1⟩ : ∃ t1, Hid (t1 = k + 1) := ⟨_, rfl⟩
  have e1 : (n : Int) - 1 = (t1 : Int) := by rw [HT1.out]; omega
  obtain ⟨y, hy, Y⟩ : ∃ y, w.cell? ⟨b, off + t1, none⟩ = some (.int .u64 y) ∧ Hid (y = bs.getD t1 0) := ⟨_, HC.out t1 (by rw [HT1.out]; omega), rfl⟩
  have hy0 := hlb.at t1
  rw [← Y.out] at hy0
  obtain ⟨hy0, hy1⟩ := hy0
  have hyp : 0 < y := by
    have := Y.out
    rw [HT1.out] at this
    omega
  obtain ⟨l, hl⟩ : ∃ l, Lib.bitLen y.toNat = l := ⟨_, rfl⟩
  obtain ⟨t, ht, ht63, _, hyT, hT, hU, hTU⟩ := shift_facts y l hyp hy1 hl
  have LE := lead_any y l w hy0 hy1 hl
  rw [show 64 - (l : Int) = (t : Int) by omega] at LE
  have F := Qd.fits hlb hlp hT hU hTU (k := k) (by omega) (by omega) (room_up hlb (by omega) hT hTU (by rw [← HT1.out]; exact Y.out.symm) hyT) hpb
  have Bf := Qd.limb_bd hlb hT hU hTU (k + 1)
  have Bs := Qd.limb_bd hlb hT hU hTU k
  have Bh := Qd.limb_bd hlp hT hU hTU (k + 2)
  have Bm := Qd.limb_bd hlp hT hU hTU (k + 1)
  have Bl := Qd.limb_bd hlp hT hU hTU k
  obtain ⟨f, hf⟩ : ∃ f, Qd.limb bs (2 ^ t) (2 ^ (64 - t)) (k + 1) = f := ⟨_, rfl⟩
  obtain ⟨s, hs⟩ : ∃ f, Qd.limb bs (2 ^ t) (2 ^ (64 - t)) k = f := ⟨_, rfl⟩
  obtain ⟨h, hh⟩ : ∃ f, Qd.limb ps (2 ^ t) (2 ^ (64 - t)) (k + 2) = f := ⟨_, rfl⟩
  obtain ⟨m, hmm⟩ : ∃ f, Qd.limb ps (2 ^ t) (2 ^ (64 - t)) (k + 1) = f := ⟨_, rfl⟩
  obtain ⟨lo, hlo⟩ : ∃ f, Qd.limb ps (2 ^ t) (2 ^ (64 - t)) k = f := ⟨_, rfl⟩
  rw [hf, hs, hh, hmm, hlo] at F
  rw [hf] at Bf
  rw [hs] at Bs
  rw [hh] at Bh
  rw [hmm] at Bm
  rw [hlo] at Bl
  obtain ⟨f0, f1⟩ := Bf
  obtain ⟨s0, s1⟩ := Bs
  obtain ⟨h0, h1⟩ := Bh
  obtain ⟨m0, m1⟩ := Bm
  obtain ⟨lo0, lo1⟩ := Bl
  obtain ⟨hhf, hfit⟩ := F
  have HQ : Hid (∀ x, (fun x => 0 ≤ x ∧ x * Nm.val bs ≤ Nm.val ps) x → Qd.Fits x f s h m lo) := fun x hx => hfit x hx.1 hx.2
  have HLE := hid LE
  have HBO : Hid (Both w p (some ⟨b, off, none⟩) ps bs) := ⟨hp, hb⟩
  have HF := hid hf
  have HS := hid hs
  have HH := hid hh
  have HM := hid hmm
  have HL := hid hlo
  have hLP := hid hlp
  have hLB := hid hlb
  have HN := hid hn
  have HN1 := hid hn1
  have HLP := hid lp
  have HLB := hid lb
  have hnn1 : (n : Int) < (n1 : Int) := by omega
  clear LE hf hs hh hmm hlo hfit hlp hlb hn hn1 lp lb hp hb hl ht htop hpb hyT hT hU hTU
  have fin : ∀ (g : Int), (∀ x, (fun x => 0 ≤ x ∧ x * Nm.val bs ≤ Nm.val ps) x → x ≤ g) → Hid (∀ x, 0 ≤ x → x * Nm.val bs ≤ Nm.val ps → x ≤ g) := fun g hg x x0 hx => hg x ⟨x0, hx⟩
  have FIN := hid fin
  clear fin
  go_enter Tryz.func105, Tryz.ntmps105
  go_wp2_with fail
  refine HLE.out.mono ?_
  rintro e w' ⟨rfl, rfl⟩
  clear HLE hy
  go_wp2_with fail
  refine (shifted_any _ n cap' bs (k + 1) t _ _ f _ HLB.out hc' hm' HBO.out.2 hLB.out (by have := HN.out; omega) ht63 (by have := HT1.out; omega) rfl HF.out).mono ?_
  rintro e w1 ⟨rfl, hb1⟩
  have HB1 := hid hb1
  have HBO1 := hid (HBO.out.below hb1)
  clear hb1
  go_wp2_with fail
  refine (shifted_any _ n cap' bs k t _ _ s _ HLB.out hc' hm' HBO1.out.2 hLB.out (by have := HN.out; omega) ht63 (by have := HT1.out; omega) rfl HS.out).mono ?_
  rintro e w2 ⟨rfl, hb2⟩
  have HB2 := hid (chain HB1.out hb2 (Nat.le_refl _))
  have HBO2 := hid (HBO1.out.below hb2)
  clear hb2
  go_wp2_with fail
  refine (shifted_any _ n1 cap ps (k + 2) t _ _ h _ HLP.out hc hm HBO2.out.1 hLP.out (by have := HN1.out; omega) ht63 (by have := HT1.out; omega) rfl HH.out).mono ?_
  rintro e w3 ⟨rfl, hb3⟩
  have HB3 := hid (chain HB2.out hb3 (Nat.le_refl _))
  have HBO3 := hid (HBO2.out.below hb3)
  clear hb3
  go_wp2_with fail
  refine (shifted_any _ n1 cap ps (k + 1) t _ _ m _ HLP.out hc hm HBO3.out.1 hLP.out (by have := HN1.out; omega) ht63 (by have := HT1.out; omega) rfl HM.out).mono ?_
  rintro e w4 ⟨rfl, hb4⟩
  have HB4 := hid (chain HB3.out hb4 (Nat.le_refl _))
  have HBO4 := hid (HBO3.out.below hb4)
  clear hb4
  go_wp2_with fail
  refine (shifted_any _ n1 cap ps k t _ _ lo _ HLP.out hc hm HBO4.out.1 hLP.out (by have := HN1.out; omega) ht63 (by have := HT1.out; omega) rfl HL.out).mono ?_
  rintro e w5 ⟨rfl, hb5⟩
  have HB5 := hid (chain HB4.out hb5 (Nat.le_refl _))
  clear hb5 HB1 HB2 HB3 HB4 HBO HBO1 HBO2 HBO3 HBO4
  by_cases hhe : h = f
  · have hhe' : (h == f) = true := by simp [hhe]
    obtain ⟨s1', S1⟩ : ∃ s, Hid (s = (m + f + 0) % 18446744073709551616) := ⟨_, rfl⟩
    obtain ⟨k1, K1⟩ : ∃ c, Hid (c = (m + f + 0) / 18446744073709551616) := ⟨_, rfl⟩
    by_cases hov : m + f < 18446744073709551616
    · have ek : k1 = 0 := by have := K1.out; omega
      have es : s1' = m + f := by have := S1.out; omega
      subst ek
      subst es
      have OV := hid (Qd.over_even HQ.out hhe (by omega) hov)
      go_wp2_with (simp only [add64' m f 0 _ _ m0 f0 (Int.le_refl 0) (by decide) S1.out K1.out])
      refine (lessened_any _ f s h m lo _ _ _ HQ.out f0 f1 s0 s1 lo0 lo1 OV.out).mono ?_
      rintro e w6 ⟨g, rfl, G, GQ, rfl⟩
      have HG := hid G
      clear G
      go_wp2_with fail
      go_ret
      exact ⟨g, rfl, HG.out, FIN.out g GQ.out, HB5.out⟩
    · have ek : k1 = 1 := by have := K1.out; omega
      subst ek
      have OV := hid (Qd.over_most HQ.out)
      go_wp2_with (simp only [add64' m f 0 _ _ m0 f0 (Int.le_refl 0) (by decide) S1.out K1.out])
      go_ret
      exact ⟨_, rfl, by omega, FIN.out _ OV.out, HB5.out⟩
  · have hhe' : (h == f) = false := by rw [beq_eq_false_iff_ne]; exact hhe
    have hlt : h < f := by omega
    go_wp2_with fail
    refine (div64 h m f _ h0 hlt m0 m1 f1).mono ?_
    rintro e w6 ⟨d, r, rfl, ⟨d0, d1, r0, r1⟩, E, hb6⟩
    have HB6 := hid (chain HB5.out hb6 (Nat.le_refl _))
    have OV := hid (Qd.over_first HQ.out s0 lo1 ⟨d0, d1⟩ r0 r1 f1 E.out)
    clear hb6 E
    go_wp2_with fail
    refine (lessened_any _ f s h m lo _ _ _ HQ.out f0 f1 s0 s1 lo0 lo1 OV.out).mono ?_
    rintro e w7 ⟨g, rfl, G, GQ, rfl⟩
    have HG := hid G
    clear G
    go_wp2_with fail
    go_ret
    exact ⟨g, rfl, HG.out, FIN.out g GQ.out, HB6.out⟩
end Go.Proofs.YtggiioipppbedaaGreatDoor

namespace Go.Proofs.YtggiioipppbedaaGreatDoor
open Go.RowKit Go.Deep

/-- Sub64: the limb of a difference, and the borrow, under names. -/
theorem sub64' (x y b s b' : Int) (hx : 0 ≤ x) (hx1 : x < 18446744073709551616) (hy : 0 ≤ y) (hy1 : y < 18446744073709551616) (hb0 : 0 ≤ b) (hb : b ≤ 1) (hs : 0 ≤ s ∧ s < 18446744073709551616) (hb' : 0 ≤ b' ∧ b' ≤ 1) (he : s + 18446744073709551616 * (-b') = x + (-y) + (-b)) (w : World) :
    (callFunc 110 #[.int .u64 x, .int .u64 y, .int .u64 b]).run Tryz.prog w = .ok (.value (.tuple #[.int .u64 s, .int .u64 b'])) w := by
  obtain ⟨x, rfl⟩ := Int.eq_ofNat_of_zero_le hx
  obtain ⟨y, rfl⟩ := Int.eq_ofNat_of_zero_le hy
  obtain ⟨b, rfl⟩ := Int.eq_ofNat_of_zero_le hb0
  rw [run_callFunc_extern Tryz.func110 (by kernel_rfl) (by kernel_rfl) (by kernel_rfl) (e := sub64Entry) (by kernel_rfl), run_sub64 x y b (by omega)]
  have e1 : (((x + 18446744073709551616 - y - b) % 18446744073709551616 : Nat) : Int) = s := by omega
  have e2 : ((if x < y + b then 1 else 0 : Nat) : Int) = b' := by split <;> omega
  rw [e1, e2]
  rfl

theorem sub_names (x y b : Int) (hx : 0 ≤ x) (hx1 : x < 18446744073709551616) (hy : 0 ≤ y) (hy1 : y < 18446744073709551616) (hb0 : 0 ≤ b) (hb : b ≤ 1) : ∃ s b' : Int, (0 ≤ s ∧ s < 18446744073709551616) ∧ (0 ≤ b' ∧ b' ≤ 1) ∧ Hid (s + 18446744073709551616 * (-b') = x + (-y) + (-b)) :=
  ⟨(x - y - b) % 18446744073709551616, -((x - y - b) / 18446744073709551616), by omega, by omega, show _ = _ by omega⟩

theorem AddInv.down {g k : Nat} {w : World} {T : Int} {j : Nat} {c : Int} {os : List Int} {wr : World} (h : AddInv g k w T j c os wr) (hj : j < k) {x s c' : Int} (hs0 : 0 ≤ s ∧ s < 18446744073709551616) (hs : s + 18446744073709551616 * c' = os.getD j 0 + x + c) :
    AddInv g k w (T + Nm.pw j * x) (j + 1) c' (os.set j s) (wr.setCell ⟨g, j, none⟩ (.int .u64 s)) := by
  obtain ⟨h1, h2, h3, h4, h5, h6⟩ := h
  exact ⟨h1.set j s, by simpa using h2, h3.set j hs0.1 hs0.2, Nm.add_step (by omega) hs h4, h5.setCell (Nat.le_refl _) _, by simpa [World.setCell] using h6⟩

theorem AddInv.stop {g k : Nat} {w : World} {T : Int} {j : Nat} {b : Int} {os : List Int} {wr : World} (h : AddInv g k w T j (-b) os wr) (hT : 0 ≤ T) (hb : 1 ≤ b) : j < k := by
  obtain ⟨h1, h2, h3, h4, h5, h6⟩ := h
  rcases Nat.lt_or_ge j k with hj | hj
  · exact hj
  · have e1 := Nm.pw_mono hj
    have e2 := (Nm.val_bd os h3).2
    rw [h2] at e2
    have e3 := Nm.pw_pos j
    have e4 : Nm.pw j * 1 ≤ Nm.pw j * b := Int.mul_le_mul_of_nonneg_left hb (by omega)
    rw [Int.mul_neg] at h4
    omega
end Go.Proofs.YtggiioipppbedaaGreatDoor

namespace Go.Proofs.YtggiioipppbedaaGreatDoor
open Go.RowKit Go.Deep

/-- As AddInv; from limb 'top' on the block is as it was, and so is every other block. -/
def PartInv (g k top : Nat) (w : World) (zs : List Int) (T : Int) (j : Nat) (c : Int) (os : List Int) (wr : World) : Prop :=
  AddInv g k w T j c os wr ∧ (∀ i, top ≤ i → os.getD i 0 = zs.getD i 0) ∧ ∀ b, b ≠ g → wr.heap[b]? = w.heap[b]?

theorem PartInv.step {g k top : Nat} {w : World} {zs : List Int} {T : Int} {j : Nat} {c : Int} {os : List Int} {wr : World} (h : PartInv g k top w zs T j c os wr) (hj : j < k) (ht : j < top) {x s c' : Int}
    (hs0 : 0 ≤ s ∧ s < 18446744073709551616) (hs : s + 18446744073709551616 * c' = os.getD j 0 + x + c) :
    PartInv g k top w zs (T + Nm.pw j * x) (j + 1) c' (os.set j s) (wr.setCell ⟨g, j, none⟩ (.int .u64 s)) := by
  obtain ⟨h1, h2, h3⟩ := h
  refine ⟨h1.down hj hs0 hs, fun i hi => ?_, fun b hb => ?_⟩
  · rw [Nm.getD_set _ _ _ _ (by have := h1.2.1; omega), if_neg (by omega)]
    exact h2 i hi
  · rw [← h3 b hb]
    simp only [World.setCell, Array.getElem?_modify]
    rw [if_neg (by omega)]

theorem PartInv.own {g k top : Nat} {w : World} {zs : List Int} {T : Int} {j : Nat} {c : Int} {os : List Int} {wr : World} (h : PartInv g k top w zs T j c os wr) {b : Nat} {xs : List Int} (ho : Own w b xs) (hb : b ≠ g) : Own wr b xs := by
  simp only [Own] at ho ⊢
  rw [h.2.2 b hb]
  exact ho

/-- The limbs of one round of takeTimes. -/
theorem take_step {x m y c p l h s1 k1 s2 b : Int} (hp : l + 18446744073709551616 * h = p) (hl : 0 ≤ l ∧ l < 18446744073709551616) (hh : 0 ≤ h) (hx : 0 ≤ x ∧ x < 18446744073709551616) (hm : 0 ≤ m ∧ m < 18446744073709551616) (hxm : p = x * m)
    (hy : 0 ≤ y ∧ y < 18446744073709551616) (hc : 0 ≤ c ∧ c < 18446744073709551616) (e1 : s1 = (l + c + 0) % 18446744073709551616) (e2 : k1 = (l + c + 0) / 18446744073709551616)
    (hs : 0 ≤ s2 ∧ s2 < 18446744073709551616) (_hb : 0 ≤ b ∧ b ≤ 1) (e3 : s2 + 18446744073709551616 * (-b) = y + (-s1) + (-0)) :
    (0 ≤ h + k1 + b ∧ h + k1 + b < 18446744073709551616) ∧ s2 + 18446744073709551616 * (-(h + k1 + b)) = y + (-(x * m)) + (-c) := by
  have hbd : x * m ≤ 18446744073709551615 * 18446744073709551615 := Int.mul_le_mul (by omega) (by omega) (by omega) (by omega)
  rw [← hxm] at hbd ⊢
  clear hxm
  omega

set_option maxRecDepth 100000 in
set_option maxHeartbeats 1000000 in
theorem takeTimes_any (g k o n n1 cap : Nat) (zs : List Int) (q : Option Addr) (cap' : Nat) (ys : List Int) (m : Int) (w : World) (hk : zs.length = k) (hkm : k ≤ 35184372088832) (ho : Own w g zs) (hl : Nm.Limbs zs)
    (hn : ys.length = n) (hn0 : 0 < n) (hn1 : n < n1) (hon : o + n < k) (hy : Lies w q ys) (hly : Nm.Limbs ys) (hq : ∀ a, q = some a → a.block < g) (hm0 : 0 ≤ m) (hm1 : m < 18446744073709551616) :
    Calls Tryz.prog 106 #[.slice (some ⟨g, o, none⟩) n1 cap, .slice q n cap', .int .u64 m] w fun e w' => ∃ (c : Int) (os : List Int), e = .returned (.int .u64 c) ∧ (0 ≤ c ∧ c ≤ 1) ∧
      Hid (PartInv g k (o + n + 1) w zs (Nm.val zs + Nm.pw o * (-(Nm.val ys * m))) (o + n + 1) (-c) os w') := by
  obtain ⟨b, off, rfl, hbw, HC⟩ := hy.at (by omega)
  have hbg : b < g := hq _ rfl
  have I0 : PartInv g k (o + n + 1) w zs (Nm.val zs + Nm.pw o * (-(Nm.val (ys.take 0) * m))) (o + 0) (-0) zs w := ⟨⟨ho, hk, hl, by simp [Nm.val], Below.refl _ _, rfl⟩, fun _ _ => rfl, fun _ _ => rfl⟩
  have HM : Hid (ys.length = n) := hn
  have HY : Hid (Nm.Limbs ys) := hly
  clear hn hly hq ho hk hl hy
  go_enter Tryz.func106, Tryz.ntmps106
  go_wp2
  go_loopw [7, 19] (fun c i wr => ∃ (j : Nat) (cc : Int) (os : List Int), j ≤ n ∧ i = .int .i64 j ∧ c = .int .u64 cc ∧ (0 ≤ cc ∧ cc < 18446744073709551616) ∧ PartInv g k (o + n + 1) w zs (Nm.val zs + Nm.pw o * (-(Nm.val (ys.take j) * m))) (o + j) (-cc) os wr) (fun _ i _ => n - (intOf i).toNat)
  case atStart => exact ⟨0, 0, zs, Nat.zero_le _, rfl, rfl, by omega, I0⟩
  case round =>
    clear I0
    obtain ⟨j, cc, os, hj, rfl, rfl, ⟨hcc0, hcc1⟩, I⟩ := hrel
    by_cases hlt : j < n
    · obtain ⟨x, hx, X⟩ : ∃ x, wr.cell? ⟨b, off + j, none⟩ = some (.int .u64 x) ∧ Hid (x = ys.getD j 0) :=
        ⟨_, (I.1.2.2.2.2.1.cell (p := ⟨b, off + j, none⟩) hbg).trans (HC.out j (by have := HM.out; omega)), rfl⟩
      obtain ⟨y, hyc, Y⟩ : ∃ y, wr.cell? ⟨g, o + j, none⟩ = some (.int .u64 y) ∧ Hid (y = os.getD (o + j) 0) := ⟨_, I.1.1.cell (o + j) (by have := I.1.2.1; omega), rfl⟩
      have hfr := I.1.1.free (o + j)
      have hx0 : 0 ≤ x ∧ x < 18446744073709551616 := by have := HY.out.at j; have := X.out; omega
      have hy0 : 0 ≤ y ∧ y < 18446744073709551616 := by have := I.1.2.2.1.at (o + j); have := Y.out; omega
      obtain ⟨hx0, hx1⟩ := hx0
      obtain ⟨hy0, hy1⟩ := hy0
      have hjn1 : (j : Int) < (n1 : Int) := by omega
      go_wp2_with fail
      refine (mul64 x m hx0 hx1 hm0 hm1 _).mono ?_
      rintro e w' ⟨h, l, rfl, ⟨hh0, hh1, hl0, hl1⟩, P1, _, rfl⟩
      obtain ⟨s1, S1⟩ : ∃ s, Hid (s = (l + cc + 0) % 18446744073709551616) := ⟨_, rfl⟩
      obtain ⟨k1, K1⟩ : ∃ c, Hid (c = (l + cc + 0) / 18446744073709551616) := ⟨_, rfl⟩
      have hs1 : 0 ≤ s1 := by have := S1.out; omega
      have hs2 : s1 < 18446744073709551616 := by have := S1.out; omega
      obtain ⟨s2, b2, ⟨t0, t1⟩, ⟨t2, t3⟩, S2⟩ := sub_names y s1 0 hy0 hy1 hs1 hs2 (Int.le_refl 0) (by decide)
      have ST := hid (take_step P1.out ⟨hl0, hl1⟩ hh0 ⟨hx0, hx1⟩ ⟨hm0, hm1⟩ rfl ⟨hy0, hy1⟩ ⟨hcc0, hcc1⟩ S1.out K1.out ⟨t0, t1⟩ ⟨t2, t3⟩ S2.out)
      have hk1 : 0 ≤ k1 := by have := K1.out; omega
      have hkk : h + k1 + b2 < 18446744073709551616 := ST.out.1.2
      go_wp2_with (first | simp only [add64' l cc 0 s1 k1 hl0 hcc0 (Int.le_refl 0) (by decide) S1.out K1.out] | simp only [sub64' y s1 0 s2 b2 hy0 hy1 hs1 hs2 (Int.le_refl 0) (by decide) ⟨t0, t1⟩ ⟨t2, t3⟩ S2.out])
      go_roundw
      case rel =>
        have hst := I.step (by omega) (by omega) (x := -(x * m)) (s := s2) (c' := -(h + k1 + b2)) ⟨t0, t1⟩ (by rw [← Y.out]; exact ST.out.2)
        refine ⟨j + 1, h + k1 + b2, os.set (o + j) s2, by omega, by go_num, rfl, ST.out.1, ?_⟩
        have e : Nm.val zs + Nm.pw o * (-(Nm.val (ys.take (j + 1)) * m)) = Nm.val zs + Nm.pw o * (-(Nm.val (ys.take j) * m)) + Nm.pw (o + j) * (-(x * m)) := by
          rw [Nm.val_take_succ ys j (by have := HM.out; omega), ← X.out, Nm.pw_add, Int.add_mul, Int.mul_neg, Int.mul_neg, Int.mul_neg, Int.mul_add, Int.mul_assoc, Int.mul_assoc]
          omega
        rw [e]
        exact hst
      case measure => simp [intOf]; omega
    · have hjn : j = n := by omega
      subst hjn
      rw [List.take_of_length_le (by have := HM.out; omega)] at I
      obtain ⟨y, hyc, Y⟩ : ∃ y, wr.cell? ⟨g, o + j, none⟩ = some (.int .u64 y) ∧ Hid (y = os.getD (o + j) 0) := ⟨_, I.1.1.cell (o + j) (by have := I.1.2.1; omega), rfl⟩
      have hfr := I.1.1.free (o + j)
      have hy0 : 0 ≤ y ∧ y < 18446744073709551616 := by have := I.1.2.2.1.at (o + j); have := Y.out; omega
      obtain ⟨hy0, hy1⟩ := hy0
      obtain ⟨s2, b2, ⟨t0, t1⟩, ⟨t2, t3⟩, S2⟩ := sub_names y cc 0 hy0 hy1 hcc0 hcc1 (Int.le_refl 0) (by decide)
      have hst := I.step (by omega) (by omega) (x := 0) (s := s2) (c' := -b2) ⟨t0, t1⟩ (by rw [← Y.out]; have := S2.out; omega)
      rw [Int.mul_zero, Int.add_zero] at hst
      have HS := hid hst
      clear hst I
      go_wp2_with (simp only [sub64' y cc 0 s2 b2 hy0 hy1 hcc0 hcc1 (Int.le_refl 0) (by decide) ⟨t0, t1⟩ ⟨t2, t3⟩ S2.out])
      go_ret
      exact ⟨b2, os.set (o + j) s2, rfl, ⟨t2, t3⟩, HS.out⟩

set_option maxRecDepth 100000 in
set_option maxHeartbeats 1000000 in
theorem giveBack_any (g k o n n1 cap : Nat) (zs : List Int) (q : Option Addr) (cap' : Nat) (ys : List Int) (w : World) (hk : zs.length = k) (hkm : k ≤ 35184372088832) (ho : Own w g zs) (hl : Nm.Limbs zs)
    (hn : ys.length = n) (hn0 : 0 < n) (hn1 : n < n1) (hon : o + n < k) (hy : Lies w q ys) (hly : Nm.Limbs ys) (hq : ∀ a, q = some a → a.block < g) :
    Calls Tryz.prog 107 #[.slice (some ⟨g, o, none⟩) n1 cap, .slice q n cap'] w fun e w' => ∃ (c : Int) (os : List Int), e = .returned (.int .u64 c) ∧ (0 ≤ c ∧ c ≤ 1) ∧
      Hid (PartInv g k (o + n + 1) w zs (Nm.val zs + Nm.pw o * Nm.val ys) (o + n + 1) c os w') := by
  obtain ⟨b, off, rfl, hbw, HC⟩ := hy.at (by omega)
  have hbg : b < g := hq _ rfl
  have I0 : PartInv g k (o + n + 1) w zs (Nm.val zs + Nm.pw o * Nm.val (ys.take 0)) (o + 0) 0 zs w := ⟨⟨ho, hk, hl, by simp [Nm.val], Below.refl _ _, rfl⟩, fun _ _ => rfl, fun _ _ => rfl⟩
  have HM : Hid (ys.length = n) := hn
  have HY : Hid (Nm.Limbs ys) := hly
  clear hn hly hq ho hk hl hy
  go_enter Tryz.func107, Tryz.ntmps107
  go_wp2
  go_loopw [5, 10] (fun c i wr => ∃ (j : Nat) (cc : Int) (os : List Int), j ≤ n ∧ i = .int .i64 j ∧ c = .int .u64 cc ∧ (0 ≤ cc ∧ cc ≤ 1) ∧ PartInv g k (o + n + 1) w zs (Nm.val zs + Nm.pw o * Nm.val (ys.take j)) (o + j) cc os wr) (fun _ i _ => n - (intOf i).toNat)
  case atStart => exact ⟨0, 0, zs, Nat.zero_le _, rfl, rfl, by omega, I0⟩
  case round =>
    clear I0
    obtain ⟨j, cc, os, hj, rfl, rfl, ⟨hcc0, hcc1⟩, I⟩ := hrel
    by_cases hlt : j < n
    · obtain ⟨x, hx, X⟩ : ∃ x, wr.cell? ⟨b, off + j, none⟩ = some (.int .u64 x) ∧ Hid (x = ys.getD j 0) :=
        ⟨_, (I.1.2.2.2.2.1.cell (p := ⟨b, off + j, none⟩) hbg).trans (HC.out j (by have := HM.out; omega)), rfl⟩
      obtain ⟨y, hyc, Y⟩ : ∃ y, wr.cell? ⟨g, o + j, none⟩ = some (.int .u64 y) ∧ Hid (y = os.getD (o + j) 0) := ⟨_, I.1.1.cell (o + j) (by have := I.1.2.1; omega), rfl⟩
      have hfr := I.1.1.free (o + j)
      have hx0 : 0 ≤ x ∧ x < 18446744073709551616 := by have := HY.out.at j; have := X.out; omega
      have hy0 : 0 ≤ y ∧ y < 18446744073709551616 := by have := I.1.2.2.1.at (o + j); have := Y.out; omega
      obtain ⟨hx0, hx1⟩ := hx0
      obtain ⟨hy0, hy1⟩ := hy0
      have hjn1 : (j : Int) < (n1 : Int) := by omega
      obtain ⟨s, S⟩ : ∃ s, Hid (s = (y + x + cc) % 18446744073709551616) := ⟨_, rfl⟩
      obtain ⟨c', C⟩ : ∃ c', Hid (c' = (y + x + cc) / 18446744073709551616) := ⟨_, rfl⟩
      have hs0 : 0 ≤ s ∧ s < 18446744073709551616 := by have := S.out; omega
      have hc0 : 0 ≤ c' ∧ c' ≤ 1 := by have := C.out; omega
      have SE : Hid (s + 18446744073709551616 * c' = y + x + cc) := by show _ = _; have := S.out; have := C.out; omega
      go_wp2_with (simp only [add64' y x cc s c' hy0 hx0 hcc0 hcc1 S.out C.out])
      go_roundw
      case rel =>
        have hst := I.step (by omega) (by omega) (x := x) (s := s) (c' := c') hs0 (by rw [← Y.out]; exact SE.out)
        refine ⟨j + 1, c', os.set (o + j) s, by omega, by go_num, rfl, hc0, ?_⟩
        have e : Nm.val zs + Nm.pw o * Nm.val (ys.take (j + 1)) = Nm.val zs + Nm.pw o * Nm.val (ys.take j) + Nm.pw (o + j) * x := by
          rw [Nm.val_take_succ ys j (by have := HM.out; omega), ← X.out, Nm.pw_add, Int.mul_add, Int.mul_assoc]
          omega
        rw [e]
        exact hst
      case measure => simp [intOf]; omega
    · have hjn : j = n := by omega
      subst hjn
      rw [List.take_of_length_le (by have := HM.out; omega)] at I
      obtain ⟨y, hyc, Y⟩ : ∃ y, wr.cell? ⟨g, o + j, none⟩ = some (.int .u64 y) ∧ Hid (y = os.getD (o + j) 0) := ⟨_, I.1.1.cell (o + j) (by have := I.1.2.1; omega), rfl⟩
      have hfr := I.1.1.free (o + j)
      have hy0 : 0 ≤ y ∧ y < 18446744073709551616 := by have := I.1.2.2.1.at (o + j); have := Y.out; omega
      obtain ⟨hy0, hy1⟩ := hy0
      obtain ⟨s, S⟩ : ∃ s, Hid (s = (y + 0 + cc) % 18446744073709551616) := ⟨_, rfl⟩
      obtain ⟨c', C⟩ : ∃ c', Hid (c' = (y + 0 + cc) / 18446744073709551616) := ⟨_, rfl⟩
      have hs0 : 0 ≤ s ∧ s < 18446744073709551616 := by have := S.out; omega
      have hc0 : 0 ≤ c' ∧ c' ≤ 1 := by have := C.out; omega
      have hst := I.step (by omega) (by omega) (x := 0) (s := s) (c' := c') hs0 (by rw [← Y.out]; have := S.out; have := C.out; omega)
      rw [Int.mul_zero, Int.add_zero] at hst
      have HS := hid hst
      clear hst I
      go_wp2_with (simp only [add64' y 0 cc s c' hy0 (Int.le_refl 0) hcc0 hcc1 S.out C.out])
      go_ret
      exact ⟨c', os.set (o + j) s, rfl, hc0, HS.out⟩
end Go.Proofs.YtggiioipppbedaaGreatDoor

namespace Go.Proofs.YtggiioipppbedaaGreatDoor
open Go.RowKit Go.Deep

theorem Lies.low {g : Nat} {w w' : World} {p : Option Addr} {zs : List Int} (h : Lies w p zs) (hb : Below g w w') (hp : ∀ a, p = some a → a.block < g) : Lies w' p zs := by
  rcases h with rfl | ⟨b, off, e, h⟩
  · exact .inl rfl
  · refine .inr ⟨b, off, e, fun i hi => ?_⟩
    rw [hb.cell (p := ⟨b, off + i, none⟩) (hp ⟨b, off, none⟩ e)]
    exact h i hi

theorem Own.other {w : World} {g g' : Nat} {zs : List Int} (h : Own w g zs) (hg : g' ≠ g) (i : Nat) (v : Value) : Own (w.setCell ⟨g', i, none⟩ v) g zs := by
  simp only [Own] at h ⊢
  simp only [World.setCell, Array.getElem?_modify]
  rw [if_neg hg]
  exact h

namespace Qd
open Go.Proofs.YtggiioipppbedaaGreatDoor.Nm

/-- The part that a digit is told from. -/
def part (rs : List Int) (t n1 : Nat) : List Int := (rs.drop t).take n1

theorem part_length {rs : List Int} {t n1 : Nat} (h : t + n1 ≤ rs.length) : (part rs t n1).length = n1 := by
  simp [part]; omega

theorem part_lies {w : World} {g : Nat} {rs : List Int} (h : Own w g rs) {t n1 : Nat} (hl : t + n1 ≤ rs.length) : Lies w (some ⟨g, t, none⟩) (part rs t n1) := by
  refine .inr ⟨g, t, rfl, fun i hi => ?_⟩
  rw [part_length hl] at hi
  rw [h.cell (t + i) (by omega)]
  have e : (part rs t n1).getD i 0 = rs.getD (t + i) 0 := by
    rw [part, getD_take, if_pos hi]
    simp [List.getD, List.getElem?_drop]
  rw [e]

theorem part_val {rs : List Int} (hr : Limbs rs) {t n1 : Nat} (hl : t + n1 ≤ rs.length) (hv : val rs < pw (t + n1)) : val rs = val (rs.take t) + pw t * val (part rs t n1) := by
  have h1 := val_drop rs t (by omega)
  have h2 : val (part rs t n1) = val (rs.drop t) := by
    refine val_take_of_zero _ _ (fun j hj => ?_)
    have := zero_of_lt hr hv (t + j) (by omega)
    simpa [List.getD, List.getElem?_drop] using this
  rw [h2]
  exact h1

theorem part_facts {rs : List Int} (hr : Limbs rs) {t m : Nat} (hl : t + (m + 1) ≤ rs.length) {b : Int} (hb : b < pw m) (hv : val rs < pw (t + 1) * b) :
    val (part rs t (m + 1)) < b * 18446744073709551616 ∧ val rs < pw (t + m + 1) ∧ ∀ x, 0 ≤ x → x * (pw t * b) ≤ val rs → x * b ≤ val (part rs t (m + 1)) := by
  have hp := pw_pos t
  have hq := pw_pos (t + 1)
  have h0 : val rs < pw (t + m + 1) := by
    have : pw (t + 1) * b ≤ pw (t + 1) * pw m := Int.mul_le_mul_of_nonneg_left (by omega) (by omega)
    rw [← pw_add, show t + 1 + m = t + m + 1 by omega] at this
    omega
  have h1 := part_val hr hl h0
  have h2 := val_bd _ (hr.take t)
  rw [List.length_take, Nat.min_eq_left (by omega)] at h2
  refine ⟨?_, h0, fun x x0 hx => ?_⟩
  · rcases (show val (part rs t (m + 1)) < b * 18446744073709551616 ∨ b * 18446744073709551616 ≤ val (part rs t (m + 1)) by omega) with c | c
    · exact c
    · exfalso
      have := Int.mul_le_mul_of_nonneg_left c (show 0 ≤ pw t by omega)
      rw [pw_succ] at hv
      have e : pw t * (b * 18446744073709551616) = 18446744073709551616 * pw t * b := by rw [Int.mul_left_comm, Int.mul_comm b, Int.mul_comm (pw t)]
      omega
  · rcases (show x * b ≤ val (part rs t (m + 1)) ∨ val (part rs t (m + 1)) + 1 ≤ x * b by omega) with c | c
    · exact c
    · exfalso
      have := Int.mul_le_mul_of_nonneg_left c (show 0 ≤ pw t by omega)
      rw [Int.mul_add, Int.mul_one] at this
      have e : x * (pw t * b) = pw t * (x * b) := Int.mul_left_comm _ _ _
      omega
end Qd

/-- Ahead of limb j - 1 of the quotient. -/
structure DivI (w : World) (g g2 R K : Nat) (A b : Int) (j : Nat) (os rs : List Int) (wr : World) : Prop where
  own : Own wr g rs
  len : rs.length = R
  lim : Nm.Limbs rs
  own2 : Own wr g2 os
  len2 : os.length = K
  lim2 : Nm.Limbs os
  zero : ∀ i, i < j → os.getD i 0 = 0
  eq : Nm.val os * b + Nm.val rs = A
  lt : Nm.val rs < Nm.pw j * b
  low : Below g w wr

/-- A digit d at limb t, which may be too great: what is owed is beyond limb 'top'. -/
structure Digit (w : World) (g g2 R t top : Nat) (os : List Int) (R0 b d owed : Int) (rs : List Int) (wr : World) : Prop where
  own : Own wr g rs
  len : rs.length = R
  lim : Nm.Limbs rs
  own2 : Own wr g2 (os.set t d)
  dbd : 0 ≤ d ∧ d < 18446744073709551616
  obd : 0 ≤ owed ∧ owed ≤ 1
  eq : Nm.val rs + Nm.pw t * (b * d) = R0 + Nm.pw top * owed
  high : ∀ i, top ≤ i → rs.getD i 0 = 0
  least : ∀ x, 0 ≤ x → x * (Nm.pw t * b) ≤ R0 → x ≤ d
  low : Below g w wr

theorem Digit.lt {w : World} {g g2 R t top : Nat} {os : List Int} {R0 b d owed : Int} {rs : List Int} {wr : World} (h : Digit w g g2 R t top os R0 b d owed rs wr) : Nm.val rs < Nm.pw top := by
  have h1 := Nm.val_take_of_zero rs top h.high
  have h2 := (Nm.val_bd _ (h.lim.take top)).2
  have h3 : (rs.take top).length ≤ top := by simp; omega
  have h4 := Nm.pw_mono h3
  omega

/-- The digit is too great. -/
theorem Digit.great {w : World} {g g2 R t top : Nat} {os : List Int} {R0 b d : Int} {rs : List Int} {wr : World} (h : Digit w g g2 R t top os R0 b d 1 rs wr) (hR : 0 ≤ R0) (hb : 0 ≤ b) : 1 ≤ d ∧ ∀ x, 0 ≤ x → x * (Nm.pw t * b) ≤ R0 → x ≤ d - 1 := by
  have h1 := h.lt
  have h2 := h.eq
  rw [Int.mul_one] at h2
  have hd := h.dbd
  have hp := Nm.pw_pos t
  have h3 : 1 ≤ d := by
    rcases (show d = 0 ∨ 1 ≤ d by omega) with c | c
    · rw [c, Int.mul_zero, Int.mul_zero] at h2; omega
    · exact c
  refine ⟨h3, fun x x0 hx => ?_⟩
  rcases (show x ≤ d - 1 ∨ d ≤ x by omega) with c | c
  · exact c
  · exfalso
    have e1 : d * (Nm.pw t * b) ≤ x * (Nm.pw t * b) := Int.mul_le_mul_of_nonneg_right c (Int.mul_nonneg (by omega) hb)
    have e2 : d * (Nm.pw t * b) = Nm.pw t * (b * d) := by rw [Int.mul_left_comm, Int.mul_comm d b]
    omega

/-- The digit is right: the next one. -/
theorem Digit.done {w : World} {g g2 R K t top : Nat} {os rs0 : List Int} {A b d : Int} {rs : List Int} {wr wr0 : World} (h : Digit w g g2 R t top os (Nm.val rs0) b d 0 rs wr) (I : DivI w g g2 R K A b (t + 1) os rs0 wr0) (ht : t < K) :
    DivI w g g2 R K A b t (os.set t d) rs wr := by
  have h2 := h.eq
  rw [Int.mul_zero, Int.add_zero] at h2
  refine ⟨h.own, h.len, h.lim, h.own2, by simpa using I.len2, I.lim2.set t h.dbd.1 h.dbd.2, fun i hi => ?_, ?_, ?_, h.low⟩
  · rw [Nm.getD_set _ _ _ _ (by have := I.len2; omega), if_neg (by omega)]
    exact I.zero i (by omega)
  · rw [Nm.val_set _ _ _ (by have := I.len2; omega), I.zero t (by omega), Int.sub_zero, Int.add_mul, Int.mul_assoc, Int.mul_comm d b]
    have := I.eq
    omega
  · rcases (show Nm.val rs < Nm.pw t * b ∨ Nm.pw t * b ≤ Nm.val rs by omega) with c | c
    · exact c
    · exfalso
      have := h.least (d + 1) (by have := h.dbd; omega) (by rw [Int.add_mul, Int.one_mul, Int.mul_left_comm, Int.mul_comm d b]; omega)
      omega

/-- Behind takeTimes. -/
theorem digit_first {w wr0 w2 w' : World} {g g2 R K t m : Nat} {os rs0 rs : List Int} {A b d c : Int} (I : DivI w g g2 R K A b (t + 1) os rs0 wr0) (hg : g2 ≠ g) (h2 : Own w2 g2 (os.set t d)) (hb2 : Below g w w2) (hd : 0 ≤ d ∧ d < 18446744073709551616) (hc : 0 ≤ c ∧ c ≤ 1)
    (hlt : Nm.val rs0 < Nm.pw (t + m + 1)) (hle : ∀ x, 0 ≤ x → x * (Nm.pw t * b) ≤ Nm.val rs0 → x ≤ d)
    (P : PartInv g R (t + m + 1) w2 rs0 (Nm.val rs0 + Nm.pw t * (-(b * d))) (t + m + 1) (-c) rs w') : Digit w g g2 R t (t + m + 1) os (Nm.val rs0) b d c rs w' := by
  have hP := P
  obtain ⟨⟨p1, p2, p3, p4, p5, p6⟩, p7, p8⟩ := P
  refine ⟨p1, p2, p3, hP.own h2 hg, hd, hc, ?_, fun i hi => ?_, hle, hb2.trans p5⟩
  · rw [Int.mul_neg, Int.mul_neg] at p4
    omega
  · rw [p7 i hi]
    exact Nm.zero_of_lt I.lim hlt i hi

/-- Behind giveBack. -/
theorem digit_next {w wr w2 w' : World} {g g2 R t top : Nat} {os rs rs' : List Int} {R0 b d c : Int} (D : Digit w g g2 R t top os R0 b d 1 rs wr) (hR : 0 ≤ R0) (hb : 0 ≤ b) (hg : g2 ≠ g) (h2 : Own w2 g2 (os.set t (d - 1))) (hb2 : Below g w w2) (hc : 0 ≤ c ∧ c ≤ 1)
    (P : PartInv g R top w2 rs (Nm.val rs + Nm.pw t * b) top c rs' w') : Digit w g g2 R t top os R0 b (d - 1) (1 - c) rs' w' := by
  have hP := P
  obtain ⟨⟨p1, p2, p3, p4, p5, p6⟩, p7, p8⟩ := P
  have hgr := D.great hR hb
  have hd := D.dbd
  have he := D.eq
  refine ⟨p1, p2, p3, hP.own h2 hg, by omega, by omega, ?_, fun i hi => by rw [p7 i hi]; exact D.high i hi, hgr.2, hb2.trans p5⟩
  rw [Int.mul_sub, Int.mul_one, Int.mul_sub, Int.mul_sub, Int.mul_one]
  rw [Int.mul_one] at he
  omega

set_option maxRecDepth 100000 in
set_option maxHeartbeats 2000000 in
theorem divide_any (g R K k m cap' : Nat) (rs0 : List Int) (q : Option Addr) (bs : List Int) (w : World) (ho : Own w g rs0) (hR : rs0.length = R) (hRm : R ≤ 35184372088832) (hl : Nm.Limbs rs0) (hm : m = k + 2) (hK : R = K + m) (lb : bs.length = m) (hc' : m ≤ cap') (hm' : cap' ≤ 140737488355328)
    (hy : Lies w q bs) (hlb : Nm.Limbs bs) (hq : ∀ a, q = some a → a.block < g) (htop : bs.getD (k + 1) 0 ≠ 0) (hlt : Nm.val rs0 < Nm.pw K * Nm.val bs) :
    Calls Tryz.prog 96 #[.slice (some ⟨g, 0, none⟩) R R, .slice q m cap'] w fun e w' => ∃ os rs, e = .returned (.slice (some ⟨w.heap.size, 0, none⟩) K K) ∧ Hid (DivI w g w.heap.size R K (Nm.val rs0) (Nm.val bs) 0 os rs w') := by
  have hgw := ho.lt
  have r1 : (R : Int) - (m : Int) = (K : Int) := by omega
  have hmk := make64 K (by omega) w
  have hb0 : Below g w (w.alloc (.cells (madeCells #[.int .u64 0] K) 25)) := (Below.refl _ _).alloc (by omega) _
  have hbw : Below w.heap.size w (w.alloc (.cells (madeCells #[.int .u64 0] K) 25)) := (Below.refl _ _).alloc (Nat.le_refl _) _
  have ho2 : Own (w.alloc (.cells (madeCells #[.int .u64 0] K) 25)) w.heap.size (List.replicate K 0) := by
    rw [made_zero]; exact Own.alloc w _
  obtain ⟨W0, hW0⟩ : ∃ W0, w.alloc (.cells (madeCells #[.int .u64 0] K) 25) = W0 := ⟨_, rfl⟩
  rw [hW0] at hmk hb0 hbw ho2
  clear hW0
  have I0 : DivI w g w.heap.size R K (Nm.val rs0) (Nm.val bs) K (List.replicate K 0) rs0 W0 :=
    ⟨ho.below hbw hgw, hR, hl, ho2, by simp, Nm.Limbs.replicate _, fun i _ => getD_replicate _ _, by rw [Nm.val_replicate, Int.zero_mul, Int.zero_add], hlt, hb0⟩
  have B0 := (Nm.val_bd bs hlb).1
  have B1 := (Nm.val_bd bs hlb).2
  rw [lb] at B1
  have HI0 := hid I0
  have HB0 := hid B0
  have HB1 := hid B1
  have HY := hid hy
  have HLB := hid hlb
  have HQ := hid hq
  have HT := hid htop
  have HM := hid hm
  have HKK := hid hK
  have HL := hid lb
  obtain ⟨g2, hg2⟩ : ∃ g2, w.heap.size = g2 := ⟨_, rfl⟩
  rw [hg2] at HI0 hmk hgw ⊢
  have hgg : g2 ≠ g := by omega
  clear I0 B0 B1 hy hlb hq htop hm hK lb ho hR hl hlt hb0 hbw ho2 hg2
  go_enter Tryz.func96, Tryz.ntmps96
  go_wp2_with fail
  go_step3
  go_wp2_with fail
  go_step3
  go_wp2_with fail
  go_loopg [6] K (fun j i wr => ∃ (os rs : List Int), j ≤ K ∧ i = .int .i64 ((j : Int) - 1) ∧ Hid (DivI w g g2 R K (Nm.val rs0) (Nm.val bs) j os rs wr))
  case atStart => exact ⟨_, _, Nat.le_refl _, rfl, HI0.out⟩
  case round =>
    clear HI0 hmk
    obtain ⟨os, rs, hj, rfl, I⟩ := hrel
    cases gk with
    | zero =>
      go_wp2
      try rw [Exit.noGoto_ret]
      go_ret
      exact ⟨os, rs, rfl, I.out⟩
    | succ t =>
      have LR : Hid (t + (m + 1) ≤ rs.length) := by show _ ≤ _; have := I.out.len; have := HKK.out; omega
      obtain ⟨f1, f2, f3⟩ := Qd.part_facts I.out.lim LR.out HB1.out I.out.lt
      have htK : (t : Int) < (K : Int) := by omega
      have htR : t + m + 1 ≤ R := by have := HKK.out; omega
      have GU := guess_any (some ⟨g, t, none⟩) q k m (m + 1) (R - t) cap' (Qd.part rs t (m + 1)) bs wr HM.out (by rw [HM.out]) HL.out (Qd.part_length LR.out) (by omega) hc' (by omega) hm' (Qd.part_lies I.out.own LR.out) (HY.out.low I.out.low HQ.out) ((I.out.lim.drop t).take _) HLB.out HT.out f1
      have F2 := hid f2
      have F3 := hid f3
      have HGU := hid GU
      clear f1 f2 f3 GU
      go_wp2_with fail
      rw [show t + m + 1 - t = m + 1 by omega]
      refine HGU.out.mono ?_
      rintro e w1 ⟨d, rfl, ⟨d0, d1⟩, DL, hb1⟩
      have o1 := I.out.own.below hb1 I.out.own.lt
      have o2 := I.out.own2.below hb1 I.out.own2.lt
      have HB2 := hid (I.out.low.trans (hb1.mono (Nat.le_of_lt I.out.own.lt)))
      obtain ⟨y, hyc⟩ : ∃ y, w1.cell? ⟨g2, t, none⟩ = some (.int .u64 y) := ⟨_, o2.cell t (by have := I.out.len2; omega)⟩
      have hfr := o2.free t
      have O1 := hid (o1.other hgg t (.int .u64 d))
      have O2 := hid (o2.set t d)
      have HB3 := hid (HB2.out.setCell (p := ⟨g2, t, none⟩) (by show g ≤ g2; omega) (.int .u64 d))
      have LEAST : Hid (∀ x, 0 ≤ x → x * (Nm.pw t * Nm.val bs) ≤ Nm.val rs → x ≤ d) := fun x x0 hx => DL.out x x0 (F3.out x x0 hx)
      have hcell : (w1.setCell ⟨g2, t, none⟩ (.int .u64 d)).cell? ⟨g2, t, none⟩ = some (.int .u64 d) := by
        rw [O2.out.cell t (by have := I.out.len2; simp; omega), Nm.getD_set _ _ _ _ (by have := I.out.len2; omega), if_pos rfl]
      clear hb1 o1 o2 HGU DL
      go_wp2_with fail
      refine (takeTimes_any g R t m (m + 1) _ rs q _ bs d _ I.out.len hRm O1.out I.out.lim HL.out (by have := HM.out; omega) (by omega) (by omega) (HY.out.low HB3.out HQ.out) HLB.out HQ.out d0 d1).mono ?_
      rintro e w2 ⟨c, rs1, rfl, ⟨c0, c1⟩, P⟩
      have DG := hid (digit_first I.out hgg O2.out HB3.out ⟨d0, d1⟩ ⟨c0, c1⟩ F2.out LEAST.out P.out)
      clear P hcell hyc hfr O1 O2 HB2 HB3 LEAST
      go_wp2_with fail
      go_loopg [8] d.toNat (fun x c wr => ∃ (d owed : Int) (rs1 : List Int), c = .int .u64 owed ∧ Hid (x = d.toNat) ∧ Hid (Digit w g g2 R t (t + m + 1) os (Nm.val rs) (Nm.val bs) d owed rs1 wr))
      case atStart => exact ⟨d, c, rs1, rfl, rfl, DG.out⟩
      case round =>
        clear DG c0 c1 d0 d1
        obtain ⟨d, owed, rs1, rfl, GK, D⟩ := hrel
        have ob := D.out.obd
        rcases (show owed = 0 ∨ owed = 1 by omega) with rfl | rfl
        · have DN := hid (D.out.done I.out (by omega))
          clear ob
          go_wp2
          go_roundg t
          case measure => omega
          case rel => exact ⟨_, _, by omega, by go_num, DN.out⟩
        · clear ob
          have hV := (Nm.val_bd rs I.out.lim).1
          obtain ⟨g1, _⟩ := D.out.great hV HB0.out
          have db := D.out.dbd.2
          have hlen : t < (os.set t d).length := by have := I.out.len2; simp; omega
          obtain ⟨y, hyc, Y⟩ : ∃ y, wr.cell? ⟨g2, t, none⟩ = some (.int .u64 y) ∧ Hid (y = d) := ⟨_, D.out.own2.cell t hlen, by show _ = _; rw [Nm.getD_set _ _ _ _ (by simpa using hlen), if_pos rfl]⟩
          have hyd := Y.out
          subst hyd
          have hfr := D.out.own2.free t
          have o2 := D.out.own2.set t (y - 1)
          rw [List.set_set] at o2
          have O1 := hid (D.out.own.other hgg t (.int .u64 (y - 1)))
          have O2 := hid o2
          have HB3 := hid (D.out.low.setCell (p := ⟨g2, t, none⟩) (by show g ≤ g2; omega) (.int .u64 (y - 1)))
          have HV := hid hV
          clear o2 hlen hV
          go_wp2_with fail
          refine (giveBack_any g R t m (m + 1) _ rs1 q _ bs _ D.out.len hRm O1.out D.out.lim HL.out (by have := HM.out; omega) (by omega) (by omega) (HY.out.low HB3.out HQ.out) HLB.out HQ.out).mono ?_
          rintro e w2 ⟨c, rs2, rfl, ⟨c0, c1⟩, P⟩
          have DN := hid (digit_next D.out HV.out HB0.out hgg O2.out HB3.out ⟨c0, c1⟩ P.out)
          clear P hyc hfr O1 O2 HB3
          go_wp2_with fail
          go_roundg (y - 1).toNat
          case measure => have := GK.out; omega
          case rel => exact ⟨y - 1, 1 - c, rs2, rfl, rfl, DN.out⟩
end Go.Proofs.YtggiioipppbedaaGreatDoor

namespace Go.Proofs.YtggiioipppbedaaGreatDoor
open Go.RowKit Go.Deep

theorem limbs_any (p : Option Addr) (n cap : Nat) (zs : List Int) (w : World) (ha : Arg w p n cap zs) :
    Calls Tryz.prog 93 #[.slice p n cap] w fun e w' => e = .returned (.int .i64 (Nm.tsize zs : Int)) ∧ w' = w := by
  obtain ⟨L, h1, _, h3, h4⟩ := blen_is zs ha.2.2.2.2
  have tl := Nm.tsize_le zs
  have hn := ha.1
  have hc := ha.2.2.1
  have hc' := ha.2.1
  have H := bitLen_any p n cap zs w ha
  rw [h1] at H
  have HB := hid H
  obtain ⟨N, HN⟩ : ∃ N, Hid (Nm.tsize zs = N) := ⟨_, rfl⟩
  rw [HN.out] at h3 h4 ⊢
  have hL : (L : Int) ≤ 1125899906842624000 := by have := HN.out; omega
  have hL0 : (0 : Int) ≤ (L : Int) := by omega
  have E : Hid (((L : Int) + 64 - 1) / 64 = (N : Int)) := by show _ = _; omega
  have E2 : Hid (((L : Int) + 64 - 1).tdiv 64 = (N : Int)) := by show _ = _; rw [Int.tdiv_eq_ediv_of_nonneg (by omega)]; exact E.out
  clear h1 h3 h4 H hn hc hc' tl ha
  go_enter Tryz.func93, Tryz.ntmps93
  go_wp2_with fail
  refine HB.out.mono ?_
  rintro e w' ⟨rfl, rfl⟩
  go_wp2_with fail
  go_ret
  exact ⟨ret_i64 (by first | exact E.out | exact E2.out), rfl⟩
end Go.Proofs.YtggiioipppbedaaGreatDoor

namespace Go.Proofs.YtggiioipppbedaaGreatDoor
open Go.RowKit Go.Deep

theorem ans_none (B : Nat) (w : World) (p : Option Addr) (h : ∀ a, p = some a → B ≤ a.block) : Ans B w p [] 0 :=
  ⟨Lies.nil _ _, Nm.Limbs.nil, rfl, rfl, fun a ha => ⟨h a ha, fun h0 => absurd h0 (by simp)⟩⟩

theorem limb_one {x : Int} (h : 0 ≤ x ∧ x < 18446744073709551616) : Nm.Limbs [x] := Nm.Limbs.mk h.1 h.2 Nm.Limbs.nil

theorem fromUint_any (x : Int) (w : World) (h0 : 0 ≤ x) (h1 : x < 18446744073709551616) :
    Calls Tryz.prog 71 #[.int .u64 x] w fun e w' => ∃ r os, e = .returned (.slice r (List.length os) (List.length os)) ∧ Ans w.heap.size w' r os x ∧ Below w.heap.size w w' := by
  by_cases hx : x = 0
  · subst hx
    go_enter Tryz.func71, Tryz.ntmps71
    go_wp2
    go_ret
    exact ⟨none, [], rfl, ans_none _ _ _ (fun a h => by cases h), Below.refl _ _⟩
  · have hx' : (x == 0) = false := by rw [beq_eq_false_iff_ne]; exact hx
    have D : Hid (Below w.heap.size w (w.alloc (.cells #[.int .u64 x] 25))) := (Below.refl _ _).alloc (Nat.le_refl _) _
    have A : Hid (Ans w.heap.size (w.alloc (.cells #[.int .u64 x] 25)) (some ⟨w.heap.size, 0, none⟩) [x] x) := ⟨(Own.alloc w [x]).lies, limb_one ⟨h0, h1⟩, by simp [Nm.tsize, hx], by simp [Nm.val], fun a h => by cases h; exact ⟨Nat.le_refl _, fun _ o => (Own.alloc w [x]).free o⟩⟩
    go_enter Tryz.func71, Tryz.ntmps71
    go_wp2
    go_ret
    exact ⟨some ⟨w.heap.size, 0, none⟩, [x], rfl, A.out, D.out⟩
end Go.Proofs.YtggiioipppbedaaGreatDoor

namespace Go.Proofs.YtggiioipppbedaaGreatDoor
open Go.RowKit Go.Deep

theorem ret_div {p : Option Addr} {a b : Nat} {r : Int} (h : a = b) : Ending.returned (.tuple #[.slice p a a, .int .u64 r, .int .i64 0]) = .returned (.tuple #[.slice p b b, .int .u64 r, .int .i64 0]) := by rw [h]

/-- Behind the limbs from k on: quotient digits are in, below k the block is 0. -/
def DivInv (g n : Nat) (w : World) (xs : List Int) (d : Int) (k : Nat) (r : Int) (os : List Int) (wr : World) : Prop :=
  Own wr g os ∧ os.length = n ∧ Nm.Limbs os ∧ Nm.val os * d + Nm.pw k * r + Nm.val (xs.take k) = Nm.val xs ∧ (∀ i, i < k → os.getD i 0 = 0) ∧ (0 ≤ r ∧ r < d) ∧ Below g w wr

theorem DivInv.step {g n : Nat} {w : World} {xs : List Int} {d : Int} {t : Nat} {r : Int} {os : List Int} {wr w' : World} (h : DivInv g n w xs d (t + 1) r os wr) (hx : t < xs.length) (ht : t < n) (hb : Below wr.heap.size wr w') {q r' x : Int}
    (hxe : x = xs.getD t 0) (hq : q * d + r' = r * 18446744073709551616 + x) (hq0 : 0 ≤ q ∧ q < 18446744073709551616) (hr : 0 ≤ r' ∧ r' < d) :
    DivInv g n w xs d t r' (os.set t q) (w'.setCell ⟨g, t, none⟩ (.int .u64 q)) := by
  obtain ⟨h1, h2, h3, h4, h5, h6, h7⟩ := h
  have hlt := h1.lt
  refine ⟨(h1.below hb hlt).set t q, by simpa using h2, h3.set t hq0.1 hq0.2, ?_, ?_, hr, ?_⟩
  · rw [Nm.val_set _ _ _ (by omega), h5 t (by omega), Int.sub_zero, Int.add_mul, Int.mul_assoc]
    rw [Nm.val_take_succ xs t hx, ← hxe, Nm.pw_succ] at h4
    have e : Nm.pw t * (q * d + r') = Nm.pw t * (r * 18446744073709551616 + x) := by rw [hq]
    rw [Int.mul_add, Int.mul_add] at e
    have e2 : 18446744073709551616 * Nm.pw t * r = Nm.pw t * (r * 18446744073709551616) := by rw [Int.mul_assoc, Int.mul_left_comm, Int.mul_comm 18446744073709551616 r]
    omega
  · intro i hi
    rw [Nm.getD_set _ _ _ _ (by omega), if_neg (by omega)]
    exact h5 i (by omega)
  · exact h7.trans ((hb.mono (Nat.le_of_lt hlt)).setCell (p := ⟨g, t, none⟩) (Nat.le_refl _) _)

set_option maxRecDepth 100000 in
set_option maxHeartbeats 1000000 in
theorem divSmall_ok (p : Option Addr) (n cap : Nat) (zs : List Int) (d : Int) (w : World) (ha : Arg w p n cap zs) (tz : Nm.tsize zs ≤ 4096) (hd0 : 0 < d) (hd1 : d < 18446744073709551616) :
    Calls Tryz.prog 94 #[.slice p n cap, .int .u64 d] w fun e w' =>
      ∃ r os rest, e = .returned (.tuple #[.slice r (List.length os) (List.length os), .int .u64 rest, .int .i64 0]) ∧ Ans w.heap.size w' r os (Nm.val os) ∧ (0 ≤ rest ∧ rest < d) ∧ Hid (Nm.val os * d + rest = Nm.val zs) ∧ Below w.heap.size w w' := by
  obtain ⟨a1, a2, a3, a4, a5⟩ := ha
  obtain ⟨N, HN⟩ : ∃ N, Hid (Nm.tsize zs = N) := ⟨_, rfl⟩
  have T1 := limited_ok p n cap zs w a1 a2 (by omega) a4 tz
  rw [HN.out] at T1
  have hN : N ≤ 4096 := by rw [← HN.out]; exact tz
  have L1 := hid ((Nm.trim_length zs).trans HN.out)
  have hmk := make64 N (by omega) w
  have ho : Own (w.alloc (.cells (madeCells #[.int .u64 0] N) 25)) w.heap.size (List.replicate N 0) := by
    rw [made_zero]; exact Own.alloc w _
  have hb0 : Below w.heap.size w (w.alloc (.cells (madeCells #[.int .u64 0] N) 25)) := (Below.refl _ _).alloc (Nat.le_refl _) _
  obtain ⟨W0, hW0⟩ : ∃ W0, w.alloc (.cells (madeCells #[.int .u64 0] N) 25) = W0 := ⟨_, rfl⟩
  have HB0 : Hid (Below w.heap.size w W0) := by rw [← hW0]; exact hb0
  have I0 : DivInv w.heap.size N w (Nm.trim zs) d N 0 (List.replicate N 0) W0 := by
    rw [← hW0]
    exact ⟨ho, by simp, Nm.Limbs.replicate _, by rw [Nm.val_replicate, Int.zero_mul, Int.mul_zero, List.take_of_length_le (by rw [L1.out]; omega)]; omega, fun i _ => getD_replicate _ _, ⟨by omega, hd0⟩, hb0⟩
  have hd : (d == 0) = false := by rw [beq_eq_false_iff_ne]; omega
  have A5 := hid a5.trim
  have A4 := hid a4.trim
  have V := hid (Nm.val_trim zs)
  have HT := hid T1
  clear T1 tz ho hb0 a4 a5
  rw [hW0] at hmk
  clear hW0
  have fin : ∀ (os : List Int) (r : Int) (wr : World), DivInv w.heap.size N w (Nm.trim zs) d 0 r os wr →
      Ans w.heap.size wr (some ⟨w.heap.size, 0, none⟩) (Nm.trim os) (Nm.val (Nm.trim os)) ∧ (0 ≤ r ∧ r < d) ∧ Hid (Nm.val (Nm.trim os) * d + r = Nm.val zs) ∧ Below w.heap.size w wr ∧ (Nm.trim os).length = Nm.tsize os := by
    intro os r wr I
    obtain ⟨i1, i2, i3, i4, i5, i6, i7⟩ := I
    refine ⟨⟨i1.lies.trim, i3.trim, by rw [Nm.trim_trim, Nm.trim_length], rfl, fun a h => by cases h; exact ⟨Nat.le_refl _, fun _ o => i1.free o⟩⟩, i6, ?_, i7, Nm.trim_length os⟩
    show _ = _
    rw [Nm.val_trim, ← V.out, ← i4]
    simp [Nm.pw, Nm.val]
  have FIN := hid fin
  clear fin
  by_cases h0 : N = 0
  · subst h0
    have hmk1 : (Instr.makeSlice 28 (.int .i64 0) (.int .i64 0)).run Tryz.prog w = .ok (.slice (some ⟨w.heap.size, 0, none⟩) 0 0) W0 := hmk
    clear hmk
    go_enter Tryz.func94, Tryz.ntmps94
    go_wp2_with fail
    refine HT.out.mono ?_
    rintro e w' ⟨rfl, rfl⟩
    go_wp2_with fail
    refine wp_loop_rounds 1 ?_
    rw [rounds_succ]
    go_wp2_with fail
    refine (trimmed_any (some ⟨w'.heap.size, 0, none⟩) 0 0 (List.replicate 0 0) _ rfl (Nat.le_refl _) (by omega) (Lies.nil _ _)).mono ?_
    rintro e w3 ⟨rfl, rfl⟩
    have F := FIN.out _ _ _ I0
    have HF := hid F
    clear F I0
    go_wp2_with fail
    go_ret3
    exact ⟨_, _, _, rfl, HF.out.1, HF.out.2.1, HF.out.2.2.1, HF.out.2.2.2.1⟩
  · obtain ⟨b, off, rfl, hbw, HC⟩ := A4.out.at (by rw [L1.out]; omega)
    go_enter Tryz.func94, Tryz.ntmps94
    go_wp2_with fail
    refine HT.out.mono ?_
    rintro e w' ⟨rfl, rfl⟩
    go_wp2_with fail
    go_loopw [9, 10] (fun a i wr => ∃ (j : Nat) (rr : Int) (os : List Int), j ≤ N ∧ i = .int .i64 ((j : Int) - 1) ∧ a = .int .u64 rr ∧ DivInv w'.heap.size N w' (Nm.trim zs) d j rr os wr) (fun _ i _ => (intOf i + 1).toNat)
    case atStart => exact ⟨N, 0, _, Nat.le_refl _, rfl, rfl, I0⟩
    case round =>
      clear I0 hmk
      obtain ⟨j, rr, os, hj, rfl, rfl, I⟩ := hrel
      by_cases hj0 : j = 0
      · subst hj0
        have F := FIN.out _ _ _ I
        have HF := hid F
        have TR := hid (trimmed_any (some ⟨w'.heap.size, 0, none⟩) N N os wr I.2.1 (Nat.le_refl _) (by omega) I.1.lies)
        clear F I
        go_wp2_with fail
        refine TR.out.mono ?_
        rintro e w3 ⟨rfl, rfl⟩
        go_wp2_with fail
        go_ret3
        exact ⟨some ⟨w'.heap.size, 0, none⟩, Nm.trim os, rr, ret_div HF.out.2.2.2.2.symm, HF.out.1, HF.out.2.1, HF.out.2.2.1, HF.out.2.2.2.1⟩
      · obtain ⟨t, rfl⟩ : ∃ t, j = t + 1 := ⟨j - 1, by omega⟩
        obtain ⟨x, hx, X⟩ : ∃ x, wr.cell? ⟨b, off + t, none⟩ = some (.int .u64 x) ∧ Hid (x = (Nm.trim zs).getD t 0) := ⟨_, (I.2.2.2.2.2.2.cell (p := ⟨b, off + t, none⟩) hbw).trans (HC.out t (by rw [L1.out]; omega)), rfl⟩
        have hx0 := A5.out.at t
        rw [← X.out] at hx0
        obtain ⟨hx0, hx1⟩ := hx0
        obtain ⟨hr0, hr1⟩ := I.2.2.2.2.2.1
        have htN : (t : Int) < (N : Int) := by omega
        go_wp2_with fail
        refine (div64 rr x d _ hr0 hr1 hx0 hx1 hd1).mono ?_
        rintro e w2 ⟨q, r', rfl, ⟨q0, q1, s0, s1⟩, E, hb⟩
        have I2 := I.step (by rw [L1.out]; omega) (by omega) hb X.out E.out ⟨q0, q1⟩ ⟨s0, s1⟩
        have ho2 := I.1.below hb I.1.lt
        obtain ⟨y, hyc⟩ : ∃ y, w2.cell? ⟨w'.heap.size, t, none⟩ = some (.int .u64 y) := ⟨_, ho2.cell t (by have := I.2.1; omega)⟩
        have hfr := ho2.free t
        clear I hx hb ho2
        go_wp2
        go_roundw
        case rel => exact ⟨t, r', _, by omega, by go_num, rfl, I2⟩
        case measure => simp [intOf]

/-- By nothing. -/
theorem divSmall_zero (p : Option Addr) (n cap : Nat) (zs : List Int) (w : World) (ha : Arg w p n cap zs) (tz : Nm.tsize zs ≤ 4096) :
    Calls Tryz.prog 94 #[.slice p n cap, .int .u64 0] w fun e w' => e = .returned (.tuple #[.slice none 0 0, .int .u64 0, .int .i64 4]) ∧ w' = w := by
  obtain ⟨a1, a2, a3, a4, a5⟩ := ha
  have HT := hid (limited_ok p n cap zs w a1 a2 (by omega) a4 tz)
  go_enter Tryz.func94, Tryz.ntmps94
  go_wp2_with fail
  refine HT.out.mono ?_
  rintro e w' ⟨rfl, rfl⟩
  go_wp2_with fail
  go_ret3
  exact ⟨rfl, rfl⟩

/-- Of an operand that is too big. -/
theorem divSmall_big (p : Option Addr) (n cap : Nat) (zs : List Int) (d : Int) (w : World) (ha : Arg w p n cap zs) (tz : 4096 < Nm.tsize zs) :
    Calls Tryz.prog 94 #[.slice p n cap, .int .u64 d] w fun e w' => e = .returned (.tuple #[.slice none 0 0, .int .u64 0, .int .i64 2]) ∧ w' = w := by
  obtain ⟨a1, a2, a3, a4, a5⟩ := ha
  have HT := hid (limited_big p n cap zs w a1 a2 (by omega) a4 tz)
  go_enter Tryz.func94, Tryz.ntmps94
  go_wp2_with fail
  refine HT.out.mono ?_
  rintro e w' ⟨rfl, rfl⟩
  go_wp2_with fail
  go_ret3
  exact ⟨rfl, rfl⟩
end Go.Proofs.YtggiioipppbedaaGreatDoor

namespace Go.Proofs.YtggiioipppbedaaGreatDoor
open Go.RowKit Go.Deep

theorem Arg.drew {w : World} {p : Option Addr} {n cap : Nat} {zs : List Int} (h : Arg w p n cap zs) (k : Nat) : Arg (w.drewN k) p n cap zs := h

theorem Arg.cut {w : World} {p : Option Addr} {n cap : Nat} {zs : List Int} (h : Arg w p n cap zs) : Arg w p (Nm.tsize zs) cap (Nm.trim zs) :=
  ⟨Nm.trim_length zs, by have := h.tl; have := h.2.1; omega, h.2.2.1, h.2.2.2.1.trim, h.2.2.2.2.trim⟩

/-- Quotient and rest, each trimmed and in new memory. -/
def Splits (A B : Int) (w : World) (e : Ending) (w' : World) : Prop :=
  ∃ r1 os r2 rs, e = .returned (.tuple #[.slice r1 (List.length os) (List.length os), .slice r2 (List.length rs) (List.length rs), .int .i64 0]) ∧ Ans w.heap.size w' r1 os (A / B) ∧ Ans w.heap.size w' r2 rs (A % B) ∧ Below w.heap.size w w'

theorem div_is {A B q r : Int} (h0 : 0 ≤ r) (h1 : r < B) (h : q * B + r = A) : A / B = q ∧ A % B = r := by
  have hB : 0 < B := by omega
  have h2 : A / B = q := by
    rw [← h, Int.add_comm, Int.add_mul_ediv_right _ _ (by omega), Int.ediv_eq_zero_of_lt h0 h1, Int.zero_add]
  refine ⟨h2, ?_⟩
  have := Int.emod_add_mul_ediv A B
  rw [h2, Int.mul_comm] at this
  omega

theorem ret_three {p q : Option Addr} {a b c d : Nat} {e : Int} (h : a = b) (k : c = d) : Ending.returned (.tuple #[.slice p a a, .slice q c c, .int .i64 e]) = .returned (.tuple #[.slice p b b, .slice q d d, .int .i64 e]) := by rw [h, k]

theorem divMod_big (p q : Option Addr) (n cap m cap' : Nat) (zs ys : List Int) (w : World) (ha : Arg w p n cap zs) (hb : Arg w q m cap' ys) (h : 4096 < Nm.tsize zs ∨ 4096 < Nm.tsize ys) :
    Calls Tryz.prog 78 #[.slice p n cap, .slice q m cap'] w fun e w' => e = .returned (.tuple #[.slice none 0 0, .slice none 0 0, .int .i64 2]) ∧ w' = w := by
  have L1 := hid (limbs_any p n cap zs w ha)
  have L2 := hid (limbs_any q m cap' ys w hb)
  by_cases h1 : 4096 < Nm.tsize zs
  · have h1' : (4096 : Int) < (Nm.tsize zs : Int) := by omega
    go_enter Tryz.func78, Tryz.ntmps78
    go_wp2_with fail
    refine L1.out.mono ?_
    rintro e w' ⟨rfl, rfl⟩
    go_wp2_with fail
    go_ret3
    exact ⟨rfl, rfl⟩
  · have h1' : (Nm.tsize zs : Int) ≤ 4096 := by omega
    have h2' : (4096 : Int) < (Nm.tsize ys : Int) := by omega
    go_enter Tryz.func78, Tryz.ntmps78
    go_wp2_with fail
    refine L1.out.mono ?_
    rintro e w' ⟨rfl, rfl⟩
    go_wp2_with fail
    refine L2.out.mono ?_
    rintro e w' ⟨rfl, rfl⟩
    go_wp2_with fail
    go_ret3
    exact ⟨rfl, rfl⟩

theorem limbs_is (p : Option Addr) (n cap : Nat) (zs : List Int) (N : Nat) (w : World) (ha : Arg w p n cap zs) (hN : Nm.tsize zs = N) :
    Calls Tryz.prog 93 #[.slice p n cap] w fun e w' => e = .returned (.int .i64 (N : Int)) ∧ w' = w := by
  rw [← hN]
  exact limbs_any p n cap zs w ha

set_option maxRecDepth 100000 in
set_option maxHeartbeats 1000000 in
theorem divMod_zero (p q : Option Addr) (n cap m cap' : Nat) (zs ys : List Int) (w : World) (ha : Arg w p n cap zs) (hb : Arg w q m cap' ys) (tz : Nm.tsize zs ≤ 4096) (ty : Nm.tsize ys = 0) :
    Calls Tryz.prog 78 #[.slice p n cap, .slice q m cap'] w fun e w' => e = .returned (.tuple #[.slice none 0 0, .slice none 0 0, .int .i64 4]) ∧ Below w.heap.size w w' := by
  obtain ⟨N, HN⟩ : ∃ N, Hid (Nm.tsize zs = N) := ⟨_, rfl⟩
  obtain ⟨M, HM⟩ : ∃ M, Hid (Nm.tsize ys = M) := ⟨_, rfl⟩
  have h1' : (N : Int) ≤ 4096 := by have := HN.out; omega
  have h2' : (M : Int) ≤ 4096 := by have := HM.out; omega
  have h3' : ((M : Int) == 0) = true := by have := HM.out; simp; omega
  have h2 : (N : Int) ≤ (cap : Int) := by have := ha.tl; have := ha.2.1; have := HN.out; omega
  have h4 : (M : Int) ≤ (cap' : Int) := by have := hb.tl; have := hb.2.1; have := HM.out; omega
  have HA := hid ha
  have HB := hid hb
  clear ha hb ty tz
  go_enter Tryz.func78, Tryz.ntmps78
  go_wp2_with fail
  refine (limbs_is p n cap zs N _ HA.out HN.out).mono ?_
  rintro e w' ⟨rfl, rfl⟩
  go_wp2_with fail
  refine (limbs_is q m cap' ys M _ HB.out HM.out).mono ?_
  rintro e w' ⟨rfl, rfl⟩
  go_wp2_with fail
  go_quiet ((go_at_call 93; first | exact Calls.quiet_of_same (limbs_is p n cap zs N _ (HA.out.drew _) HN.out) | exact Calls.quiet_of_same (limbs_is q m cap' ys M _ (HB.out.drew _) HM.out)))
  go_wp2_with fail
  go_ret3
  exact ⟨rfl, below_drewN (Below.refl _ _) _⟩
end Go.Proofs.YtggiioipppbedaaGreatDoor

namespace Go.Proofs.YtggiioipppbedaaGreatDoor
open Go.RowKit Go.Deep

theorem Ans.up {B B' : Nat} {w : World} {p : Option Addr} {ys : List Int} {n : Int} (h : Ans B w p ys n) (hB : B' ≤ B) : Ans B' w p ys n :=
  ⟨h.1, h.2.1, h.2.2.1, h.2.2.2.1, fun a ha => ⟨Nat.le_trans hB (h.2.2.2.2 a ha).1, (h.2.2.2.2 a ha).2⟩⟩

set_option maxRecDepth 100000 in
set_option maxHeartbeats 1000000 in
theorem divMod_one (p q : Option Addr) (n cap m cap' : Nat) (zs ys : List Int) (w : World) (ha : Arg w p n cap zs) (hb : Arg w q m cap' ys) (tz : Nm.tsize zs ≤ 4096) (ty : Nm.tsize ys = 1) :
    Calls Tryz.prog 78 #[.slice p n cap, .slice q m cap'] w fun e w' => Splits (Nm.val zs) (Nm.val ys) w e w' := by
  obtain ⟨b', off', rfl, hbw', HC'⟩ := hb.2.2.2.1.trim.at (by rw [Nm.trim_length]; omega)
  obtain ⟨d, hd, D⟩ : ∃ d, w.cell? ⟨b', off', none⟩ = some (.int .u64 d) ∧ Hid (d = (Nm.trim ys).getD 0 0) := ⟨_, HC'.out 0 (by rw [Nm.trim_length]; omega), rfl⟩
  have hdb := hb.2.2.2.2.trim.at 0
  rw [← D.out] at hdb
  have hdv : Nm.val ys = d := by
    have h1 := Nm.val_trim ys
    have h2 := Nm.trim_length ys
    rw [ty] at h2
    obtain ⟨y, hy⟩ := List.length_eq_one_iff.1 h2
    have h3 := D.out
    rw [hy] at h1 h3
    simp [Nm.val] at h1 h3
    omega
  have hd0 : 0 < d := by
    have := Nm.val_ge_top hb.2.2.2.2 (by omega)
    rw [ty] at this
    simp [Nm.pw] at this
    omega
  obtain ⟨_, hd1⟩ := hdb
  obtain ⟨N, HN⟩ : ∃ N, Hid (Nm.tsize zs = N) := ⟨_, rfl⟩
  obtain ⟨M, HM⟩ : ∃ M, Hid (Nm.tsize ys = M) := ⟨_, rfl⟩
  have h1' : (N : Int) ≤ 4096 := by have := HN.out; omega
  have h2' : (M : Int) ≤ 4096 := by have := HM.out; omega
  have h3' : ((M : Int) == 0) = false := by have := HM.out; simp; omega
  have h5' : ((M : Int) == 1) = true := by have := HM.out; simp; omega
  have h6' : (0 : Int) < (M : Int) := by have := HM.out; omega
  have h2 : (N : Int) ≤ (cap : Int) := by have := ha.tl; have := ha.2.1; have := HN.out; omega
  have h4 : (M : Int) ≤ (cap' : Int) := by have := hb.tl; have := hb.2.1; have := HM.out; omega
  have CU := ha.cut
  rw [HN.out] at CU
  have HCU := hid CU
  have HT : Hid (Nm.tsize (Nm.trim zs) ≤ 4096) := by show _ ≤ _; rw [Nm.trim_trim]; exact tz
  have HA := hid ha
  have HB := hid hb
  have HV := hid hdv
  clear ha hb ty tz CU hbw' HC' D hdv
  go_enter Tryz.func78, Tryz.ntmps78
  go_wp2_with fail
  refine (limbs_is p n cap zs N _ HA.out HN.out).mono ?_
  rintro e w' ⟨rfl, rfl⟩
  go_wp2_with fail
  refine (limbs_is _ m cap' ys M _ HB.out HM.out).mono ?_
  rintro e w' ⟨rfl, rfl⟩
  go_wp2_with fail
  go_quiet ((go_at_call 93; first | exact Calls.quiet_of_same (limbs_is p n cap zs N _ (HA.out.drew _) HN.out) | exact Calls.quiet_of_same (limbs_is _ m cap' ys M _ (HB.out.drew _) HM.out)))
  have hd2 : (w'.drewN nq).cell? ⟨b', off', none⟩ = some (.int .u64 d) := hd
  have HCU2 := hid (HCU.out.drew nq)
  have HB0 : Hid (Below w'.heap.size w' (w'.drewN nq)) := below_drewN (Below.refl _ _) nq
  clear hd HCU
  generalize w'.drewN nq = wq at *
  go_wp2_with fail
  refine (divSmall_ok p N cap (Nm.trim zs) d _ HCU2.out HT.out hd0 hd1).mono ?_
  rintro e w2 ⟨r, os, rest, rfl, A1, ⟨s0, s1⟩, E, hb2⟩
  have HA1 := hid A1
  have HB2 := hid hb2
  have HE := hid (div_is s0 s1 E.out)
  have s2 : rest < 18446744073709551616 := by omega
  clear A1 hb2 E hd2
  go_wp2_with fail
  refine (fromUint_any rest _ s0 s2).mono ?_
  rintro e w3 ⟨r2, os2, rfl, A2, hb3⟩
  have F : Hid (Splits (Nm.val zs) (Nm.val ys) w' (.returned (.tuple #[.slice r (List.length os) (List.length os), .slice r2 (List.length os2) (List.length os2), .int .i64 0])) w3) := by
    have e1 := HE.out
    rw [Nm.val_trim, ← HV.out] at e1
    have z1 := HB0.out.size
    have z2 := HB2.out.size
    refine ⟨r, os, r2, os2, rfl, ?_, ?_, (chain (chain HB0.out HB2.out (Nat.le_refl _)) hb3 (Nat.le_refl _))⟩
    · rw [e1.1]; exact (HA1.out.below hb3 (Nat.le_refl _)).up z1
    · rw [e1.2]; exact A2.up (Nat.le_trans z1 z2)
  clear A2 hb3
  go_wp2_with fail
  go_ret3
  exact F.out

set_option maxRecDepth 100000 in
set_option maxHeartbeats 1000000 in
theorem divMod_less (p q : Option Addr) (n cap m cap' : Nat) (zs ys : List Int) (w : World) (ha : Arg w p n cap zs) (hb : Arg w q m cap' ys) (tz : Nm.tsize zs ≤ 4096) (ty : Nm.tsize ys ≤ 4096) (ty2 : 2 ≤ Nm.tsize ys) (hlt : Nm.val zs < Nm.val ys) :
    Calls Tryz.prog 78 #[.slice p n cap, .slice q m cap'] w fun e w' => Splits (Nm.val zs) (Nm.val ys) w e w' := by
  obtain ⟨N, HN⟩ : ∃ N, Hid (Nm.tsize zs = N) := ⟨_, rfl⟩
  obtain ⟨M, HM⟩ : ∃ M, Hid (Nm.tsize ys = M) := ⟨_, rfl⟩
  have h1' : (N : Int) ≤ 4096 := by have := HN.out; omega
  have h2' : (M : Int) ≤ 4096 := by have := HM.out; omega
  have h3' : ((M : Int) == 0) = false := by have := HM.out; simp; omega
  have h5' : ((M : Int) == 1) = false := by have := HM.out; rw [beq_eq_false_iff_ne]; omega
  have h2 : (N : Int) ≤ (cap : Int) := by have := ha.tl; have := ha.2.1; have := HN.out; omega
  have h4 : (M : Int) ≤ (cap' : Int) := by have := hb.tl; have := hb.2.1; have := HM.out; omega
  have CU := ha.cut
  rw [HN.out] at CU
  have CU' := hb.cut
  rw [HM.out] at CU'
  have HCU := hid CU
  have HCU' := hid CU'
  have HC : Hid (cmpI (Nm.val (Nm.trim zs)) (Nm.val (Nm.trim ys)) = -1) := by show _ = _; rw [Nm.val_trim, Nm.val_trim]; exact cmpI_lt hlt
  have HD : Hid (Nm.val zs / Nm.val ys = 0 ∧ Nm.val zs % Nm.val ys = Nm.val (Nm.trim zs)) := by
    have := (Nm.val_bd zs ha.2.2.2.2).1
    rw [Nm.val_trim]
    exact div_is this hlt (by omega)
  have HA := hid ha
  have HB := hid hb
  clear ha hb ty tz CU CU' ty2 hlt
  go_enter Tryz.func78, Tryz.ntmps78
  go_wp2_with fail
  refine (limbs_is p n cap zs N _ HA.out HN.out).mono ?_
  rintro e w' ⟨rfl, rfl⟩
  go_wp2_with fail
  refine (limbs_is _ m cap' ys M _ HB.out HM.out).mono ?_
  rintro e w' ⟨rfl, rfl⟩
  go_wp2_with fail
  go_quiet ((go_at_call 93; first | exact Calls.quiet_of_same (limbs_is p n cap zs N _ (HA.out.drew _) HN.out) | exact Calls.quiet_of_same (limbs_is _ m cap' ys M _ (HB.out.drew _) HM.out)))
  have HCU2 := hid (HCU.out.drew nq)
  have HCU2' := hid (HCU'.out.drew nq)
  have HB0 : Hid (Below w'.heap.size w' (w'.drewN nq)) := below_drewN (Below.refl _ _) nq
  clear HCU HCU'
  generalize w'.drewN nq = wq at *
  go_wp2_with fail
  refine (cmp_is (-1) p q N cap M cap' (Nm.trim zs) (Nm.trim ys) _ HCU2.out HCU2'.out HC.out).mono ?_
  rintro e w2 ⟨rfl, hb2⟩
  have HB2 := hid (chain HB0.out hb2 (Nat.le_refl _))
  have HCU3 := hid (HCU2.out.below hb2 (Nat.le_refl _))
  clear hb2
  go_wp2_with fail
  refine (trim_any p N cap (Nm.trim zs) _ HCU3.out).mono ?_
  rintro e w3 ⟨r, os, rfl, -, A1, hb3⟩
  have F : Hid (Splits (Nm.val zs) (Nm.val ys) w' (.returned (.tuple #[.slice none 0 0, .slice r (List.length os) (List.length os), .int .i64 0])) w3) := by
    have z1 := HB2.out.size
    refine ⟨none, [], r, os, rfl, ?_, ?_, chain HB2.out hb3 (Nat.le_refl _)⟩
    · rw [HD.out.1]; exact ans_none _ _ _ (fun a h => by cases h)
    · rw [HD.out.2]; exact A1.up z1
  clear A1 hb3
  go_wp2_with fail
  go_ret3
  exact F.out

/-- The quotient of a by b has so many limbs. -/
theorem first_room {zs ys : List Int} (hz : Nm.Limbs zs) (hy : Nm.Limbs ys) {N M K : Nat} (hN : Nm.tsize zs = N) (hM : Nm.tsize ys = M) (hM0 : 0 < M) (hK : N + 1 = K + M) : Nm.val zs < Nm.pw K * Nm.val ys := by
  have h1 := Nm.val_lt_tsize hz
  have h2 := Nm.val_ge_top hy (by omega)
  rw [hN] at h1
  rw [hM] at h2
  have h3 : Nm.pw K * Nm.pw (M - 1) ≤ Nm.pw K * Nm.val ys := Int.mul_le_mul_of_nonneg_left h2 (by have := Nm.pw_pos K; omega)
  rw [← Nm.pw_add, show K + (M - 1) = N by omega] at h3
  omega

set_option maxRecDepth 100000 in
set_option maxHeartbeats 1000000 in
theorem divMod_long (p q : Option Addr) (n cap m cap' : Nat) (zs ys : List Int) (w : World) (ha : Arg w p n cap zs) (hb : Arg w q m cap' ys) (tz : Nm.tsize zs ≤ 4096) (ty : Nm.tsize ys ≤ 4096) (ty2 : 2 ≤ Nm.tsize ys) (hge : Nm.val ys ≤ Nm.val zs) :
    Calls Tryz.prog 78 #[.slice p n cap, .slice q m cap'] w fun e w' => Splits (Nm.val zs) (Nm.val ys) w e w' := by
  obtain ⟨N, HN⟩ : ∃ N, Hid (Nm.tsize zs = N) := ⟨_, rfl⟩
  obtain ⟨M, HM⟩ : ∃ M, Hid (Nm.tsize ys = M) := ⟨_, rfl⟩
  have hNM : M ≤ N := by
    rcases Nat.lt_or_ge N M with h | h
    · have := val_lt_of_tsize ha.2.2.2.2 hb.2.2.2.2 (by rw [HN.out, HM.out]; exact h)
      omega
    · exact h
  obtain ⟨K, HK⟩ : ∃ K, Hid (N + 1 = K + M) := ⟨N + 1 - M, by show _ = _; omega⟩
  have RM := hid (first_room ha.2.2.2.2 hb.2.2.2.2 HN.out HM.out (by have := HM.out; omega) HK.out)
  have h1' : (N : Int) ≤ 4096 := by have := HN.out; omega
  have h2' : (M : Int) ≤ 4096 := by have := HM.out; omega
  have h3' : ((M : Int) == 0) = false := by have := HM.out; simp; omega
  have h5' : ((M : Int) == 1) = false := by have := HM.out; rw [beq_eq_false_iff_ne]; omega
  have h2 : (N : Int) ≤ (cap : Int) := by have := ha.tl; have := ha.2.1; have := HN.out; omega
  have h4 : (M : Int) ≤ (cap' : Int) := by have := hb.tl; have := hb.2.1; have := HM.out; omega
  have CU := ha.cut
  rw [HN.out] at CU
  have CU' := hb.cut
  rw [HM.out] at CU'
  have HCU := hid CU
  have HCU' := hid CU'
  obtain ⟨c, hc0, HC⟩ : ∃ c : Int, 0 ≤ c ∧ Hid (cmpI (Nm.val (Nm.trim zs)) (Nm.val (Nm.trim ys)) = c) := by
    rw [Nm.val_trim, Nm.val_trim]
    rcases (show Nm.val zs = Nm.val ys ∨ Nm.val ys < Nm.val zs by omega) with h | h
    · exact ⟨0, by omega, cmpI_eq h⟩
    · exact ⟨1, by omega, cmpI_gt h⟩
  have HA := hid ha
  have HB := hid hb
  have hM2 : 2 ≤ M := by have := HM.out; omega
  clear ha hb ty tz CU CU' ty2 hge
  go_enter Tryz.func78, Tryz.ntmps78
  go_wp2_with fail
  refine (limbs_is p n cap zs N _ HA.out HN.out).mono ?_
  rintro e w' ⟨rfl, rfl⟩
  go_wp2_with fail
  refine (limbs_is _ m cap' ys M _ HB.out HM.out).mono ?_
  rintro e w' ⟨rfl, rfl⟩
  go_wp2_with fail
  go_quiet ((go_at_call 93; first | exact Calls.quiet_of_same (limbs_is p n cap zs N _ (HA.out.drew _) HN.out) | exact Calls.quiet_of_same (limbs_is _ m cap' ys M _ (HB.out.drew _) HM.out)))
  have HCU2 := hid (HCU.out.drew nq)
  have HCU2' := hid (HCU'.out.drew nq)
  have HB0 : Hid (Below w'.heap.size w' (w'.drewN nq)) := below_drewN (Below.refl _ _) nq
  clear HCU HCU'
  generalize w'.drewN nq = wq at *
  go_wp2_with fail
  refine (cmp_is c p q N cap M cap' (Nm.trim zs) (Nm.trim ys) _ HCU2.out HCU2'.out HC.out).mono ?_
  rintro e w2 ⟨rfl, hb2⟩
  have HB2 := hid (chain HB0.out hb2 (Nat.le_refl _))
  have HCU3 := hid (HCU2.out.below hb2 (Nat.le_refl _))
  have HCU3' := hid (HCU2'.out.below hb2 (Nat.le_refl _))
  clear hb2 HCU2 HCU2' HB0
  have hmk := make64 (N + 1) (by omega) w2
  have em : ((N + 1 : Nat) : Int) = (N : Int) + 1 := by omega
  rw [em] at hmk
  clear em
  have hb0 : Below w2.heap.size w2 (w2.alloc (.cells (madeCells #[.int .u64 0] (N + 1)) 25)) := (Below.refl _ _).alloc (Nat.le_refl _) _
  have ho : Own (w2.alloc (.cells (madeCells #[.int .u64 0] (N + 1)) 25)) w2.heap.size (List.replicate (N + 1) 0) := by
    rw [made_zero]; exact Own.alloc w2 _
  obtain ⟨w3, hcp, ho1, hb1, hz1⟩ := copy64 w2.heap.size (N + 1) (List.replicate (N + 1) 0) p N cap (Nm.trim zs) 3 _ (by simp) (by rw [Nm.trim_length, HN.out]) (by omega) ho (HCU3.out.2.2.2.1.below hb0 (Nat.le_refl _))
  have e1 : List.drop N (List.replicate (N + 1) (0 : Int)) = [0] := by simp
  rw [e1] at ho1
  have HO := hid ho1
  have HB3 := hid (hb0.trans hb1)
  have HW3 : Hid (w2.heap.size < w3.heap.size) := ho1.lt
  clear e1 ho1 hb1 ho hb0 hz1
  have DV := divide_any w2.heap.size (N + 1) K (M - 2) M cap' (Nm.trim zs ++ [0]) q (Nm.trim ys) w3 HO.out (by simp [Nm.trim_length, HN.out]) (by omega) (Nm.Limbs.append HCU3.out.2.2.2.2 (limb_one (by omega))) (by omega) HK.out (by rw [Nm.trim_length, HM.out]) (by omega) (by have := HCU3'.out.2.2.1; omega)
    (HCU3'.out.2.2.2.1.below HB3.out (Nat.le_refl _)) HCU3'.out.2.2.2.2 (HCU3'.out.2.2.2.1.lt (by rw [Nm.trim_length, HM.out]; omega)) (by
      have := Nm.tsize_top (Nm.trim ys) (by rw [Nm.trim_trim, HM.out]; omega)
      rw [Nm.trim_trim, HM.out] at this
      rw [show M - 2 + 1 = M - 1 by omega]
      exact this) (by
      have e : Nm.val (Nm.trim zs ++ [0]) = Nm.val zs := by rw [Nm.val_append, Nm.val_trim]; simp [Nm.val]
      rw [e, Nm.val_trim]
      exact RM.out)
  have HDV := hid DV
  clear DV
  go_wp2_with fail
  refine HDV.out.mono ?_
  rintro e w4 ⟨os, rs, rfl, I⟩
  have bz := (Nm.val_bd rs I.out.lim).1
  have HE : Hid (Nm.val zs / Nm.val ys = Nm.val os ∧ Nm.val zs % Nm.val ys = Nm.val rs) := by
    have h1 := I.out.eq
    have h2 := I.out.lt
    have e : Nm.val (Nm.trim zs ++ [0]) = Nm.val zs := by rw [Nm.val_append, Nm.val_trim]; simp [Nm.val]
    rw [e, Nm.val_trim] at h1
    rw [Nm.val_trim] at h2
    simp only [Nm.pw, Int.one_mul] at h2
    exact div_is bz h2 h1
  have HB4 := hid ((HB2.out.trans (HB3.out.mono HB2.out.size)).trans (I.out.low.mono HB2.out.size))
  have hK64 : K ≤ 17592186044000 := by have := HK.out; omega
  have A1 : Hid (Arg w4 (some ⟨w3.heap.size, 0, none⟩) K K os) := ⟨I.out.len2, Nat.le_refl _, hK64, I.out.own2.lies, I.out.lim2⟩
  have HZ := hid HB2.out.size
  clear bz hmk hcp HDV
  go_wp2_with fail
  refine (trim_any _ K K os _ A1.out).mono ?_
  rintro e w5 ⟨r, os', rfl, -, A2, hb5⟩
  have HB5 := hid (chain HB4.out hb5 (Nat.le_refl _))
  have A3 : Hid (Arg w5 (some ⟨w2.heap.size, 0, none⟩) (N + 1) (N + 1) rs) := ⟨I.out.len, Nat.le_refl _, by omega, (I.out.own.below hb5 I.out.own.lt).lies, I.out.lim⟩
  have HA2 := hid (A2.up (B' := w'.heap.size) (HB4.out.size))
  clear A2 hb5
  go_wp2_with fail
  refine (trim_any _ (N + 1) (N + 1) rs _ A3.out).mono ?_
  rintro e w6 ⟨r2, os2, rfl, -, A4, hb6⟩
  have F : Hid (Splits (Nm.val zs) (Nm.val ys) w' (.returned (.tuple #[.slice r (List.length os') (List.length os'), .slice r2 (List.length os2) (List.length os2), .int .i64 0])) w6) := by
    refine ⟨r, os', r2, os2, rfl, ?_, ?_, chain HB5.out hb6 (Nat.le_refl _)⟩
    · rw [HE.out.1]; exact HA2.out.below hb6 (Nat.le_refl _)
    · rw [HE.out.2]; exact A4.up HB5.out.size
  clear A4 hb6
  go_wp2_with fail
  go_ret3
  exact F.out

/-- DivMod of two naturals that are not too big, the second not zero. -/
theorem divMod_ok (p q : Option Addr) (n cap m cap' : Nat) (zs ys : List Int) (w : World) (ha : Arg w p n cap zs) (hb : Arg w q m cap' ys) (tz : Nm.tsize zs ≤ 4096) (ty : Nm.tsize ys ≤ 4096) (hy : 0 < Nm.tsize ys) :
    Calls Tryz.prog 78 #[.slice p n cap, .slice q m cap'] w fun e w' => Splits (Nm.val zs) (Nm.val ys) w e w' := by
  by_cases h1 : Nm.tsize ys = 1
  · exact divMod_one p q n cap m cap' zs ys w ha hb tz h1
  by_cases h2 : Nm.val zs < Nm.val ys
  · exact divMod_less p q n cap m cap' zs ys w ha hb tz ty (by omega) h2
  · exact divMod_long p q n cap m cap' zs ys w ha hb tz ty (by omega) (by omega)
end Go.Proofs.YtggiioipppbedaaGreatDoor

namespace Go.Proofs.YtggiioipppbedaaGreatDoor
open Go Go.RowKit Go.Deep

theorem ans_small {B : Nat} {w : World} {r : Option Addr} {os : List Int} {v : Int} (h : Ans B w r os v) (k : Nat) (hv : v < Nm.pw k) : os.length ≤ k := by
  have := (Nm.tsize_le_iff h.2.1 k).2 (by rw [h.2.2.2.1]; exact hv)
  rw [h.2.2.1] at this
  exact this
end Go.Proofs.YtggiioipppbedaaGreatDoor
