/-
  Texts put together: ZRatio, ZRatioA, UTimes, UPowP, UPowE, UPowO, UPower, UPowY.
-/
import Derived.Test.YtmakkfekomnpbaaGreatDoorRH
import Derived.Test.YtmakkfekomnpbaaGreatDoorRD
import Derived.Test.YtmakkfekomnpbaaGreatDoorRE
import Derived.Test.YtmakkfekomnpbaaGreatDoorRC
/-
  The document's RoundRatio (made by mkzratio.py).
-/
namespace Go.Proofs.YtmakkfekomnpbaaGreatDoor
open Go Go.RowKit Go.Deep

namespace Ie
/-- One comparison, said at another scale. -/
theorem scale_cmp (D M V Y e : Int) (E s t a b : Nat) (hY : Y = M * 2 ^ E) (hst : (s : Int) - t = (E : Int) - 1075 - e) (hab : (a : Int) - b = e + 1075) :
    (D * M * 2 ^ s < V * 2 ^ t ↔ Y * (D * 2 ^ b) < V * 2 ^ a) ∧ (D * M * 2 ^ s = V * 2 ^ t ↔ Y * (D * 2 ^ b) = V * 2 ^ a) := by
  have p1 := Nm.two_pos (E + b)
  have p2 := Nm.two_pos s
  have e1 : D * M * 2 ^ s * 2 ^ (E + b) = Y * (D * 2 ^ b) * 2 ^ s := by rw [hY, Nm.two_add]; ac_rfl
  have e2 : V * 2 ^ t * 2 ^ (E + b) = V * 2 ^ a * 2 ^ s := by
    rw [Int.mul_assoc, Int.mul_assoc, ← Nm.two_add, ← Nm.two_add]; congr 2; omega
  refine ⟨⟨fun h => ?_, fun h => ?_⟩, ⟨fun h => ?_, fun h => ?_⟩⟩
  · have := Int.mul_lt_mul_of_pos_right h p1
    rw [e1, e2] at this
    exact Int.lt_of_mul_lt_mul_right this (Int.le_of_lt p2)
  · have := Int.mul_lt_mul_of_pos_right h p2
    rw [← e1, ← e2] at this
    exact Int.lt_of_mul_lt_mul_right this (Int.le_of_lt p1)
  · have : Y * (D * 2 ^ b) * 2 ^ s = V * 2 ^ a * 2 ^ s := by rw [← e1, ← e2, h]
    exact Int.eq_of_mul_eq_mul_right (by omega) this
  · have : D * M * 2 ^ s * 2 ^ (E + b) = V * 2 ^ t * 2 ^ (E + b) := by rw [e1, e2, h]
    exact Int.eq_of_mul_eq_mul_right (by omega) this

/-- The search's end. -/
theorem near_search (P Q lo x : Int) (hQ : 0 < Q) (h0 : 0 ≤ lo) (h1 : lo ≤ 9218868437227405312) (hlo : vl lo * Q ≤ P) (hhi : lo < 9218868437227405312 → P < vl (lo + 1) * Q)
    (hx : (lo = 9218868437227405312 ∧ x = lo) ∨ (lo < 9218868437227405312 ∧ x = lo + 1 ∧ (md lo * Q < P ∨ (md lo * Q = P ∧ lo % 2 = 1))) ∨ (lo < 9218868437227405312 ∧ x = lo ∧ (P < md lo * Q ∨ (md lo * Q = P ∧ lo % 2 = 0)))) : Near P Q false x := by
  rcases hx with ⟨h, rfl⟩ | ⟨h, rfl, hm⟩ | ⟨h, rfl, hm⟩
  · refine ⟨⟨h0, h1⟩, fun hp => .inl ?_, fun hc => by omega⟩
    have g := md_lt_vl (x - 1) (by omega)
    rw [show x - 1 + 1 = x by omega] at g
    have := Int.mul_lt_mul_of_pos_right g hQ
    omega
  · refine ⟨⟨by omega, by omega⟩, fun _ => ?_, fun hc => .inl ?_⟩
    · rw [show lo + 1 - 1 = lo by omega]
      rcases hm with g | ⟨g, g'⟩
      · exact .inl g
      · exact .inr ⟨g, .inl (by omega)⟩
    · have := Int.mul_lt_mul_of_pos_right (vl_lt_md (lo + 1)) hQ
      have := hhi h
      omega
  · refine ⟨⟨h0, h1⟩, fun hp => .inl ?_, fun _ => ?_⟩
    · have g := md_lt_vl (x - 1) (by omega)
      rw [show x - 1 + 1 = x by omega] at g
      have := Int.mul_lt_mul_of_pos_right g hQ
      omega
    · rcases hm with g | ⟨g, g'⟩
      · exact .inl g
      · exact .inr ⟨g.symm, g', rfl⟩
end Ie

theorem ret_sg0 {a b : Int} (h : a = b) : Ending.returned (.tuple #[.int .u64 a, .int .i64 0]) = .returned (.tuple #[.int .u64 b, .int .i64 0]) := by rw [h]

theorem split_nat' (z : Int) : ∃ s t : Nat, (s : Int) - t = z ∧ (s = 0 ∨ t = 0) := ⟨z.toNat, (-z).toNat, by omega, by omega⟩

/-- What the search asks. -/
theorem against_vl (p q : Option Addr) (n cap n' cap' : Nat) (zs ys : List Int) (w : World) (ha : Arg w p n cap zs) (hb : Arg w q n' cap' ys) (tz : Nm.tsize zs ≤ 4096) (ty : Nm.tsize ys ≤ 4096) (e : Int) (e0 : -1048576 ≤ e) (e1 : e ≤ 1048576) (V D : Int) (hV : Nm.val zs = V) (hD : Nm.val ys = D)
    (a b : Nat) (hab : (a : Int) - b = e + 1075) (x : Int) (x0 : 0 ≤ x) (x1 : x ≤ 9218868437227405312) (middle : Bool) :
    ∃ c, (c < 0 ↔ (if middle = true then Ie.md x else Ie.vl x) * (D * 2 ^ b) < V * 2 ^ a) ∧ (c = 0 ↔ (if middle = true then Ie.md x else Ie.vl x) * (D * 2 ^ b) = V * 2 ^ a) ∧ (c = -1 ∨ c = 0 ∨ c = 1) ∧
      Calls Tryz.prog 98 #[.int .u64 x, .bool middle, .slice p n cap, .slice q n' cap', .int .i64 e] w fun r w' => r = .returned (.int .i64 c) ∧ Below w.heap.size w w' := by
  obtain ⟨s, t, hst, h0⟩ := split_nat' ((Ie.ex x : Int) - 1075 - e)
  have C := against_any x middle p q n cap n' cap' zs ys w ha hb tz ty x0 x1 e e0 e1 V D hV hD s t hst h0
  have hY : (if middle = true then Ie.md x else Ie.vl x) = Ie.mm x middle * 2 ^ Ie.ex x := by cases middle <;> rfl
  obtain ⟨S1, S2⟩ := Ie.scale_cmp D (Ie.mm x middle) V _ e (Ie.ex x) s t a b hY hst hab
  refine ⟨_, ?_, ?_, ?_, C⟩
  · rw [← S1, cmpI]
    constructor
    · intro h
      by_cases g : D * Ie.mm x middle * 2 ^ s < V * 2 ^ t
      · exact g
      · rw [if_neg g] at h
        by_cases g2 : D * Ie.mm x middle * 2 ^ s = V * 2 ^ t
        · rw [if_pos g2] at h; omega
        · rw [if_neg g2] at h; omega
    · intro h; rw [if_pos h]; omega
  · rw [← S2, cmpI]
    constructor
    · intro h
      by_cases g : D * Ie.mm x middle * 2 ^ s < V * 2 ^ t
      · rw [if_pos g] at h; omega
      · rw [if_neg g] at h
        by_cases g2 : D * Ie.mm x middle * 2 ^ s = V * 2 ^ t
        · exact g2
        · rw [if_neg g2] at h; omega
    · intro h; rw [if_neg (by omega), if_pos h]
  · rw [cmpI]
    split
    · omega
    · split <;> omega

set_option maxRecDepth 100000 in
set_option maxHeartbeats 8000000 in
theorem zratio_any (neg : Bool) (p q : Option Addr) (n cap n' cap' : Nat) (zs ys : List Int) (w : World) (ha : Arg w p n cap zs) (hb : Arg w q n' cap' ys) (tz : Nm.tsize zs ≤ 4096) (ty : Nm.tsize ys ≤ 4096) (V D e : Int) (hV : Nm.val zs = V) (hD : Nm.val ys = D) (hd : 0 < D) (hv : 0 < V) (e0 : -1048576 ≤ e) (e1 : e ≤ 1048576) :
    Calls Tryz.prog 68 #[.bool neg, .slice p n cap, .slice q n' cap', .int .i64 e] w fun r w' => ∃ x, r = .returned (.tuple #[.int .u64 (Ie.sg neg x), .int .i64 0]) ∧ Ie.Rnd V D e false x ∧ Below w.heap.size w w' := by
  obtain ⟨a, b, hab⟩ : ∃ a b : Nat, (a : Int) - b = e + 1075 := ⟨(e + 1075).toNat, (-(e + 1075)).toNat, by omega⟩
  have dpos := Int.mul_pos hd (Nm.two_pos b)
  have AG := hid (fun (wx : World) (hx : Below w.heap.size w wx) (x : Int) (x0 : 0 ≤ x) (x1 : x ≤ 9218868437227405312) (middle : Bool) => against_vl p q n cap n' cap' zs ys wx (ha.below hx (Nat.le_refl _)) (hb.below hx (Nat.le_refl _)) tz ty e e0 e1 V D hV hD a b hab x x0 x1 middle)
  have FIN : Hid (∀ lo x : Int, 0 ≤ lo → lo ≤ 9218868437227405312 → Ie.vl lo * (D * 2 ^ b) ≤ V * 2 ^ a → (lo < 9218868437227405312 → V * 2 ^ a < Ie.vl (lo + 1) * (D * 2 ^ b)) →
      ((lo = 9218868437227405312 ∧ x = lo) ∨ (lo < 9218868437227405312 ∧ x = lo + 1 ∧ (Ie.md lo * (D * 2 ^ b) < V * 2 ^ a ∨ (Ie.md lo * (D * 2 ^ b) = V * 2 ^ a ∧ lo % 2 = 1))) ∨ (lo < 9218868437227405312 ∧ x = lo ∧ (V * 2 ^ a < Ie.md lo * (D * 2 ^ b) ∨ (Ie.md lo * (D * 2 ^ b) = V * 2 ^ a ∧ lo % 2 = 0)))) → Ie.Rnd V D e false x) :=
    fun lo x h0 h1 h2 h3 h4 => Ie.Rnd.of hab (Ie.near_search _ _ lo x dpos h0 h1 h2 h3 h4)
  have B1 := hid (refBig_is false p n cap zs w ha (by simp; omega))
  have B2 := hid (refBig_is false q n' cap' ys w hb (by simp; omega))
  have tp : 0 < Nm.tsize zs := by
    rcases Nat.eq_zero_or_pos (Nm.tsize zs) with h | h
    · have := (Nm.tsize_zero_iff ha.2.2.2.2).1 h; omega
    · exact h
  have tq : 0 < Nm.tsize ys := by
    rcases Nat.eq_zero_or_pos (Nm.tsize ys) with h | h
    · have := (Nm.tsize_zero_iff hb.2.2.2.2).1 h; omega
    · exact h
  obtain ⟨S1, hS1⟩ : ∃ S, Nm.tsize zs = S := ⟨_, rfl⟩
  obtain ⟨S2, hS2⟩ : ∃ S, Nm.tsize ys = S := ⟨_, rfl⟩
  have Z1 := refSize_any p n cap zs w ha.1 (by have := ha.2.1; have := ha.2.2.1; omega) ha.2.2.2.1
  have Z2 := refSize_any q n' cap' ys w hb.1 (by have := hb.2.1; have := hb.2.2.1; omega) hb.2.2.2.1
  rw [hS1] at Z1 tp
  rw [hS2] at Z2 tq
  have Z1 := hid Z1
  have Z2 := hid Z2
  have s1 : ((S1 : Int) == 0) = false := by rw [beq_eq_false_iff_ne]; omega
  have s2 : ((S2 : Int) == 0) = false := by rw [beq_eq_false_iff_ne]; omega
  have l3 : ¬ e < -1048576 := by omega
  have l4 : ¬ 1048576 < e := by omega
  have V0 : Hid (Ie.vl 0 * (D * 2 ^ b) ≤ V * 2 ^ a) := by
    rw [Hid, Ie.vl_zero, Int.zero_mul]
    exact Int.mul_nonneg (by omega) (Int.le_of_lt (Nm.two_pos a))
  generalize D * 2 ^ b = Q at *
  generalize V * 2 ^ a = PP at *
  clear ha hb tz ty hV hD hd hv hab tp tq hS1 hS2 dpos
  go_enter Tryz.func68, Tryz.ntmps68
  go_wp2_with fail
  refine B1.out.mono ?_
  rintro e' w' ⟨rfl, rfl⟩
  go_wp2_with fail
  refine B2.out.mono ?_
  rintro e' w' ⟨rfl, rfl⟩
  go_wp2_with fail
  refine Z2.out.mono ?_
  rintro e' w' ⟨rfl, rfl⟩
  go_wp2_with fail
  refine Z1.out.mono ?_
  rintro e' w0 ⟨rfl, rfl⟩
  go_wp2_with fail
  go_loopw [10, 11, 12] (fun s t _ wr => ∃ lo hi : Int, s = .int .u64 lo ∧ t = .int .u64 hi ∧ 0 ≤ lo ∧ lo ≤ hi ∧ hi ≤ 9218868437227405312 ∧ Hid (Ie.vl lo * Q ≤ PP ∧ (hi < 9218868437227405312 → PP < Ie.vl (hi + 1) * Q)) ∧ Hid (Below w0.heap.size w0 wr)) (fun s t _ _ => (intOf t - intOf s).toNat)
  case atStart => exact ⟨0, _, rfl, rfl, by omega, by omega, by omega, ⟨V0.out, fun h => by omega⟩, Below.refl _ _⟩
  case round =>
    obtain ⟨lo, hi, rfl, rfl, h0, h1, h2, I, HB⟩ := hrel
    rcases (show lo < hi ∨ lo = hi by omega) with hlt | heq
    · obtain ⟨m, hm⟩ : ∃ m, lo + (hi - lo + 1) / 2 = m := ⟨_, rfl⟩
      have m1 : lo < m := by omega
      have m2 : m ≤ hi := by omega
      obtain ⟨c, c1, c2, c3, hc⟩ := AG.out wr HB.out m (by omega) (by omega) false
      simp only [Bool.false_eq_true, if_false] at c1 c2
      have C1 := hid c1
      have C2 := hid c2
      have HC := hid hc
      clear c1 c2 hc
      rcases (show c ≤ 0 ∨ 0 < c by omega) with hc0 | hc0
      · have L1 : Hid (Ie.vl m * Q ≤ PP) := by
          rcases (show c < 0 ∨ c = 0 by omega) with g | g
          · have := C1.out.1 g; rw [Hid]; omega
          · have := C2.out.1 g; rw [Hid]; omega
        clear C1 C2
        go_wp2_with fail
        refine HC.out.mono ?_
        rintro e' w2 ⟨rfl, hB2⟩
        have HB2 := hid (HB.out.trans (hB2.mono HB.out.size))
        clear hB2
        go_wp2_with fail
        go_roundw
        case measure => simp only [intOf]; omega
        case rel => exact ⟨_, _, rfl, rfl, by omega, by omega, by omega, ⟨L1.out, I.out.2⟩, HB2⟩
      · have L1 : Hid (PP < Ie.vl m * Q) := by
          have g1 : ¬ Ie.vl m * Q < PP := fun g => by have := C1.out.2 g; omega
          have g2 : ¬ Ie.vl m * Q = PP := fun g => by have := C2.out.2 g; omega
          rw [Hid]; omega
        have c4 : ¬ c ≤ 0 := by omega
        clear C1 C2
        go_wp2_with fail
        refine HC.out.mono ?_
        rintro e' w2 ⟨rfl, hB2⟩
        have HB2 := hid (HB.out.trans (hB2.mono HB.out.size))
        clear hB2
        go_wp2_with fail
        go_roundw
        case measure => simp only [intOf]; omega
        case rel => exact ⟨_, _, rfl, rfl, by omega, by omega, by omega, ⟨I.out.1, fun _ => by rw [show m - 1 + 1 = m by omega]; exact L1.out⟩, HB2⟩
    · subst heq
      have FF := hid (fun (x : Int) => FIN.out lo x h0 h2 I.out.1 I.out.2)
      clear FIN
      rcases (show lo = 9218868437227405312 ∨ lo < 9218868437227405312 by omega) with hi' | hi'
      · have R := hid (FF.out lo (.inl ⟨hi', rfl⟩))
        subst hi'
        clear I FF AG
        cases neg
        · go_wp2_with fail
          go_ret2
          exact ⟨_, ret_sg0 rfl, R.out, HB.out⟩
        · go_wp2_with fail
          go_ret2
          exact ⟨_, ret_sg0 rfl, R.out, HB.out⟩
      · obtain ⟨c, c1, c2, c3, hc⟩ := AG.out wr HB.out lo h0 h2 true
        simp only [if_true] at c1 c2
        have C1 := hid c1
        have C2 := hid c2
        have HC := hid hc
        have par : lo % 2 = 0 ∨ lo % 2 = 1 := by omega
        clear c1 c2 hc AG I
        rcases c3 with rfl | rfl | rfl
        · have R := hid (FF.out _ (.inr (.inl ⟨hi', rfl, .inl (C1.out.1 (by omega))⟩)))
          clear FF C1 C2
          cases neg
          · go_wp2_with fail
            refine HC.out.mono ?_
            rintro e' w2 ⟨rfl, hB2⟩
            have HB2 := hid (HB.out.trans (hB2.mono HB.out.size))
            clear hB2
            go_wp2_with fail
            go_ret2
            exact ⟨_, ret_sg0 rfl, R.out, HB2.out⟩
          · go_wp2_with fail
            refine HC.out.mono ?_
            rintro e' w2 ⟨rfl, hB2⟩
            have HB2 := hid (HB.out.trans (hB2.mono HB.out.size))
            clear hB2
            go_wp2_with fail
            go_ret2
            exact ⟨_, ret_sg0 rfl, R.out, HB2.out⟩
        · rcases par with hp | hp
          · have R := hid (FF.out _ (.inr (.inr ⟨hi', rfl, .inr ⟨C2.out.1 rfl, hp⟩⟩)))
            clear FF C1 C2
            cases neg
            · go_wp2_with fail
              refine HC.out.mono ?_
              rintro e' w2 ⟨rfl, hB2⟩
              have HB2 := hid (HB.out.trans (hB2.mono HB.out.size))
              clear hB2
              go_wp2_with fail
              go_ret2
              exact ⟨_, ret_sg0 rfl, R.out, HB2.out⟩
            · go_wp2_with fail
              refine HC.out.mono ?_
              rintro e' w2 ⟨rfl, hB2⟩
              have HB2 := hid (HB.out.trans (hB2.mono HB.out.size))
              clear hB2
              go_wp2_with fail
              go_ret2
              exact ⟨_, ret_sg0 rfl, R.out, HB2.out⟩
          · have R := hid (FF.out _ (.inr (.inl ⟨hi', rfl, .inr ⟨C2.out.1 rfl, hp⟩⟩)))
            clear FF C1 C2
            cases neg
            · go_wp2_with fail
              refine HC.out.mono ?_
              rintro e' w2 ⟨rfl, hB2⟩
              have HB2 := hid (HB.out.trans (hB2.mono HB.out.size))
              clear hB2
              go_wp2_with fail
              go_ret2
              exact ⟨_, ret_sg0 rfl, R.out, HB2.out⟩
            · go_wp2_with fail
              refine HC.out.mono ?_
              rintro e' w2 ⟨rfl, hB2⟩
              have HB2 := hid (HB.out.trans (hB2.mono HB.out.size))
              clear hB2
              go_wp2_with fail
              go_ret2
              exact ⟨_, ret_sg0 rfl, R.out, HB2.out⟩
        · have lt : PP < Ie.md lo * Q := by
            have g1 : ¬ Ie.md lo * Q < PP := fun g => by have := C1.out.2 g; omega
            have g2 : ¬ Ie.md lo * Q = PP := fun g => by have := C2.out.2 g; omega
            omega
          have R := hid (FF.out _ (.inr (.inr ⟨hi', rfl, .inl lt⟩)))
          clear FF C1 C2 lt
          cases neg
          · go_wp2_with fail
            refine HC.out.mono ?_
            rintro e' w2 ⟨rfl, hB2⟩
            have HB2 := hid (HB.out.trans (hB2.mono HB.out.size))
            clear hB2
            go_wp2_with fail
            go_ret2
            exact ⟨_, ret_sg0 rfl, R.out, HB2.out⟩
          · go_wp2_with fail
            refine HC.out.mono ?_
            rintro e' w2 ⟨rfl, hB2⟩
            have HB2 := hid (HB.out.trans (hB2.mono HB.out.size))
            clear hB2
            go_wp2_with fail
            go_ret2
            exact ⟨_, ret_sg0 rfl, R.out, HB2.out⟩
end Go.Proofs.YtmakkfekomnpbaaGreatDoor

/-
  The document's RoundRatio at any exponent.
-/
namespace Go.Proofs.YtmakkfekomnpbaaGreatDoor
open Go Go.RowKit Go.Deep

set_option maxRecDepth 100000 in
set_option maxHeartbeats 4000000 in
/-- The document's RoundRatio, at any exponent. -/
theorem zratio_all (neg : Bool) (p q : Option Addr) (n cap n' cap' : Nat) (zs ys : List Int) (w : World) (ha : Arg w p n cap zs) (hb : Arg w q n' cap' ys) (tz : Nm.tsize zs ≤ 4096) (ty : Nm.tsize ys ≤ 4096) (V D e : Int) (hV : Nm.val zs = V) (hD : Nm.val ys = D) (hd : 0 < D) :
    Calls Tryz.prog 68 #[.bool neg, .slice p n cap, .slice q n' cap', .int .i64 e] w fun r w' => ∃ x, r = .returned (.tuple #[.int .u64 (Ie.sg neg x), .int .i64 0]) ∧ Ie.Rnd V D e false x ∧ Below w.heap.size w w' := by
  have v0 : 0 ≤ V := by rw [← hV]; exact (Nm.val_bd zs ha.2.2.2.2).1
  by_cases hin : 0 < V ∧ -1048576 ≤ e ∧ e ≤ 1048576
  · exact zratio_any neg p q n cap n' cap' zs ys w ha hb tz ty V D e hV hD hd hin.1 hin.2.1 hin.2.2
  · obtain ⟨L, hL, BL, hl, _⟩ := blen_is zs ha.2.2.2.2
    obtain ⟨M, hM, BM, hm, _⟩ := blen_is ys hb.2.2.2.2
    rw [hV] at BL
    rw [hD] at BM
    have B1 := hid (refBig_is false p n cap zs w ha (by simp; omega))
    have B2 := hid (refBig_is false q n' cap' ys w hb (by simp; omega))
    obtain ⟨S1, hS1⟩ : ∃ S, Nm.tsize zs = S := ⟨_, rfl⟩
    obtain ⟨S2, hS2⟩ : ∃ S, Nm.tsize ys = S := ⟨_, rfl⟩
    have tq : 0 < Nm.tsize ys := by
      rcases Nat.eq_zero_or_pos (Nm.tsize ys) with h | h
      · have := (Nm.tsize_zero_iff hb.2.2.2.2).1 h; omega
      · exact h
    have Z1 := refSize_any p n cap zs w ha.1 (by have := ha.2.1; have := ha.2.2.1; omega) ha.2.2.2.1
    have Z2 := refSize_any q n' cap' ys w hb.1 (by have := hb.2.1; have := hb.2.2.1; omega) hb.2.2.2.1
    have tz0 := Nm.tsize_zero_iff ha.2.2.2.2
    rw [hS1, hV] at tz0
    rw [hS1] at Z1
    rw [hS2] at Z2 tq
    have Z1 := hid Z1
    have Z2 := hid Z2
    have s2 : ((S2 : Int) == 0) = false := by rw [beq_eq_false_iff_ne]; omega
    have PZ := hid (zput_any neg 0 0 w (by omega) (by omega) (by omega) (by omega) (by omega))
    have PI := hid (zput_any neg 2047 0 w (by omega) (by omega) (by omega) (by omega) (by omega))
    have R0 : V = 0 ∨ e < -1048576 → Ie.Rnd V D e false 0 := by
      rintro (h | h)
      · rw [h]; exact Ie.rnd_zero D e false hd
      · exact Ie.rnd_small V D e L 0 false BL.1 (by rw [Int.pow_zero]; omega) (by omega)
    have RI : 0 < V → 1048576 < e → Ie.Rnd V D e false 9218868437227405312 := fun h h' => Ie.rnd_inf V D e 0 M false (by rw [Int.pow_zero]; omega) (by have := BM.1; omega) (by omega)
    by_cases c0 : V = 0
    · have hs0 : S1 = 0 := tz0.2 c0
      have R := hid (R0 (.inl c0))
      subst hs0
      clear ha hb tz ty hV hD hd v0 hin hL hM BL BM hl hm hS1 hS2 tq tz0 R0 RI PI
      go_enter Tryz.func68, Tryz.ntmps68
      go_wp2_with fail
      refine B1.out.mono ?_
      rintro e' w' ⟨rfl, rfl⟩
      go_wp2_with fail
      refine B2.out.mono ?_
      rintro e' w' ⟨rfl, rfl⟩
      go_wp2_with fail
      refine Z2.out.mono ?_
      rintro e' w' ⟨rfl, rfl⟩
      go_wp2_with fail
      refine Z1.out.mono ?_
      rintro e' w' ⟨rfl, rfl⟩
      go_wp2_with fail
      refine PZ.out.mono ?_
      rintro e' w' ⟨rfl, rfl⟩
      go_wp2_with fail
      go_ret2
      exact ⟨0, ret_sg (by simp), R.out, Below.refl _ _⟩
    · have s1 : ((S1 : Int) == 0) = false := by
        rw [beq_eq_false_iff_ne]
        intro hh
        exact c0 (tz0.1 (by omega))
      by_cases c1 : e < -1048576
      · have R := hid (R0 (.inr c1))
        clear ha hb tz ty hV hD hd v0 hin hL hM BL BM hl hm hS1 hS2 tq tz0 R0 RI PI c0
        go_enter Tryz.func68, Tryz.ntmps68
        go_wp2_with fail
        refine B1.out.mono ?_
        rintro e' w' ⟨rfl, rfl⟩
        go_wp2_with fail
        refine B2.out.mono ?_
        rintro e' w' ⟨rfl, rfl⟩
        go_wp2_with fail
        refine Z2.out.mono ?_
        rintro e' w' ⟨rfl, rfl⟩
        go_wp2_with fail
        refine Z1.out.mono ?_
        rintro e' w' ⟨rfl, rfl⟩
        go_wp2_with fail
        refine PZ.out.mono ?_
        rintro e' w' ⟨rfl, rfl⟩
        go_wp2_with fail
        go_ret2
        exact ⟨0, ret_sg (by simp), R.out, Below.refl _ _⟩
      · have c2 : 1048576 < e := by omega
        have R := hid (RI (by omega) c2)
        clear ha hb tz ty hV hD hd v0 hin hL hM BL BM hl hm hS1 hS2 tq tz0 R0 RI PZ c0
        go_enter Tryz.func68, Tryz.ntmps68
        go_wp2_with fail
        refine B1.out.mono ?_
        rintro e' w' ⟨rfl, rfl⟩
        go_wp2_with fail
        refine B2.out.mono ?_
        rintro e' w' ⟨rfl, rfl⟩
        go_wp2_with fail
        refine Z2.out.mono ?_
        rintro e' w' ⟨rfl, rfl⟩
        go_wp2_with fail
        refine Z1.out.mono ?_
        rintro e' w' ⟨rfl, rfl⟩
        go_wp2_with fail
        refine PI.out.mono ?_
        rintro e' w' ⟨rfl, rfl⟩
        go_wp2_with fail
        go_ret2
        exact ⟨_, ret_sg (by simp), R.out, Below.refl _ _⟩

end Go.Proofs.YtmakkfekomnpbaaGreatDoor

/-
  The document's layer 6: Times (made by mkupower.py).
-/
namespace Go.Proofs.YtmakkfekomnpbaaGreatDoor
open Go Go.RowKit Go.Deep

theorem Ie.kinds3' {x : Int} (h : Ie.isn x = false) : Ie.isz x = true ∨ Ie.isi x = true ∨ (Ie.fin x ∧ Ie.ab x ≠ 0) := by
  simp only [Ie.isn, Ie.isz, Ie.isi, Ie.fin, decide_eq_true_iff, decide_eq_false_iff_not] at *; omega

theorem ansz {w : World} {g B : Nat} {x : Int} (h : w.heap[g]? = some (.cells #[.int .u64 x] 26 (0, 0))) (h0 : 0 < x) (h1 : x < 18446744073709551616) (hB : B ≤ g) : Ans B w (some ⟨g, 0, none⟩) [x] x := by
  refine ⟨.inr ⟨g, 0, rfl, fun i hi => ?_⟩, Nm.Limbs.mk (by omega) h1 Nm.Limbs.nil, ?_, by simp [Nm.val], fun a ha => ?_⟩
  · obtain rfl : i = 0 := by simpa using hi
    simp [World.cell?, h]
  · have h3 := Nm.tsize_zero_iff (Nm.Limbs.mk (by omega) h1 Nm.Limbs.nil : Nm.Limbs [x])
    have h4 : Nm.val [x] = x := by simp [Nm.val]
    rw [h4] at h3
    have h2 := Nm.tsize_le [x]
    simp at h2 ⊢
    omega
  · cases ha; exact hB

set_option maxRecDepth 100000 in
set_option maxHeartbeats 4000000 in
theorem utimes_any (m : Int) (k : Nat) (w : World) (m0 : 0 < m) (m1 : m < 9007199254740992) (k1 : k ≤ 1024) :
    Calls Tryz.prog 67 #[.int .u64 m, .int .i64 (k : Int)] w fun e w' => ∃ r os, e = .returned (.slice r (List.length os) (List.length os)) ∧ Ans w.heap.size w' r os (m ^ k) ∧ Below w.heap.size w w' := by
  have hb := alloc_b w (.cells #[.int .u64 1] 26)
  have A1 := ansz (B := w.heap.size) (heap_alloc_new w (.cells #[.int .u64 1] 26)) (by omega) (by omega) (Nat.le_refl _)
  have HA := hid (And.intro A1 hb)
  clear hb A1
  by_cases hm : m = 1
  · subst hm
    have E : Hid ((1 : Int) ^ k = 1) := Int.one_pow
    go_enter Tryz.func67, Tryz.ntmps67
    go_wp2_with fail
    go_ret
    exact ⟨_, [1], rfl, by rw [E.out]; exact HA.out.1, HA.out.2⟩
  · have mn : (m == 1) = false := by rw [beq_eq_false_iff_ne]; exact hm
    have BP : Hid (∀ j : Nat, j ≤ k → m ^ j < Nm.pw 4096) := by
      intro j hj
      have h1 := (Ie.pow_bd m0 m1 (show j ≤ 1024 by omega)).2
      have g1 := Ie.pw_54272
      have g2 := Nm.pw_mono (show 4095 ≤ 4096 by omega)
      generalize (2 : Int) ^ 54272 = Q at *
      omega
    have TI : Hid (∀ (wr : World) (r : Option Addr) (os : List Int) (j : Nat), j ≤ k → Ans w.heap.size wr r os (m ^ j) → Below w.heap.size w wr → Calls Tryz.prog 97 #[.slice r os.length os.length, .slice (some ⟨wr.heap.size, 0, none⟩) 1 1] (wr.alloc (.cells #[.int .u64 m] 26)) fun e w' => ∃ r os, e = .returned (.slice r (List.length os) (List.length os)) ∧ Hid (Ans w.heap.size w' r os (m ^ (j + 1)) ∧ Below w.heap.size w w')) := by
      intro wr r os j hj A hB
      have hb := alloc_b wr (.cells #[.int .u64 m] 26)
      have hc := hB.trans (hb.mono hB.size)
      have A2 := A.below hb (Nat.le_refl _)
      have hv : Nm.val [m] = m := by simp [Nm.val]
      have ht : Nm.tsize [m] ≤ 1 := Nm.tsize_le [m]
      have lt := BP.out j hj
      refine (times_any r _ _ _ 1 1 os [m] _ (A2.argT lt) (arg_z (heap_alloc_new wr _) (by omega) (by omega)) (by have := A2.tsT lt; omega) (by omega)).mono ?_
      rintro e w' ⟨r', os', rfl, A', hB'⟩
      rw [A2.2.2.2.1, hv, ← Int.pow_succ] at A'
      exact ⟨r', os', rfl, ⟨A'.1, A'.2.1, A'.2.2.1, A'.2.2.2.1, fun a ha => Nat.le_trans hc.size (A'.2.2.2.2 a ha)⟩, hc.trans (hB'.mono hc.size)⟩
    have kb : (k : Int) ≤ 1024 := by omega
    clear hm
    go_enter Tryz.func67, Tryz.ntmps67
    go_wp2_with fail
    go_loopw [5, 6] (fun a i wr => ∃ (j : Nat) (r : Option Addr) (os : List Int), a = .slice r (List.length os) (List.length os) ∧ i = .int .i64 (j : Int) ∧ j ≤ k ∧ Hid (Ans w.heap.size wr r os (m ^ j) ∧ Below w.heap.size w wr)) (fun _ i _ => k - (intOf i).toNat)
    case atStart => exact ⟨0, _, [1], rfl, rfl, by omega, by rw [Int.pow_zero]; exact HA.out.1, HA.out.2⟩
    case round =>
      obtain ⟨j, r, os, rfl, rfl, hj, HI⟩ := hrel
      rcases Nat.lt_or_ge j k with lt | ge
      · have g : (j : Int) < (k : Int) := by omega
        have T1 := hid (TI.out wr r os j hj HI.out.1 HI.out.2)
        clear HI
        go_wp2_with fail
        refine T1.out.mono ?_
        rintro e w2 ⟨r', os', rfl, H2⟩
        go_wp2_with fail
        go_roundw
        case rel => exact ⟨j + 1, r', os', rfl, by go_num, by omega, H2⟩
        case measure => simp [intOf]; omega
      · have g : ¬ (j : Int) < (k : Int) := by omega
        obtain rfl : j = k := by omega
        go_wp2_with fail
        go_ret
        exact ⟨r, os, rfl, HI.out.1, HI.out.2⟩
end Go.Proofs.YtmakkfekomnpbaaGreatDoor

/-
  The document's Power, one sign (made by mkupow2.py).
-/
namespace Go.Proofs.YtmakkfekomnpbaaGreatDoor
open Go Go.RowKit Go.Deep

set_option maxRecDepth 100000 in
set_option maxHeartbeats 8000000 in
theorem upow_P (d n : Int) (w : World) (h0 : 0 ≤ d) (h1 : d < 18446744073709551616) (n1 : -1024 ≤ n) (n2 : n ≤ 1024) (n0 : n ≠ 0) (hs : Ie.ngd d = false) :
    Calls Tryz.prog 33 #[.int .u64 d, .int .i64 n] w fun e w' => ∃ r f, e = .returned (.tuple #[.int .u64 r, .int .i64 f]) ∧ Ie.PwrIs d n r f ∧ Below w.heap.size w w' := by
  have D := hid (fun (wx : World) => zdecode_any d wx h0 h1)
  rw [← Ie.ngd, hs] at D
  have c4 := Ie.isn_cls d
  have c3 := Ie.isi_cls d
  have c0 := Ie.isz_cls d
  have sgn : (Ie.ngd d && !(n % 2 == 0)) = false := by rw [hs]; rfl
  have WT : Hid (∀ y, Ie.isn d = false → Ie.SizeIs d n y → Ie.PwrIs d n (Ie.sg false y) 0) := fun y k hy => ⟨fun q => (by omega), fun _ _ => ⟨rfl, fun q => absurd q n0, fun _ => ⟨fun q => (by rw [k] at q; cases q), fun _ => ⟨y, by rw [sgn], hy⟩⟩⟩⟩
  have g1 : ¬ n < -1024 := by omega
  have g2 : ¬ n > 1024 := by omega
  have z' : (n == 0) = false := by rw [beq_eq_false_iff_ne]; exact n0
  simp only [partsOf] at D
  cases kn : Ie.isn d
  · rcases Ie.kinds3' kn with k | k | ⟨hf, hz⟩
    · have i := (Ie.sz_not k).1
      obtain ⟨c, hc⟩ : ∃ c, Ie.cls d = c := ⟨_, rfl⟩
      rw [k, hc, beq_iff_eq] at c0
      rw [hc] at D
      subst c0
      rcases (show 0 < n ∨ n < 0 by omega) with ns | ns
      · have E := hid (WT.out 0 kn ⟨fun _ => (by rw [if_pos (by omega)]), fun q => (by rw [i] at q; cases q), fun _ q => absurd (by rw [Ie.isz, decide_eq_true_iff] at k; exact k) q, by omega, by omega⟩)
        have SG := hid (fun (wx : World) => usigned_any false 0 wx (by omega) (by omega))
        generalize Ie.dm d = m at *
        generalize Ie.de d = x at *
        clear kn k i hc WT c4 c3 sgn hs
        go_enter Tryz.func33, Tryz.ntmps33
        go_wp2_with fail
        refine (D.out _).mono ?_
        rintro e w1 ⟨rfl, hB⟩
        have hb := hB.trans ((alloc_b w1 (.cells #[.bool false, .int .i64 0, .int .u64 m, .int .i64 x] 40)).mono hB.size)
        have P := Row4.new w1 40 (.bool false) (.int .i64 0) (.int .u64 m) (.int .i64 x)
        go_upto_region 6 with fail
        have HB1 := hid hb
        obtain ⟨⟨p0, p1, p2, p3⟩, -⟩ := P.cells
        clear hB hb P D
        generalize w1.alloc (.cells #[.bool false, .int .i64 0, .int .u64 m, .int .i64 x] 40) = wA at *
        generalize w1.heap.size = b at *
        go_wp2_with fail
        refine (SG.out _).mono ?_
        rintro e wz ⟨rfl, hz⟩
        replace hz := hz.symm
        subst hz
        go_wp2_with fail
        go_ret2
        exact ⟨_, _, rfl, E.out, HB1.out⟩
      · have E := hid (WT.out 9218868437227405312 kn ⟨fun _ => (by rw [if_neg (by omega)]), fun q => (by rw [i] at q; cases q), fun _ q => absurd (by rw [Ie.isz, decide_eq_true_iff] at k; exact k) q, by omega, by omega⟩)
        have SG := hid (fun (wx : World) => usigned_any false 9218868437227405312 wx (by omega) (by omega))
        have ns' : ¬ 0 < n := by omega
        generalize Ie.dm d = m at *
        generalize Ie.de d = x at *
        clear kn k i hc WT c4 c3 sgn hs
        go_enter Tryz.func33, Tryz.ntmps33
        go_wp2_with fail
        refine (D.out _).mono ?_
        rintro e w1 ⟨rfl, hB⟩
        have hb := hB.trans ((alloc_b w1 (.cells #[.bool false, .int .i64 0, .int .u64 m, .int .i64 x] 40)).mono hB.size)
        have P := Row4.new w1 40 (.bool false) (.int .i64 0) (.int .u64 m) (.int .i64 x)
        go_upto_region 6 with fail
        have HB1 := hid hb
        obtain ⟨⟨p0, p1, p2, p3⟩, -⟩ := P.cells
        clear hB hb P D
        generalize w1.alloc (.cells #[.bool false, .int .i64 0, .int .u64 m, .int .i64 x] 40) = wA at *
        generalize w1.heap.size = b at *
        go_wp2_with fail
        refine (SG.out _).mono ?_
        rintro e wz ⟨rfl, hz⟩
        replace hz := hz.symm
        subst hz
        go_wp2_with fail
        go_ret2
        exact ⟨_, _, rfl, E.out, HB1.out⟩
    · have i := (Ie.si_not k).1
      obtain ⟨c, hc⟩ : ∃ c, Ie.cls d = c := ⟨_, rfl⟩
      rw [k, hc, beq_iff_eq] at c3
      rw [hc] at D
      subst c3
      rcases (show 0 < n ∨ n < 0 by omega) with ns | ns
      · have E := hid (WT.out 9218868437227405312 kn ⟨fun q => (by rw [i] at q; cases q), fun _ => (by rw [if_pos (by omega)]), fun q => (by rw [(Ie.fin_kinds q).2] at k; cases k), by omega, by omega⟩)
        have SG := hid (fun (wx : World) => usigned_any false 9218868437227405312 wx (by omega) (by omega))
        generalize Ie.dm d = m at *
        generalize Ie.de d = x at *
        clear kn k i hc WT c4 c0 sgn hs
        go_enter Tryz.func33, Tryz.ntmps33
        go_wp2_with fail
        refine (D.out _).mono ?_
        rintro e w1 ⟨rfl, hB⟩
        have hb := hB.trans ((alloc_b w1 (.cells #[.bool false, .int .i64 3, .int .u64 m, .int .i64 x] 40)).mono hB.size)
        have P := Row4.new w1 40 (.bool false) (.int .i64 3) (.int .u64 m) (.int .i64 x)
        go_upto_region 6 with fail
        have HB1 := hid hb
        obtain ⟨⟨p0, p1, p2, p3⟩, -⟩ := P.cells
        clear hB hb P D
        generalize w1.alloc (.cells #[.bool false, .int .i64 3, .int .u64 m, .int .i64 x] 40) = wA at *
        generalize w1.heap.size = b at *
        go_wp2_with fail
        refine (SG.out _).mono ?_
        rintro e wz ⟨rfl, hz⟩
        replace hz := hz.symm
        subst hz
        go_wp2_with fail
        go_ret2
        exact ⟨_, _, rfl, E.out, HB1.out⟩
      · have E := hid (WT.out 0 kn ⟨fun q => (by rw [i] at q; cases q), fun _ => (by rw [if_neg (by omega)]), fun q => (by rw [(Ie.fin_kinds q).2] at k; cases k), by omega, by omega⟩)
        have SG := hid (fun (wx : World) => usigned_any false 0 wx (by omega) (by omega))
        have ns' : ¬ 0 < n := by omega
        generalize Ie.dm d = m at *
        generalize Ie.de d = x at *
        clear kn k i hc WT c4 c0 sgn hs
        go_enter Tryz.func33, Tryz.ntmps33
        go_wp2_with fail
        refine (D.out _).mono ?_
        rintro e w1 ⟨rfl, hB⟩
        have hb := hB.trans ((alloc_b w1 (.cells #[.bool false, .int .i64 3, .int .u64 m, .int .i64 x] 40)).mono hB.size)
        have P := Row4.new w1 40 (.bool false) (.int .i64 3) (.int .u64 m) (.int .i64 x)
        go_upto_region 6 with fail
        have HB1 := hid hb
        obtain ⟨⟨p0, p1, p2, p3⟩, -⟩ := P.cells
        clear hB hb P D
        generalize w1.alloc (.cells #[.bool false, .int .i64 3, .int .u64 m, .int .i64 x] 40) = wA at *
        generalize w1.heap.size = b at *
        go_wp2_with fail
        refine (SG.out _).mono ?_
        rintro e wz ⟨rfl, hz⟩
        replace hz := hz.symm
        subst hz
        go_wp2_with fail
        go_ret2
        exact ⟨_, _, rfl, E.out, HB1.out⟩
    · have z0 : Ie.isz d = false := by rw [Ie.isz, decide_eq_false_iff_not]; exact hz
      rw [kn] at c4
      rw [(Ie.fin_kinds hf).2] at c3
      rw [z0] at c0
      obtain ⟨⟨m0, m1⟩, ⟨e0, e1⟩, -, m2⟩ := Ie.dec_f d hf
      have mp : 0 < Ie.dm d := by have := fun g => hz (m2.1 g); omega
      have WP : Hid (∀ y, Ie.PowIs (Ie.dm d) (Ie.de d) n y → Ie.PwrIs d n (Ie.sg false y) 0) := fun y h => WT.out y kn ⟨fun q => (by rw [z0] at q; cases q), fun q => (by rw [(Ie.fin_kinds hf).2] at q; cases q), fun _ _ => h, h.bd.1, h.bd.2⟩
      clear WT kn hf hz z0 m0 m2 sgn hs
      generalize Ie.cls d = c at *
      generalize Ie.dm d = m at *
      generalize Ie.de d = x at *
      go_enter Tryz.func33, Tryz.ntmps33
      go_wp2_with fail
      refine (D.out _).mono ?_
      rintro e w1 ⟨rfl, hB⟩
      have hb := hB.trans ((alloc_b w1 (.cells #[.bool false, .int .i64 c, .int .u64 m, .int .i64 x] 40)).mono hB.size)
      have P := Row4.new w1 40 (.bool false) (.int .i64 c) (.int .u64 m) (.int .i64 x)
      go_upto_region 6 with fail
      have HB1 := hid hb
      obtain ⟨⟨p0, p1, p2, p3⟩, -⟩ := P.cells
      clear hB hb P D
      generalize w1.alloc (.cells #[.bool false, .int .i64 c, .int .u64 m, .int .i64 x] 40) = wA at *
      generalize w1.heap.size = b at *
      go_wp2_with fail
      go_loop [8, 9] (fun a f => ∃ (M F : Int) (j : Nat), a = .int .u64 M ∧ f = .int .i64 F ∧ 0 < M ∧ M < 9007199254740992 ∧ -1074 ≤ F ∧ F ≤ 1100 ∧ Hid (m = M * 2 ^ j ∧ F = x + (j : Int) ∧ j ≤ 60)) (fun a _ => (intOf a).toNat)
      case atStart => exact ⟨m, x, 0, rfl, rfl, mp, m1, e0, by omega, by rw [Int.pow_zero, Int.mul_one], by omega, by omega⟩
      case round =>
        obtain ⟨M, F, j, rfl, rfl, M0, M1, F0, F1, HI⟩ := hrel
        rcases (show M % 2 = 0 ∨ M % 2 = 1 by omega) with ev | od
        · have jb : j + 1 ≤ 60 := by
            rcases Nat.lt_or_ge j 60 with q | q
            · omega
            · exfalso
              have e := HI.out.1
              have g := Nm.two_mono (show 53 ≤ j by omega)
              have e53 : (2 : Int) ^ 53 = 9007199254740992 := by decide
              have : 1 * 2 ^ j ≤ M * 2 ^ j := Int.mul_le_mul_of_nonneg_right (by omega) (by omega)
              omega
          have NX : Hid (m = M / 2 * 2 ^ (j + 1) ∧ F + 1 = x + ((j + 1 : Nat) : Int) ∧ j + 1 ≤ 60) := by
            refine ⟨?_, by have := HI.out.2.1; omega, jb⟩
            rw [HI.out.1, Nm.two_succ, ← Int.mul_assoc, show M / 2 * 2 = M by omega]
          go_wp2_with fail
          go_round
          case rel => exact ⟨M / 2, F + 1, j + 1, rfl, rfl, by omega, by omega, by omega, by have := NX.out.2; omega, NX.out⟩
          case measure => simp [intOf]; omega
        · have od' : (M % 2 == 0) = false := by rw [beq_eq_false_iff_ne]; omega
          obtain ⟨hm, hF, -⟩ := HI.out
          rcases (show 0 < n ∨ n < 0 by omega) with ns | ns
          · obtain ⟨k, hk⟩ : ∃ k : Nat, n = (k : Int) := ⟨n.toNat, by omega⟩
            have nn : ¬ n < 0 := by omega
            have k1 : k ≤ 1024 := by omega
            have TI := hid (fun (wx : World) => utimes_any M k wx M0 M1 k1)
            obtain ⟨E, hE⟩ : ∃ E, F * (k : Int) = E := ⟨_, rfl⟩
            have eb : -2000000 ≤ E ∧ E ≤ 2000000 := by
              have a1 : F * (k : Int) ≤ 1100 * (k : Int) := Int.mul_le_mul_of_nonneg_right F1 (by omega)
              have a2 : -1074 * (k : Int) ≤ F * (k : Int) := Int.mul_le_mul_of_nonneg_right F0 (by omega)
              rw [← hE]
              omega
            obtain ⟨eb1, eb2⟩ := eb
            have RO : Hid (∀ (wx : World) (r : Option Addr) (os : List Int) (B : Nat), Ans B wx r os (M ^ k) → Calls Tryz.prog 32 #[.bool false, .slice r os.length os.length, .int .i64 E, .bool false] wx fun e w' => ∃ y, e = .returned (.tuple #[.int .u64 (Ie.sg false y), .int .i64 0]) ∧ Hid (Ie.PwrIs d n (Ie.sg false y) 0) ∧ w' = wx) := by
              intro wx r os B A
              have bd := Ie.pow_bd M0 M1 k1
              have g1 := Ie.pw_54272
              have g2 := Nm.pw_mono (show 4095 ≤ 4096 by omega)
              have lt : M ^ k < Nm.pw 4096 := by
                generalize (2 : Int) ^ 54272 = Q at *
                omega
              refine (zround_any false r _ _ os wx (A.argT lt) (A.tsT lt) (M ^ k) E false A.2.2.2.1).mono ?_
              rintro e w' ⟨y, rfl, hR, rfl⟩
              refine ⟨y, rfl, WP.out y (Ie.PowIs.mk hm (by omega) (fun i hi => ?_) (fun i hi => ?_)), rfl⟩
              · obtain rfl : i = k := by omega
                rw [← hF, hk, hE]; exact hR
              · omega
            have kb : (k : Int) ≤ 1024 := by omega
            have HE := hid hE
            clear WP HI hm hF
            subst hk
            go_wp2_with fail
            refine (TI.out _).mono ?_
            rintro e w2 ⟨r, os, rfl, A, hB⟩
            have HB2 := hid (HB1.out.trans (hB.mono HB1.out.size))
            have R1 := hid (RO.out w2 r os _ A)
            clear A hB TI RO p0 p1 p2 p3
            go_wp2_with fail
            refine R1.out.mono ?_
            rintro e wz ⟨y, rfl, hK, hz⟩
            replace hz := hz.symm
            subst hz
            go_wp2_with fail
            go_ret2
            exact ⟨_, _, rfl, hK.out, HB2.out⟩
          · obtain ⟨k, hk⟩ : ∃ k : Nat, -n = (k : Int) := ⟨(-n).toNat, by omega⟩
            have nn : ¬ 0 < n := by omega
            have k1 : k ≤ 1024 := by omega
            have TI := hid (fun (wx : World) => utimes_any M k wx M0 M1 k1)
            obtain ⟨E, hE⟩ : ∃ E, (-F) * (k : Int) = E := ⟨_, rfl⟩
            have eb : -2000000 ≤ E ∧ E ≤ 2000000 := by
              have a1 : F * (k : Int) ≤ 1100 * (k : Int) := Int.mul_le_mul_of_nonneg_right F1 (by omega)
              have a2 : -1074 * (k : Int) ≤ F * (k : Int) := Int.mul_le_mul_of_nonneg_right F0 (by omega)
              rw [← hE]
              rw [Int.neg_mul]
              omega
            obtain ⟨eb1, eb2⟩ := eb
            have RO : Hid (∀ (wx : World) (r : Option Addr) (os : List Int) (B : Nat), Ans B wx r os (M ^ k) → Calls Tryz.prog 68 #[.bool false, .slice (some ⟨wx.heap.size, 0, none⟩) 1 1, .slice r os.length os.length, .int .i64 E] (wx.alloc (.cells #[.int .u64 1] 26)) fun e w' => ∃ y, e = .returned (.tuple #[.int .u64 (Ie.sg false y), .int .i64 0]) ∧ Hid (Ie.PwrIs d n (Ie.sg false y) 0) ∧ Below wx.heap.size wx w') := by
              intro wx r os B A
              have bd := Ie.pow_bd M0 M1 k1
              have g1 := Ie.pw_54272
              have g2 := Nm.pw_mono (show 4095 ≤ 4096 by omega)
              have lt : M ^ k < Nm.pw 4096 := by
                generalize (2 : Int) ^ 54272 = Q at *
                omega
              have hb := alloc_b wx (.cells #[.int .u64 1] 26)
              have A2 := A.below hb (Nat.le_refl _)
              have hv : Nm.val [1] = 1 := by simp [Nm.val]
              have ht : Nm.tsize [(1 : Int)] ≤ 1 := Nm.tsize_le [1]
              refine (zratio_all false _ r 1 1 _ _ [1] os _ (arg_z (heap_alloc_new wx _) (by omega) (by omega)) (A2.argT lt) (by omega) (A2.tsT lt) 1 (M ^ k) E hv A2.2.2.2.1 bd.1).mono ?_
              rintro e w' ⟨y, rfl, hR, hB⟩
              refine ⟨y, rfl, WP.out y (Ie.PowIs.mk hm (by omega) (fun i hi => ?_) (fun i hi => ?_)), hb.trans (hB.mono hb.size)⟩
              · omega
              · obtain rfl : i = k := by omega
                rw [← hF, show n = -(i : Int) by omega, Int.mul_neg, ← Int.neg_mul, hE]; exact hR
            have kb : (k : Int) ≤ 1024 := by omega
            have HE := hid hE
            clear WP HI hm hF
            have WN : IntKind.i64.wrap (k : Int) = (k : Int) := by rw [IntKind.wrap_i64]; omega
            go_wp2_with fail
            refine (TI.out _).mono ?_
            rintro e w2 ⟨r, os, rfl, A, hB⟩
            have HB2 := hid (HB1.out.trans (hB.mono HB1.out.size))
            have R1 := hid (RO.out w2 r os _ A)
            clear A hB TI RO p0 p1 p2 p3
            go_wp2_with fail
            refine R1.out.mono ?_
            rintro e w3 ⟨y, rfl, hK, hB⟩
            have HB3 := hid (HB2.out.trans (hB.mono HB2.out.size))
            clear hB
            go_wp2_with fail
            go_ret2
            exact ⟨_, _, rfl, hK.out, HB3.out⟩
  · have E : Hid (Ie.PwrIs d n 9221120237041090560 0) := ⟨fun k => (by omega), fun _ _ => ⟨rfl, fun k => absurd k n0, fun _ => ⟨fun _ => rfl, fun k => (by rw [kn] at k; cases k)⟩⟩⟩
    obtain ⟨c, hc⟩ : ∃ c, Ie.cls d = c := ⟨_, rfl⟩
    rw [kn, hc, beq_iff_eq] at c4
    rw [hc] at D
    subst c4
    generalize Ie.dm d = m at *
    generalize Ie.de d = x at *
    clear kn hc WT c3 c0 sgn hs
    go_enter Tryz.func33, Tryz.ntmps33
    go_wp2_with fail
    refine (D.out _).mono ?_
    rintro e w1 ⟨rfl, hB⟩
    have hb := hB.trans ((alloc_b w1 (.cells #[.bool false, .int .i64 4, .int .u64 m, .int .i64 x] 40)).mono hB.size)
    have P := Row4.new w1 40 (.bool false) (.int .i64 4) (.int .u64 m) (.int .i64 x)
    go_upto_region 6 with fail
    have HB1 := hid hb
    obtain ⟨⟨p0, p1, p2, p3⟩, -⟩ := P.cells
    clear hB hb P D
    generalize w1.alloc (.cells #[.bool false, .int .i64 4, .int .u64 m, .int .i64 x] 40) = wA at *
    generalize w1.heap.size = b at *
    go_wp2_with fail
    go_ret2
    exact ⟨_, _, rfl, E.out, HB1.out⟩
end Go.Proofs.YtmakkfekomnpbaaGreatDoor

/-
  The document's Power, one sign (made by mkupow2.py).
-/
namespace Go.Proofs.YtmakkfekomnpbaaGreatDoor
open Go Go.RowKit Go.Deep

set_option maxRecDepth 100000 in
set_option maxHeartbeats 8000000 in
theorem upow_E (d n : Int) (w : World) (h0 : 0 ≤ d) (h1 : d < 18446744073709551616) (n1 : -1024 ≤ n) (n2 : n ≤ 1024) (n0 : n ≠ 0) (hs : Ie.ngd d = true) (hp : n % 2 = 0) :
    Calls Tryz.prog 33 #[.int .u64 d, .int .i64 n] w fun e w' => ∃ r f, e = .returned (.tuple #[.int .u64 r, .int .i64 f]) ∧ Ie.PwrIs d n r f ∧ Below w.heap.size w w' := by
  have D := hid (fun (wx : World) => zdecode_any d wx h0 h1)
  rw [← Ie.ngd, hs] at D
  have c4 := Ie.isn_cls d
  have c3 := Ie.isi_cls d
  have c0 := Ie.isz_cls d
  have sgn : (Ie.ngd d && !(n % 2 == 0)) = false := by rw [hs, hp]; rfl
  have WT : Hid (∀ y, Ie.isn d = false → Ie.SizeIs d n y → Ie.PwrIs d n (Ie.sg false y) 0) := fun y k hy => ⟨fun q => (by omega), fun _ _ => ⟨rfl, fun q => absurd q n0, fun _ => ⟨fun q => (by rw [k] at q; cases q), fun _ => ⟨y, by rw [sgn], hy⟩⟩⟩⟩
  have g1 : ¬ n < -1024 := by omega
  have g2 : ¬ n > 1024 := by omega
  have z' : (n == 0) = false := by rw [beq_eq_false_iff_ne]; exact n0
  have p' : Int.tmod n 2 = 0 := (tmod2 n).1 hp
  simp only [partsOf] at D
  cases kn : Ie.isn d
  · rcases Ie.kinds3' kn with k | k | ⟨hf, hz⟩
    · have i := (Ie.sz_not k).1
      obtain ⟨c, hc⟩ : ∃ c, Ie.cls d = c := ⟨_, rfl⟩
      rw [k, hc, beq_iff_eq] at c0
      rw [hc] at D
      subst c0
      rcases (show 0 < n ∨ n < 0 by omega) with ns | ns
      · have E := hid (WT.out 0 kn ⟨fun _ => (by rw [if_pos (by omega)]), fun q => (by rw [i] at q; cases q), fun _ q => absurd (by rw [Ie.isz, decide_eq_true_iff] at k; exact k) q, by omega, by omega⟩)
        have SG := hid (fun (wx : World) => usigned_any false 0 wx (by omega) (by omega))
        generalize Ie.dm d = m at *
        generalize Ie.de d = x at *
        clear kn k i hc WT c4 c3 sgn hs
        go_enter Tryz.func33, Tryz.ntmps33
        go_wp2_with fail
        refine (D.out _).mono ?_
        rintro e w1 ⟨rfl, hB⟩
        have hb := hB.trans ((alloc_b w1 (.cells #[.bool true, .int .i64 0, .int .u64 m, .int .i64 x] 40)).mono hB.size)
        have P := Row4.new w1 40 (.bool true) (.int .i64 0) (.int .u64 m) (.int .i64 x)
        go_upto_region 6 with fail
        have HB1 := hid hb
        obtain ⟨⟨p0, p1, p2, p3⟩, -⟩ := P.cells
        clear hB hb P D
        generalize w1.alloc (.cells #[.bool true, .int .i64 0, .int .u64 m, .int .i64 x] 40) = wA at *
        generalize w1.heap.size = b at *
        go_wp2_with fail
        refine (SG.out _).mono ?_
        rintro e wz ⟨rfl, hz⟩
        replace hz := hz.symm
        subst hz
        go_wp2_with fail
        go_ret2
        exact ⟨_, _, rfl, E.out, HB1.out⟩
      · have E := hid (WT.out 9218868437227405312 kn ⟨fun _ => (by rw [if_neg (by omega)]), fun q => (by rw [i] at q; cases q), fun _ q => absurd (by rw [Ie.isz, decide_eq_true_iff] at k; exact k) q, by omega, by omega⟩)
        have SG := hid (fun (wx : World) => usigned_any false 9218868437227405312 wx (by omega) (by omega))
        have ns' : ¬ 0 < n := by omega
        generalize Ie.dm d = m at *
        generalize Ie.de d = x at *
        clear kn k i hc WT c4 c3 sgn hs
        go_enter Tryz.func33, Tryz.ntmps33
        go_wp2_with fail
        refine (D.out _).mono ?_
        rintro e w1 ⟨rfl, hB⟩
        have hb := hB.trans ((alloc_b w1 (.cells #[.bool true, .int .i64 0, .int .u64 m, .int .i64 x] 40)).mono hB.size)
        have P := Row4.new w1 40 (.bool true) (.int .i64 0) (.int .u64 m) (.int .i64 x)
        go_upto_region 6 with fail
        have HB1 := hid hb
        obtain ⟨⟨p0, p1, p2, p3⟩, -⟩ := P.cells
        clear hB hb P D
        generalize w1.alloc (.cells #[.bool true, .int .i64 0, .int .u64 m, .int .i64 x] 40) = wA at *
        generalize w1.heap.size = b at *
        go_wp2_with fail
        refine (SG.out _).mono ?_
        rintro e wz ⟨rfl, hz⟩
        replace hz := hz.symm
        subst hz
        go_wp2_with fail
        go_ret2
        exact ⟨_, _, rfl, E.out, HB1.out⟩
    · have i := (Ie.si_not k).1
      obtain ⟨c, hc⟩ : ∃ c, Ie.cls d = c := ⟨_, rfl⟩
      rw [k, hc, beq_iff_eq] at c3
      rw [hc] at D
      subst c3
      rcases (show 0 < n ∨ n < 0 by omega) with ns | ns
      · have E := hid (WT.out 9218868437227405312 kn ⟨fun q => (by rw [i] at q; cases q), fun _ => (by rw [if_pos (by omega)]), fun q => (by rw [(Ie.fin_kinds q).2] at k; cases k), by omega, by omega⟩)
        have SG := hid (fun (wx : World) => usigned_any false 9218868437227405312 wx (by omega) (by omega))
        generalize Ie.dm d = m at *
        generalize Ie.de d = x at *
        clear kn k i hc WT c4 c0 sgn hs
        go_enter Tryz.func33, Tryz.ntmps33
        go_wp2_with fail
        refine (D.out _).mono ?_
        rintro e w1 ⟨rfl, hB⟩
        have hb := hB.trans ((alloc_b w1 (.cells #[.bool true, .int .i64 3, .int .u64 m, .int .i64 x] 40)).mono hB.size)
        have P := Row4.new w1 40 (.bool true) (.int .i64 3) (.int .u64 m) (.int .i64 x)
        go_upto_region 6 with fail
        have HB1 := hid hb
        obtain ⟨⟨p0, p1, p2, p3⟩, -⟩ := P.cells
        clear hB hb P D
        generalize w1.alloc (.cells #[.bool true, .int .i64 3, .int .u64 m, .int .i64 x] 40) = wA at *
        generalize w1.heap.size = b at *
        go_wp2_with fail
        refine (SG.out _).mono ?_
        rintro e wz ⟨rfl, hz⟩
        replace hz := hz.symm
        subst hz
        go_wp2_with fail
        go_ret2
        exact ⟨_, _, rfl, E.out, HB1.out⟩
      · have E := hid (WT.out 0 kn ⟨fun q => (by rw [i] at q; cases q), fun _ => (by rw [if_neg (by omega)]), fun q => (by rw [(Ie.fin_kinds q).2] at k; cases k), by omega, by omega⟩)
        have SG := hid (fun (wx : World) => usigned_any false 0 wx (by omega) (by omega))
        have ns' : ¬ 0 < n := by omega
        generalize Ie.dm d = m at *
        generalize Ie.de d = x at *
        clear kn k i hc WT c4 c0 sgn hs
        go_enter Tryz.func33, Tryz.ntmps33
        go_wp2_with fail
        refine (D.out _).mono ?_
        rintro e w1 ⟨rfl, hB⟩
        have hb := hB.trans ((alloc_b w1 (.cells #[.bool true, .int .i64 3, .int .u64 m, .int .i64 x] 40)).mono hB.size)
        have P := Row4.new w1 40 (.bool true) (.int .i64 3) (.int .u64 m) (.int .i64 x)
        go_upto_region 6 with fail
        have HB1 := hid hb
        obtain ⟨⟨p0, p1, p2, p3⟩, -⟩ := P.cells
        clear hB hb P D
        generalize w1.alloc (.cells #[.bool true, .int .i64 3, .int .u64 m, .int .i64 x] 40) = wA at *
        generalize w1.heap.size = b at *
        go_wp2_with fail
        refine (SG.out _).mono ?_
        rintro e wz ⟨rfl, hz⟩
        replace hz := hz.symm
        subst hz
        go_wp2_with fail
        go_ret2
        exact ⟨_, _, rfl, E.out, HB1.out⟩
    · have z0 : Ie.isz d = false := by rw [Ie.isz, decide_eq_false_iff_not]; exact hz
      rw [kn] at c4
      rw [(Ie.fin_kinds hf).2] at c3
      rw [z0] at c0
      obtain ⟨⟨m0, m1⟩, ⟨e0, e1⟩, -, m2⟩ := Ie.dec_f d hf
      have mp : 0 < Ie.dm d := by have := fun g => hz (m2.1 g); omega
      have WP : Hid (∀ y, Ie.PowIs (Ie.dm d) (Ie.de d) n y → Ie.PwrIs d n (Ie.sg false y) 0) := fun y h => WT.out y kn ⟨fun q => (by rw [z0] at q; cases q), fun q => (by rw [(Ie.fin_kinds hf).2] at q; cases q), fun _ _ => h, h.bd.1, h.bd.2⟩
      clear WT kn hf hz z0 m0 m2 sgn hs
      generalize Ie.cls d = c at *
      generalize Ie.dm d = m at *
      generalize Ie.de d = x at *
      go_enter Tryz.func33, Tryz.ntmps33
      go_wp2_with fail
      refine (D.out _).mono ?_
      rintro e w1 ⟨rfl, hB⟩
      have hb := hB.trans ((alloc_b w1 (.cells #[.bool true, .int .i64 c, .int .u64 m, .int .i64 x] 40)).mono hB.size)
      have P := Row4.new w1 40 (.bool true) (.int .i64 c) (.int .u64 m) (.int .i64 x)
      go_upto_region 6 with fail
      have HB1 := hid hb
      obtain ⟨⟨p0, p1, p2, p3⟩, -⟩ := P.cells
      clear hB hb P D
      generalize w1.alloc (.cells #[.bool true, .int .i64 c, .int .u64 m, .int .i64 x] 40) = wA at *
      generalize w1.heap.size = b at *
      go_wp2_with fail
      go_loop [8, 9] (fun a f => ∃ (M F : Int) (j : Nat), a = .int .u64 M ∧ f = .int .i64 F ∧ 0 < M ∧ M < 9007199254740992 ∧ -1074 ≤ F ∧ F ≤ 1100 ∧ Hid (m = M * 2 ^ j ∧ F = x + (j : Int) ∧ j ≤ 60)) (fun a _ => (intOf a).toNat)
      case atStart => exact ⟨m, x, 0, rfl, rfl, mp, m1, e0, by omega, by rw [Int.pow_zero, Int.mul_one], by omega, by omega⟩
      case round =>
        obtain ⟨M, F, j, rfl, rfl, M0, M1, F0, F1, HI⟩ := hrel
        rcases (show M % 2 = 0 ∨ M % 2 = 1 by omega) with ev | od
        · have jb : j + 1 ≤ 60 := by
            rcases Nat.lt_or_ge j 60 with q | q
            · omega
            · exfalso
              have e := HI.out.1
              have g := Nm.two_mono (show 53 ≤ j by omega)
              have e53 : (2 : Int) ^ 53 = 9007199254740992 := by decide
              have : 1 * 2 ^ j ≤ M * 2 ^ j := Int.mul_le_mul_of_nonneg_right (by omega) (by omega)
              omega
          have NX : Hid (m = M / 2 * 2 ^ (j + 1) ∧ F + 1 = x + ((j + 1 : Nat) : Int) ∧ j + 1 ≤ 60) := by
            refine ⟨?_, by have := HI.out.2.1; omega, jb⟩
            rw [HI.out.1, Nm.two_succ, ← Int.mul_assoc, show M / 2 * 2 = M by omega]
          go_wp2_with fail
          go_round
          case rel => exact ⟨M / 2, F + 1, j + 1, rfl, rfl, by omega, by omega, by omega, by have := NX.out.2; omega, NX.out⟩
          case measure => simp [intOf]; omega
        · have od' : (M % 2 == 0) = false := by rw [beq_eq_false_iff_ne]; omega
          obtain ⟨hm, hF, -⟩ := HI.out
          rcases (show 0 < n ∨ n < 0 by omega) with ns | ns
          · obtain ⟨k, hk⟩ : ∃ k : Nat, n = (k : Int) := ⟨n.toNat, by omega⟩
            have nn : ¬ n < 0 := by omega
            have k1 : k ≤ 1024 := by omega
            have TI := hid (fun (wx : World) => utimes_any M k wx M0 M1 k1)
            obtain ⟨E, hE⟩ : ∃ E, F * (k : Int) = E := ⟨_, rfl⟩
            have eb : -2000000 ≤ E ∧ E ≤ 2000000 := by
              have a1 : F * (k : Int) ≤ 1100 * (k : Int) := Int.mul_le_mul_of_nonneg_right F1 (by omega)
              have a2 : -1074 * (k : Int) ≤ F * (k : Int) := Int.mul_le_mul_of_nonneg_right F0 (by omega)
              rw [← hE]
              omega
            obtain ⟨eb1, eb2⟩ := eb
            have RO : Hid (∀ (wx : World) (r : Option Addr) (os : List Int) (B : Nat), Ans B wx r os (M ^ k) → Calls Tryz.prog 32 #[.bool false, .slice r os.length os.length, .int .i64 E, .bool false] wx fun e w' => ∃ y, e = .returned (.tuple #[.int .u64 (Ie.sg false y), .int .i64 0]) ∧ Hid (Ie.PwrIs d n (Ie.sg false y) 0) ∧ w' = wx) := by
              intro wx r os B A
              have bd := Ie.pow_bd M0 M1 k1
              have g1 := Ie.pw_54272
              have g2 := Nm.pw_mono (show 4095 ≤ 4096 by omega)
              have lt : M ^ k < Nm.pw 4096 := by
                generalize (2 : Int) ^ 54272 = Q at *
                omega
              refine (zround_any false r _ _ os wx (A.argT lt) (A.tsT lt) (M ^ k) E false A.2.2.2.1).mono ?_
              rintro e w' ⟨y, rfl, hR, rfl⟩
              refine ⟨y, rfl, WP.out y (Ie.PowIs.mk hm (by omega) (fun i hi => ?_) (fun i hi => ?_)), rfl⟩
              · obtain rfl : i = k := by omega
                rw [← hF, hk, hE]; exact hR
              · omega
            have kb : (k : Int) ≤ 1024 := by omega
            have HE := hid hE
            clear WP HI hm hF
            subst hk
            go_wp2_with fail
            refine (TI.out _).mono ?_
            rintro e w2 ⟨r, os, rfl, A, hB⟩
            have HB2 := hid (HB1.out.trans (hB.mono HB1.out.size))
            have R1 := hid (RO.out w2 r os _ A)
            clear A hB TI RO p0 p1 p2 p3
            go_wp2_with fail
            refine R1.out.mono ?_
            rintro e wz ⟨y, rfl, hK, hz⟩
            replace hz := hz.symm
            subst hz
            go_wp2_with fail
            go_ret2
            exact ⟨_, _, rfl, hK.out, HB2.out⟩
          · obtain ⟨k, hk⟩ : ∃ k : Nat, -n = (k : Int) := ⟨(-n).toNat, by omega⟩
            have nn : ¬ 0 < n := by omega
            have k1 : k ≤ 1024 := by omega
            have TI := hid (fun (wx : World) => utimes_any M k wx M0 M1 k1)
            obtain ⟨E, hE⟩ : ∃ E, (-F) * (k : Int) = E := ⟨_, rfl⟩
            have eb : -2000000 ≤ E ∧ E ≤ 2000000 := by
              have a1 : F * (k : Int) ≤ 1100 * (k : Int) := Int.mul_le_mul_of_nonneg_right F1 (by omega)
              have a2 : -1074 * (k : Int) ≤ F * (k : Int) := Int.mul_le_mul_of_nonneg_right F0 (by omega)
              rw [← hE]
              rw [Int.neg_mul]
              omega
            obtain ⟨eb1, eb2⟩ := eb
            have RO : Hid (∀ (wx : World) (r : Option Addr) (os : List Int) (B : Nat), Ans B wx r os (M ^ k) → Calls Tryz.prog 68 #[.bool false, .slice (some ⟨wx.heap.size, 0, none⟩) 1 1, .slice r os.length os.length, .int .i64 E] (wx.alloc (.cells #[.int .u64 1] 26)) fun e w' => ∃ y, e = .returned (.tuple #[.int .u64 (Ie.sg false y), .int .i64 0]) ∧ Hid (Ie.PwrIs d n (Ie.sg false y) 0) ∧ Below wx.heap.size wx w') := by
              intro wx r os B A
              have bd := Ie.pow_bd M0 M1 k1
              have g1 := Ie.pw_54272
              have g2 := Nm.pw_mono (show 4095 ≤ 4096 by omega)
              have lt : M ^ k < Nm.pw 4096 := by
                generalize (2 : Int) ^ 54272 = Q at *
                omega
              have hb := alloc_b wx (.cells #[.int .u64 1] 26)
              have A2 := A.below hb (Nat.le_refl _)
              have hv : Nm.val [1] = 1 := by simp [Nm.val]
              have ht : Nm.tsize [(1 : Int)] ≤ 1 := Nm.tsize_le [1]
              refine (zratio_all false _ r 1 1 _ _ [1] os _ (arg_z (heap_alloc_new wx _) (by omega) (by omega)) (A2.argT lt) (by omega) (A2.tsT lt) 1 (M ^ k) E hv A2.2.2.2.1 bd.1).mono ?_
              rintro e w' ⟨y, rfl, hR, hB⟩
              refine ⟨y, rfl, WP.out y (Ie.PowIs.mk hm (by omega) (fun i hi => ?_) (fun i hi => ?_)), hb.trans (hB.mono hb.size)⟩
              · omega
              · obtain rfl : i = k := by omega
                rw [← hF, show n = -(i : Int) by omega, Int.mul_neg, ← Int.neg_mul, hE]; exact hR
            have kb : (k : Int) ≤ 1024 := by omega
            have HE := hid hE
            clear WP HI hm hF
            have WN : IntKind.i64.wrap (k : Int) = (k : Int) := by rw [IntKind.wrap_i64]; omega
            go_wp2_with fail
            refine (TI.out _).mono ?_
            rintro e w2 ⟨r, os, rfl, A, hB⟩
            have HB2 := hid (HB1.out.trans (hB.mono HB1.out.size))
            have R1 := hid (RO.out w2 r os _ A)
            clear A hB TI RO p0 p1 p2 p3
            go_wp2_with fail
            refine R1.out.mono ?_
            rintro e w3 ⟨y, rfl, hK, hB⟩
            have HB3 := hid (HB2.out.trans (hB.mono HB2.out.size))
            clear hB
            go_wp2_with fail
            go_ret2
            exact ⟨_, _, rfl, hK.out, HB3.out⟩
  · have E : Hid (Ie.PwrIs d n 9221120237041090560 0) := ⟨fun k => (by omega), fun _ _ => ⟨rfl, fun k => absurd k n0, fun _ => ⟨fun _ => rfl, fun k => (by rw [kn] at k; cases k)⟩⟩⟩
    obtain ⟨c, hc⟩ : ∃ c, Ie.cls d = c := ⟨_, rfl⟩
    rw [kn, hc, beq_iff_eq] at c4
    rw [hc] at D
    subst c4
    generalize Ie.dm d = m at *
    generalize Ie.de d = x at *
    clear kn hc WT c3 c0 sgn hs
    go_enter Tryz.func33, Tryz.ntmps33
    go_wp2_with fail
    refine (D.out _).mono ?_
    rintro e w1 ⟨rfl, hB⟩
    have hb := hB.trans ((alloc_b w1 (.cells #[.bool true, .int .i64 4, .int .u64 m, .int .i64 x] 40)).mono hB.size)
    have P := Row4.new w1 40 (.bool true) (.int .i64 4) (.int .u64 m) (.int .i64 x)
    go_upto_region 6 with fail
    have HB1 := hid hb
    obtain ⟨⟨p0, p1, p2, p3⟩, -⟩ := P.cells
    clear hB hb P D
    generalize w1.alloc (.cells #[.bool true, .int .i64 4, .int .u64 m, .int .i64 x] 40) = wA at *
    generalize w1.heap.size = b at *
    go_wp2_with fail
    go_ret2
    exact ⟨_, _, rfl, E.out, HB1.out⟩
end Go.Proofs.YtmakkfekomnpbaaGreatDoor

/-
  The document's Power, one sign (made by mkupow2.py).
-/
namespace Go.Proofs.YtmakkfekomnpbaaGreatDoor
open Go Go.RowKit Go.Deep

set_option maxRecDepth 100000 in
set_option maxHeartbeats 8000000 in
theorem upow_O (d n : Int) (w : World) (h0 : 0 ≤ d) (h1 : d < 18446744073709551616) (n1 : -1024 ≤ n) (n2 : n ≤ 1024) (n0 : n ≠ 0) (hs : Ie.ngd d = true) (hp : n % 2 = 1) :
    Calls Tryz.prog 33 #[.int .u64 d, .int .i64 n] w fun e w' => ∃ r f, e = .returned (.tuple #[.int .u64 r, .int .i64 f]) ∧ Ie.PwrIs d n r f ∧ Below w.heap.size w w' := by
  have D := hid (fun (wx : World) => zdecode_any d wx h0 h1)
  rw [← Ie.ngd, hs] at D
  have c4 := Ie.isn_cls d
  have c3 := Ie.isi_cls d
  have c0 := Ie.isz_cls d
  have sgn : (Ie.ngd d && !(n % 2 == 0)) = true := by rw [hs, hp]; rfl
  have WT : Hid (∀ y, Ie.isn d = false → Ie.SizeIs d n y → Ie.PwrIs d n (Ie.sg true y) 0) := fun y k hy => ⟨fun q => (by omega), fun _ _ => ⟨rfl, fun q => absurd q n0, fun _ => ⟨fun q => (by rw [k] at q; cases q), fun _ => ⟨y, by rw [sgn], hy⟩⟩⟩⟩
  have g1 : ¬ n < -1024 := by omega
  have g2 : ¬ n > 1024 := by omega
  have z' : (n == 0) = false := by rw [beq_eq_false_iff_ne]; exact n0
  have p' : (Int.tmod n 2 == 0) = false := by rw [beq_eq_false_iff_ne]; exact (tmod2 n).2 hp
  have p2' : (Int.tmod n 2 != 0) = true := by rw [bne, p']; rfl
  simp only [partsOf] at D
  cases kn : Ie.isn d
  · rcases Ie.kinds3' kn with k | k | ⟨hf, hz⟩
    · have i := (Ie.sz_not k).1
      obtain ⟨c, hc⟩ : ∃ c, Ie.cls d = c := ⟨_, rfl⟩
      rw [k, hc, beq_iff_eq] at c0
      rw [hc] at D
      subst c0
      rcases (show 0 < n ∨ n < 0 by omega) with ns | ns
      · have E := hid (WT.out 0 kn ⟨fun _ => (by rw [if_pos (by omega)]), fun q => (by rw [i] at q; cases q), fun _ q => absurd (by rw [Ie.isz, decide_eq_true_iff] at k; exact k) q, by omega, by omega⟩)
        have SG := hid (fun (wx : World) => usigned_any true 0 wx (by omega) (by omega))
        generalize Ie.dm d = m at *
        generalize Ie.de d = x at *
        clear kn k i hc WT c4 c3 sgn hs
        go_enter Tryz.func33, Tryz.ntmps33
        go_wp2_with fail
        refine (D.out _).mono ?_
        rintro e w1 ⟨rfl, hB⟩
        have hb := hB.trans ((alloc_b w1 (.cells #[.bool true, .int .i64 0, .int .u64 m, .int .i64 x] 40)).mono hB.size)
        have P := Row4.new w1 40 (.bool true) (.int .i64 0) (.int .u64 m) (.int .i64 x)
        go_upto_region 6 with fail
        have HB1 := hid hb
        obtain ⟨⟨p0, p1, p2, p3⟩, -⟩ := P.cells
        clear hB hb P D
        generalize w1.alloc (.cells #[.bool true, .int .i64 0, .int .u64 m, .int .i64 x] 40) = wA at *
        generalize w1.heap.size = b at *
        go_wp2_with fail
        refine (SG.out _).mono ?_
        rintro e wz ⟨rfl, hz⟩
        replace hz := hz.symm
        subst hz
        go_wp2_with fail
        go_ret2
        exact ⟨_, _, rfl, E.out, HB1.out⟩
      · have E := hid (WT.out 9218868437227405312 kn ⟨fun _ => (by rw [if_neg (by omega)]), fun q => (by rw [i] at q; cases q), fun _ q => absurd (by rw [Ie.isz, decide_eq_true_iff] at k; exact k) q, by omega, by omega⟩)
        have SG := hid (fun (wx : World) => usigned_any true 9218868437227405312 wx (by omega) (by omega))
        have ns' : ¬ 0 < n := by omega
        generalize Ie.dm d = m at *
        generalize Ie.de d = x at *
        clear kn k i hc WT c4 c3 sgn hs
        go_enter Tryz.func33, Tryz.ntmps33
        go_wp2_with fail
        refine (D.out _).mono ?_
        rintro e w1 ⟨rfl, hB⟩
        have hb := hB.trans ((alloc_b w1 (.cells #[.bool true, .int .i64 0, .int .u64 m, .int .i64 x] 40)).mono hB.size)
        have P := Row4.new w1 40 (.bool true) (.int .i64 0) (.int .u64 m) (.int .i64 x)
        go_upto_region 6 with fail
        have HB1 := hid hb
        obtain ⟨⟨p0, p1, p2, p3⟩, -⟩ := P.cells
        clear hB hb P D
        generalize w1.alloc (.cells #[.bool true, .int .i64 0, .int .u64 m, .int .i64 x] 40) = wA at *
        generalize w1.heap.size = b at *
        go_wp2_with fail
        refine (SG.out _).mono ?_
        rintro e wz ⟨rfl, hz⟩
        replace hz := hz.symm
        subst hz
        go_wp2_with fail
        go_ret2
        exact ⟨_, _, rfl, E.out, HB1.out⟩
    · have i := (Ie.si_not k).1
      obtain ⟨c, hc⟩ : ∃ c, Ie.cls d = c := ⟨_, rfl⟩
      rw [k, hc, beq_iff_eq] at c3
      rw [hc] at D
      subst c3
      rcases (show 0 < n ∨ n < 0 by omega) with ns | ns
      · have E := hid (WT.out 9218868437227405312 kn ⟨fun q => (by rw [i] at q; cases q), fun _ => (by rw [if_pos (by omega)]), fun q => (by rw [(Ie.fin_kinds q).2] at k; cases k), by omega, by omega⟩)
        have SG := hid (fun (wx : World) => usigned_any true 9218868437227405312 wx (by omega) (by omega))
        generalize Ie.dm d = m at *
        generalize Ie.de d = x at *
        clear kn k i hc WT c4 c0 sgn hs
        go_enter Tryz.func33, Tryz.ntmps33
        go_wp2_with fail
        refine (D.out _).mono ?_
        rintro e w1 ⟨rfl, hB⟩
        have hb := hB.trans ((alloc_b w1 (.cells #[.bool true, .int .i64 3, .int .u64 m, .int .i64 x] 40)).mono hB.size)
        have P := Row4.new w1 40 (.bool true) (.int .i64 3) (.int .u64 m) (.int .i64 x)
        go_upto_region 6 with fail
        have HB1 := hid hb
        obtain ⟨⟨p0, p1, p2, p3⟩, -⟩ := P.cells
        clear hB hb P D
        generalize w1.alloc (.cells #[.bool true, .int .i64 3, .int .u64 m, .int .i64 x] 40) = wA at *
        generalize w1.heap.size = b at *
        go_wp2_with fail
        refine (SG.out _).mono ?_
        rintro e wz ⟨rfl, hz⟩
        replace hz := hz.symm
        subst hz
        go_wp2_with fail
        go_ret2
        exact ⟨_, _, rfl, E.out, HB1.out⟩
      · have E := hid (WT.out 0 kn ⟨fun q => (by rw [i] at q; cases q), fun _ => (by rw [if_neg (by omega)]), fun q => (by rw [(Ie.fin_kinds q).2] at k; cases k), by omega, by omega⟩)
        have SG := hid (fun (wx : World) => usigned_any true 0 wx (by omega) (by omega))
        have ns' : ¬ 0 < n := by omega
        generalize Ie.dm d = m at *
        generalize Ie.de d = x at *
        clear kn k i hc WT c4 c0 sgn hs
        go_enter Tryz.func33, Tryz.ntmps33
        go_wp2_with fail
        refine (D.out _).mono ?_
        rintro e w1 ⟨rfl, hB⟩
        have hb := hB.trans ((alloc_b w1 (.cells #[.bool true, .int .i64 3, .int .u64 m, .int .i64 x] 40)).mono hB.size)
        have P := Row4.new w1 40 (.bool true) (.int .i64 3) (.int .u64 m) (.int .i64 x)
        go_upto_region 6 with fail
        have HB1 := hid hb
        obtain ⟨⟨p0, p1, p2, p3⟩, -⟩ := P.cells
        clear hB hb P D
        generalize w1.alloc (.cells #[.bool true, .int .i64 3, .int .u64 m, .int .i64 x] 40) = wA at *
        generalize w1.heap.size = b at *
        go_wp2_with fail
        refine (SG.out _).mono ?_
        rintro e wz ⟨rfl, hz⟩
        replace hz := hz.symm
        subst hz
        go_wp2_with fail
        go_ret2
        exact ⟨_, _, rfl, E.out, HB1.out⟩
    · have z0 : Ie.isz d = false := by rw [Ie.isz, decide_eq_false_iff_not]; exact hz
      rw [kn] at c4
      rw [(Ie.fin_kinds hf).2] at c3
      rw [z0] at c0
      obtain ⟨⟨m0, m1⟩, ⟨e0, e1⟩, -, m2⟩ := Ie.dec_f d hf
      have mp : 0 < Ie.dm d := by have := fun g => hz (m2.1 g); omega
      have WP : Hid (∀ y, Ie.PowIs (Ie.dm d) (Ie.de d) n y → Ie.PwrIs d n (Ie.sg true y) 0) := fun y h => WT.out y kn ⟨fun q => (by rw [z0] at q; cases q), fun q => (by rw [(Ie.fin_kinds hf).2] at q; cases q), fun _ _ => h, h.bd.1, h.bd.2⟩
      clear WT kn hf hz z0 m0 m2 sgn hs
      generalize Ie.cls d = c at *
      generalize Ie.dm d = m at *
      generalize Ie.de d = x at *
      go_enter Tryz.func33, Tryz.ntmps33
      go_wp2_with fail
      refine (D.out _).mono ?_
      rintro e w1 ⟨rfl, hB⟩
      have hb := hB.trans ((alloc_b w1 (.cells #[.bool true, .int .i64 c, .int .u64 m, .int .i64 x] 40)).mono hB.size)
      have P := Row4.new w1 40 (.bool true) (.int .i64 c) (.int .u64 m) (.int .i64 x)
      go_upto_region 6 with fail
      have HB1 := hid hb
      obtain ⟨⟨p0, p1, p2, p3⟩, -⟩ := P.cells
      clear hB hb P D
      generalize w1.alloc (.cells #[.bool true, .int .i64 c, .int .u64 m, .int .i64 x] 40) = wA at *
      generalize w1.heap.size = b at *
      go_wp2_with fail
      go_loop [8, 9] (fun a f => ∃ (M F : Int) (j : Nat), a = .int .u64 M ∧ f = .int .i64 F ∧ 0 < M ∧ M < 9007199254740992 ∧ -1074 ≤ F ∧ F ≤ 1100 ∧ Hid (m = M * 2 ^ j ∧ F = x + (j : Int) ∧ j ≤ 60)) (fun a _ => (intOf a).toNat)
      case atStart => exact ⟨m, x, 0, rfl, rfl, mp, m1, e0, by omega, by rw [Int.pow_zero, Int.mul_one], by omega, by omega⟩
      case round =>
        obtain ⟨M, F, j, rfl, rfl, M0, M1, F0, F1, HI⟩ := hrel
        rcases (show M % 2 = 0 ∨ M % 2 = 1 by omega) with ev | od
        · have jb : j + 1 ≤ 60 := by
            rcases Nat.lt_or_ge j 60 with q | q
            · omega
            · exfalso
              have e := HI.out.1
              have g := Nm.two_mono (show 53 ≤ j by omega)
              have e53 : (2 : Int) ^ 53 = 9007199254740992 := by decide
              have : 1 * 2 ^ j ≤ M * 2 ^ j := Int.mul_le_mul_of_nonneg_right (by omega) (by omega)
              omega
          have NX : Hid (m = M / 2 * 2 ^ (j + 1) ∧ F + 1 = x + ((j + 1 : Nat) : Int) ∧ j + 1 ≤ 60) := by
            refine ⟨?_, by have := HI.out.2.1; omega, jb⟩
            rw [HI.out.1, Nm.two_succ, ← Int.mul_assoc, show M / 2 * 2 = M by omega]
          go_wp2_with fail
          go_round
          case rel => exact ⟨M / 2, F + 1, j + 1, rfl, rfl, by omega, by omega, by omega, by have := NX.out.2; omega, NX.out⟩
          case measure => simp [intOf]; omega
        · have od' : (M % 2 == 0) = false := by rw [beq_eq_false_iff_ne]; omega
          obtain ⟨hm, hF, -⟩ := HI.out
          rcases (show 0 < n ∨ n < 0 by omega) with ns | ns
          · obtain ⟨k, hk⟩ : ∃ k : Nat, n = (k : Int) := ⟨n.toNat, by omega⟩
            have nn : ¬ n < 0 := by omega
            have k1 : k ≤ 1024 := by omega
            have TI := hid (fun (wx : World) => utimes_any M k wx M0 M1 k1)
            obtain ⟨E, hE⟩ : ∃ E, F * (k : Int) = E := ⟨_, rfl⟩
            have eb : -2000000 ≤ E ∧ E ≤ 2000000 := by
              have a1 : F * (k : Int) ≤ 1100 * (k : Int) := Int.mul_le_mul_of_nonneg_right F1 (by omega)
              have a2 : -1074 * (k : Int) ≤ F * (k : Int) := Int.mul_le_mul_of_nonneg_right F0 (by omega)
              rw [← hE]
              omega
            obtain ⟨eb1, eb2⟩ := eb
            have RO : Hid (∀ (wx : World) (r : Option Addr) (os : List Int) (B : Nat), Ans B wx r os (M ^ k) → Calls Tryz.prog 32 #[.bool true, .slice r os.length os.length, .int .i64 E, .bool false] wx fun e w' => ∃ y, e = .returned (.tuple #[.int .u64 (Ie.sg true y), .int .i64 0]) ∧ Hid (Ie.PwrIs d n (Ie.sg true y) 0) ∧ w' = wx) := by
              intro wx r os B A
              have bd := Ie.pow_bd M0 M1 k1
              have g1 := Ie.pw_54272
              have g2 := Nm.pw_mono (show 4095 ≤ 4096 by omega)
              have lt : M ^ k < Nm.pw 4096 := by
                generalize (2 : Int) ^ 54272 = Q at *
                omega
              refine (zround_any true r _ _ os wx (A.argT lt) (A.tsT lt) (M ^ k) E false A.2.2.2.1).mono ?_
              rintro e w' ⟨y, rfl, hR, rfl⟩
              refine ⟨y, rfl, WP.out y (Ie.PowIs.mk hm (by omega) (fun i hi => ?_) (fun i hi => ?_)), rfl⟩
              · obtain rfl : i = k := by omega
                rw [← hF, hk, hE]; exact hR
              · omega
            have kb : (k : Int) ≤ 1024 := by omega
            have HE := hid hE
            clear WP HI hm hF
            subst hk
            go_wp2_with fail
            refine (TI.out _).mono ?_
            rintro e w2 ⟨r, os, rfl, A, hB⟩
            have HB2 := hid (HB1.out.trans (hB.mono HB1.out.size))
            have R1 := hid (RO.out w2 r os _ A)
            clear A hB TI RO p0 p1 p2 p3
            go_wp2_with fail
            refine R1.out.mono ?_
            rintro e wz ⟨y, rfl, hK, hz⟩
            replace hz := hz.symm
            subst hz
            go_wp2_with fail
            go_ret2
            exact ⟨_, _, rfl, hK.out, HB2.out⟩
          · obtain ⟨k, hk⟩ : ∃ k : Nat, -n = (k : Int) := ⟨(-n).toNat, by omega⟩
            have nn : ¬ 0 < n := by omega
            have k1 : k ≤ 1024 := by omega
            have TI := hid (fun (wx : World) => utimes_any M k wx M0 M1 k1)
            obtain ⟨E, hE⟩ : ∃ E, (-F) * (k : Int) = E := ⟨_, rfl⟩
            have eb : -2000000 ≤ E ∧ E ≤ 2000000 := by
              have a1 : F * (k : Int) ≤ 1100 * (k : Int) := Int.mul_le_mul_of_nonneg_right F1 (by omega)
              have a2 : -1074 * (k : Int) ≤ F * (k : Int) := Int.mul_le_mul_of_nonneg_right F0 (by omega)
              rw [← hE]
              rw [Int.neg_mul]
              omega
            obtain ⟨eb1, eb2⟩ := eb
            have RO : Hid (∀ (wx : World) (r : Option Addr) (os : List Int) (B : Nat), Ans B wx r os (M ^ k) → Calls Tryz.prog 68 #[.bool true, .slice (some ⟨wx.heap.size, 0, none⟩) 1 1, .slice r os.length os.length, .int .i64 E] (wx.alloc (.cells #[.int .u64 1] 26)) fun e w' => ∃ y, e = .returned (.tuple #[.int .u64 (Ie.sg true y), .int .i64 0]) ∧ Hid (Ie.PwrIs d n (Ie.sg true y) 0) ∧ Below wx.heap.size wx w') := by
              intro wx r os B A
              have bd := Ie.pow_bd M0 M1 k1
              have g1 := Ie.pw_54272
              have g2 := Nm.pw_mono (show 4095 ≤ 4096 by omega)
              have lt : M ^ k < Nm.pw 4096 := by
                generalize (2 : Int) ^ 54272 = Q at *
                omega
              have hb := alloc_b wx (.cells #[.int .u64 1] 26)
              have A2 := A.below hb (Nat.le_refl _)
              have hv : Nm.val [1] = 1 := by simp [Nm.val]
              have ht : Nm.tsize [(1 : Int)] ≤ 1 := Nm.tsize_le [1]
              refine (zratio_all true _ r 1 1 _ _ [1] os _ (arg_z (heap_alloc_new wx _) (by omega) (by omega)) (A2.argT lt) (by omega) (A2.tsT lt) 1 (M ^ k) E hv A2.2.2.2.1 bd.1).mono ?_
              rintro e w' ⟨y, rfl, hR, hB⟩
              refine ⟨y, rfl, WP.out y (Ie.PowIs.mk hm (by omega) (fun i hi => ?_) (fun i hi => ?_)), hb.trans (hB.mono hb.size)⟩
              · omega
              · obtain rfl : i = k := by omega
                rw [← hF, show n = -(i : Int) by omega, Int.mul_neg, ← Int.neg_mul, hE]; exact hR
            have kb : (k : Int) ≤ 1024 := by omega
            have HE := hid hE
            clear WP HI hm hF
            have WN : IntKind.i64.wrap (k : Int) = (k : Int) := by rw [IntKind.wrap_i64]; omega
            go_wp2_with fail
            refine (TI.out _).mono ?_
            rintro e w2 ⟨r, os, rfl, A, hB⟩
            have HB2 := hid (HB1.out.trans (hB.mono HB1.out.size))
            have R1 := hid (RO.out w2 r os _ A)
            clear A hB TI RO p0 p1 p2 p3
            go_wp2_with fail
            refine R1.out.mono ?_
            rintro e w3 ⟨y, rfl, hK, hB⟩
            have HB3 := hid (HB2.out.trans (hB.mono HB2.out.size))
            clear hB
            go_wp2_with fail
            go_ret2
            exact ⟨_, _, rfl, hK.out, HB3.out⟩
  · have E : Hid (Ie.PwrIs d n 9221120237041090560 0) := ⟨fun k => (by omega), fun _ _ => ⟨rfl, fun k => absurd k n0, fun _ => ⟨fun _ => rfl, fun k => (by rw [kn] at k; cases k)⟩⟩⟩
    obtain ⟨c, hc⟩ : ∃ c, Ie.cls d = c := ⟨_, rfl⟩
    rw [kn, hc, beq_iff_eq] at c4
    rw [hc] at D
    subst c4
    generalize Ie.dm d = m at *
    generalize Ie.de d = x at *
    clear kn hc WT c3 c0 sgn hs
    go_enter Tryz.func33, Tryz.ntmps33
    go_wp2_with fail
    refine (D.out _).mono ?_
    rintro e w1 ⟨rfl, hB⟩
    have hb := hB.trans ((alloc_b w1 (.cells #[.bool true, .int .i64 4, .int .u64 m, .int .i64 x] 40)).mono hB.size)
    have P := Row4.new w1 40 (.bool true) (.int .i64 4) (.int .u64 m) (.int .i64 x)
    go_upto_region 6 with fail
    have HB1 := hid hb
    obtain ⟨⟨p0, p1, p2, p3⟩, -⟩ := P.cells
    clear hB hb P D
    generalize w1.alloc (.cells #[.bool true, .int .i64 4, .int .u64 m, .int .i64 x] 40) = wA at *
    generalize w1.heap.size = b at *
    go_wp2_with fail
    go_ret2
    exact ⟨_, _, rfl, E.out, HB1.out⟩
end Go.Proofs.YtmakkfekomnpbaaGreatDoor

/-
  The document's Power (made by mkupow2.py).
-/
namespace Go.Proofs.YtmakkfekomnpbaaGreatDoor
open Go Go.RowKit Go.Deep

set_option maxRecDepth 100000 in
theorem upower_any (d n : Int) (w : World) (h0 : 0 ≤ d) (h1 : d < 18446744073709551616) :
    Calls Tryz.prog 33 #[.int .u64 d, .int .i64 n] w fun e w' => ∃ r f, e = .returned (.tuple #[.int .u64 r, .int .i64 f]) ∧ Ie.PwrIs d n r f ∧ Below w.heap.size w w' := by
  rcases (show n < -1024 ∨ 1024 < n ∨ (-1024 ≤ n ∧ n ≤ 1024) by omega) with g | g | ⟨g1, g2⟩
  · have E : Hid (Ie.PwrIs d n 0 60) := ⟨fun _ => ⟨rfl, rfl⟩, fun k => (by omega)⟩
    go_enter Tryz.func33, Tryz.ntmps33
    go_wp2_with fail
    go_ret2
    exact ⟨_, _, rfl, E.out, Below.refl _ _⟩
  · have E : Hid (Ie.PwrIs d n 0 60) := ⟨fun _ => ⟨rfl, rfl⟩, fun _ k => (by omega)⟩
    have g' : ¬ n < -1024 := by omega
    go_enter Tryz.func33, Tryz.ntmps33
    go_wp2_with fail
    go_ret2
    exact ⟨_, _, rfl, E.out, Below.refl _ _⟩
  · by_cases z : n = 0
    · subst z
      have E : Hid (Ie.PwrIs d 0 4607182418800017408 0) := ⟨fun k => (by omega), fun _ _ => ⟨rfl, fun _ => rfl, fun k => absurd rfl k⟩⟩
      clear g1 g2
      go_enter Tryz.func33, Tryz.ntmps33
      go_wp2_with fail
      go_ret2
      exact ⟨_, _, rfl, E.out, Below.refl _ _⟩
    · cases hs : Ie.ngd d
      · exact upow_P d n w h0 h1 g1 g2 z hs
      · rcases (show n % 2 = 0 ∨ n % 2 = 1 by omega) with p | p
        · exact upow_E d n w h0 h1 g1 g2 z hs p
        · exact upow_O d n w h0 h1 g1 g2 z hs p
end Go.Proofs.YtmakkfekomnpbaaGreatDoor

/-
  The document's Pow (made by mkupowy.py).
-/
namespace Go.Proofs.YtmakkfekomnpbaaGreatDoor
open Go Go.RowKit Go.Deep

set_option maxRecDepth 100000 in
set_option maxHeartbeats 4000000 in
theorem upowY_F (x y : Int) (w : World) (x0 : 0 ≤ x) (x1 : x < 18446744073709551616) (y0 : 0 ≤ y) (y1 : y < 18446744073709551616) (hf : Ie.fin y) (hN : Ie.ngd y = false) :
    Calls Tryz.prog 35 #[.int .u64 x, .int .u64 y] w fun e w' => ∃ r f, e = .returned (.tuple #[.int .u64 r, .int .i64 f]) ∧ Ie.PowYIs x y r f ∧ Below w.heap.size w w' := by
  have D := hid (fun (wx : World) => zdecode_any y wx y0 y1)
  rw [← Ie.ngd, hN] at D
  have c4 := Ie.isn_cls y
  have c3 := Ie.isi_cls y
  rw [(Ie.fin_kinds hf).1] at c4
  rw [(Ie.fin_kinds hf).2] at c3
  have hp := Nm.two_pos 1074
  have ry : y % 9223372036854775808 = Ie.ab y := rfl
  have PW := hid (fun (wx : World) (k : Int) => upower_any x k wx x0 x1)
  have HI : Hid (∀ (j : Nat) (r f : Int), j ≤ 1024 → Ie.un (Ie.ab y) = (j : Int) * 2 ^ 1074 → Ie.PwrIs x ((j : Int)) r f → Ie.PowYIs x y r f) := by
    intro j r f hj hu h
    refine Ie.powy_in hf ?_ (by omega) (by omega) h
    rw [hN, hu]
    first | rfl | rw [Ie.sn_true, Int.neg_mul]
  have HO : Hid ((∀ t : Nat, t ≤ 1024 → Ie.un (Ie.ab y) ≠ (t : Int) * 2 ^ 1074) → Ie.PowYIs x y 0 60) := by
    intro g
    refine Ie.powy_out (fun n a b _ e => ?_)
    rw [hN] at e
    rw [Ie.sn_false] at e
    have u0 := Ie.un_nn (Ie.ab_bd y).1
    have nn : 0 ≤ n := by
      rcases (show 0 ≤ n ∨ n < 0 by omega) with k | k
      · exact k
      · have := Int.mul_neg_of_neg_of_pos k hp; omega
    refine g n.toNat (by omega) ?_
    rw [show ((n.toNat : Nat) : Int) = n by omega]; exact e
  have FU : Hid (∀ (wx : World) (j : Nat), j ≤ 1024 → Calls Tryz.prog 71 #[.int .u64 (j : Int)] wx fun e w' => ∃ z, e = .returned (.int .u64 z) ∧ Hid (Ie.ab y = z ↔ Ie.un (Ie.ab y) = (j : Int) * 2 ^ 1074) ∧ Below wx.heap.size wx w') := by
    intro wx j hj
    refine (zfromU_any (j : Int) wx (by omega) (by omega)).mono ?_
    rintro e w' ⟨z, rfl, hR, hB⟩
    obtain ⟨u, z0, z1⟩ := Ie.rnd_rep (c := 1074) (by omega) (by omega) (by omega) (by omega) hR
    refine ⟨z, rfl, ⟨fun h => by rw [h, u], fun h => Ie.un_inj (Ie.ab_bd y).1 z0 (by rw [h, u])⟩, hB⟩
  simp only [partsOf] at D
  clear hf hN hp
  generalize Ie.cls y = c at *
  generalize Ie.dm y = m at *
  generalize Ie.de y = ex at *
  generalize Ie.ab y = ay at *
  go_enter Tryz.func35, Tryz.ntmps35
  go_wp2_with fail
  refine (D.out _).mono ?_
  rintro e w1 ⟨rfl, hB⟩
  have hb := hB.trans ((alloc_b w1 (.cells #[.bool false, .int .i64 c, .int .u64 m, .int .i64 ex] 40)).mono hB.size)
  have P := Row4.new w1 40 (.bool false) (.int .i64 c) (.int .u64 m) (.int .i64 ex)
  go_upto_region 2 with fail
  obtain ⟨SS, KS, CS, BS, MS⟩ := state (fun w' => w'.cell? ⟨w1.heap.size, 0, none⟩ = some (.bool false) ∧ w'.cell? ⟨w1.heap.size, 1, none⟩ = some (.int .i64 c)) w ((Stays.cell _ _).and (Stays.cell _ _))
  have S0 := hid (MS.out _ ⟨P.cells.1.1, P.cells.1.2.1⟩ hb)
  clear hB hb P D MS
  generalize w1.alloc (.cells #[.bool false, .int .i64 c, .int .u64 m, .int .i64 ex] 40) = wA at *
  generalize w1.heap.size = b at *
  obtain ⟨p0, p1⟩ := CS.out _ S0.out
  go_wp2_with fail
  clear p0 p1
  go_loopw [7] (fun i wr => ∃ j : Nat, i = .int .i64 (j : Int) ∧ j ≤ 1025 ∧ Hid (SS wr ∧ ∀ t : Nat, t < j → Ie.un ay ≠ (t : Int) * 2 ^ 1074)) (fun i _ => 1025 - (intOf i).toNat)
  case atStart => exact ⟨0, rfl, by omega, S0.out, fun t ht => absurd ht (by omega)⟩
  case round =>
    obtain ⟨j, rfl, hj, HJ⟩ := hrel
    rcases (show j ≤ 1024 ∨ j = 1025 by omega) with lt | ge
    · have g : (j : Int) ≤ 1024 := by omega
      have F1 := hid (FU.out wr j lt)
      go_wp2_with fail
      refine F1.out.mono ?_
      rintro e w2 ⟨z, rfl, hz, hB⟩
      have S2 := hid (KS.out _ _ HJ.out.1 hB)
      obtain ⟨p0, p1⟩ := CS.out _ S2.out
      clear hB F1
      by_cases q : ay = z
      · have KI := hid (fun (r f : Int) => HI.out j r f lt (hz.out.1 q))
        have P1 := hid (fun (wx : World) => PW.out wx ((j : Int)))
        subst q
        clear HI HO hz PW
        go_wp2_with fail
        refine (P1.out _).mono ?_
        rintro e w3 ⟨r, f, rfl, h, hB⟩
        have S3 := hid (KS.out _ _ S2.out hB)
        have KK := hid (KI.out r f h)
        clear hB h P1 KI
        go_wp2_with fail
        go_ret2
        exact ⟨_, _, rfl, KK.out, BS.out _ S3.out⟩
      · have q' : (ay == z) = false := by rw [beq_eq_false_iff_ne]; exact q
        have NX : Hid (∀ t : Nat, t < j + 1 → Ie.un ay ≠ (t : Int) * 2 ^ 1074) := by
          intro t ht
          rcases (show t < j ∨ t = j by omega) with k | k
          · exact HJ.out.2 t k
          · rw [k]; exact fun h => q (hz.out.2 h)
        go_wp2_with fail
        go_roundw
        case rel => exact ⟨j + 1, by go_num, by omega, S2.out, NX.out⟩
        case measure => simp [intOf]; omega
    · subst ge
      have KK := hid (HO.out (fun t ht => HJ.out.2 t (by omega)))
      go_wp2_with fail
      go_ret2
      exact ⟨_, _, rfl, KK.out, BS.out _ HJ.out.1⟩

set_option maxRecDepth 100000 in
set_option maxHeartbeats 4000000 in
theorem upowY_T (x y : Int) (w : World) (x0 : 0 ≤ x) (x1 : x < 18446744073709551616) (y0 : 0 ≤ y) (y1 : y < 18446744073709551616) (hf : Ie.fin y) (hN : Ie.ngd y = true) :
    Calls Tryz.prog 35 #[.int .u64 x, .int .u64 y] w fun e w' => ∃ r f, e = .returned (.tuple #[.int .u64 r, .int .i64 f]) ∧ Ie.PowYIs x y r f ∧ Below w.heap.size w w' := by
  have D := hid (fun (wx : World) => zdecode_any y wx y0 y1)
  rw [← Ie.ngd, hN] at D
  have c4 := Ie.isn_cls y
  have c3 := Ie.isi_cls y
  rw [(Ie.fin_kinds hf).1] at c4
  rw [(Ie.fin_kinds hf).2] at c3
  have hp := Nm.two_pos 1074
  have ry : y % 9223372036854775808 = Ie.ab y := rfl
  have PW := hid (fun (wx : World) (k : Int) => upower_any x k wx x0 x1)
  have HI : Hid (∀ (j : Nat) (r f : Int), j ≤ 1024 → Ie.un (Ie.ab y) = (j : Int) * 2 ^ 1074 → Ie.PwrIs x (-(j : Int)) r f → Ie.PowYIs x y r f) := by
    intro j r f hj hu h
    refine Ie.powy_in hf ?_ (by omega) (by omega) h
    rw [hN, hu]
    first | rfl | rw [Ie.sn_true, Int.neg_mul]
  have HO : Hid ((∀ t : Nat, t ≤ 1024 → Ie.un (Ie.ab y) ≠ (t : Int) * 2 ^ 1074) → Ie.PowYIs x y 0 60) := by
    intro g
    refine Ie.powy_out (fun n a b _ e => ?_)
    rw [hN] at e
    rw [Ie.sn_true] at e
    have u0 := Ie.un_nn (Ie.ab_bd y).1
    have nn : n ≤ 0 := by
      rcases (show n ≤ 0 ∨ 0 < n by omega) with k | k
      · exact k
      · have := Int.mul_pos k hp; omega
    refine g (-n).toNat (by omega) ?_
    rw [show (((-n).toNat : Nat) : Int) = -n by omega, Int.neg_mul, ← e, Int.neg_neg]
  have FU : Hid (∀ (wx : World) (j : Nat), j ≤ 1024 → Calls Tryz.prog 71 #[.int .u64 (j : Int)] wx fun e w' => ∃ z, e = .returned (.int .u64 z) ∧ Hid (Ie.ab y = z ↔ Ie.un (Ie.ab y) = (j : Int) * 2 ^ 1074) ∧ Below wx.heap.size wx w') := by
    intro wx j hj
    refine (zfromU_any (j : Int) wx (by omega) (by omega)).mono ?_
    rintro e w' ⟨z, rfl, hR, hB⟩
    obtain ⟨u, z0, z1⟩ := Ie.rnd_rep (c := 1074) (by omega) (by omega) (by omega) (by omega) hR
    refine ⟨z, rfl, ⟨fun h => by rw [h, u], fun h => Ie.un_inj (Ie.ab_bd y).1 z0 (by rw [h, u])⟩, hB⟩
  simp only [partsOf] at D
  clear hf hN hp
  generalize Ie.cls y = c at *
  generalize Ie.dm y = m at *
  generalize Ie.de y = ex at *
  generalize Ie.ab y = ay at *
  go_enter Tryz.func35, Tryz.ntmps35
  go_wp2_with fail
  refine (D.out _).mono ?_
  rintro e w1 ⟨rfl, hB⟩
  have hb := hB.trans ((alloc_b w1 (.cells #[.bool true, .int .i64 c, .int .u64 m, .int .i64 ex] 40)).mono hB.size)
  have P := Row4.new w1 40 (.bool true) (.int .i64 c) (.int .u64 m) (.int .i64 ex)
  go_upto_region 2 with fail
  obtain ⟨SS, KS, CS, BS, MS⟩ := state (fun w' => w'.cell? ⟨w1.heap.size, 0, none⟩ = some (.bool true) ∧ w'.cell? ⟨w1.heap.size, 1, none⟩ = some (.int .i64 c)) w ((Stays.cell _ _).and (Stays.cell _ _))
  have S0 := hid (MS.out _ ⟨P.cells.1.1, P.cells.1.2.1⟩ hb)
  clear hB hb P D MS
  generalize w1.alloc (.cells #[.bool true, .int .i64 c, .int .u64 m, .int .i64 ex] 40) = wA at *
  generalize w1.heap.size = b at *
  obtain ⟨p0, p1⟩ := CS.out _ S0.out
  go_wp2_with fail
  clear p0 p1
  go_loopw [7] (fun i wr => ∃ j : Nat, i = .int .i64 (j : Int) ∧ j ≤ 1025 ∧ Hid (SS wr ∧ ∀ t : Nat, t < j → Ie.un ay ≠ (t : Int) * 2 ^ 1074)) (fun i _ => 1025 - (intOf i).toNat)
  case atStart => exact ⟨0, rfl, by omega, S0.out, fun t ht => absurd ht (by omega)⟩
  case round =>
    obtain ⟨j, rfl, hj, HJ⟩ := hrel
    rcases (show j ≤ 1024 ∨ j = 1025 by omega) with lt | ge
    · have g : (j : Int) ≤ 1024 := by omega
      have F1 := hid (FU.out wr j lt)
      go_wp2_with fail
      refine F1.out.mono ?_
      rintro e w2 ⟨z, rfl, hz, hB⟩
      have S2 := hid (KS.out _ _ HJ.out.1 hB)
      obtain ⟨p0, p1⟩ := CS.out _ S2.out
      clear hB F1
      by_cases q : ay = z
      · have KI := hid (fun (r f : Int) => HI.out j r f lt (hz.out.1 q))
        have P1 := hid (fun (wx : World) => PW.out wx (-(j : Int)))
        subst q
        clear HI HO hz PW
        go_wp2_with fail
        refine (P1.out _).mono ?_
        rintro e w3 ⟨r, f, rfl, h, hB⟩
        have S3 := hid (KS.out _ _ S2.out hB)
        have KK := hid (KI.out r f h)
        clear hB h P1 KI
        go_wp2_with fail
        go_ret2
        exact ⟨_, _, rfl, KK.out, BS.out _ S3.out⟩
      · have q' : (ay == z) = false := by rw [beq_eq_false_iff_ne]; exact q
        have NX : Hid (∀ t : Nat, t < j + 1 → Ie.un ay ≠ (t : Int) * 2 ^ 1074) := by
          intro t ht
          rcases (show t < j ∨ t = j by omega) with k | k
          · exact HJ.out.2 t k
          · rw [k]; exact fun h => q (hz.out.2 h)
        go_wp2_with fail
        go_roundw
        case rel => exact ⟨j + 1, by go_num, by omega, S2.out, NX.out⟩
        case measure => simp [intOf]; omega
    · subst ge
      have KK := hid (HO.out (fun t ht => HJ.out.2 t (by omega)))
      go_wp2_with fail
      go_ret2
      exact ⟨_, _, rfl, KK.out, BS.out _ HJ.out.1⟩

set_option maxRecDepth 100000 in
theorem upowY_any (x y : Int) (w : World) (x0 : 0 ≤ x) (x1 : x < 18446744073709551616) (y0 : 0 ≤ y) (y1 : y < 18446744073709551616) :
    Calls Tryz.prog 35 #[.int .u64 x, .int .u64 y] w fun e w' => ∃ r f, e = .returned (.tuple #[.int .u64 r, .int .i64 f]) ∧ Ie.PowYIs x y r f ∧ Below w.heap.size w w' := by
  by_cases hf : Ie.fin y
  · cases hN : Ie.ngd y
    · exact upowY_F x y w x0 x1 y0 y1 hf hN
    · exact upowY_T x y w x0 x1 y0 y1 hf hN
  · have D := hid (fun (wx : World) => zdecode_any y wx y0 y1)
    have E : Hid (Ie.PowYIs x y 0 60) := Ie.powy_out (fun n _ _ h _ => hf h)
    have c4 := Ie.isn_cls y
    have c3 := Ie.isi_cls y
    have kk : Ie.isn y = true ∨ (Ie.isn y = false ∧ Ie.isi y = true) := by
      rcases Ie.kinds y with g | ⟨g, g', _⟩ | ⟨_, _, g⟩
      · exact .inl g
      · exact .inr ⟨g, g'⟩
      · exact absurd g hf
    simp only [partsOf] at D
    generalize decide (9223372036854775808 ≤ y) = neg at *
    generalize Ie.dm y = m at *
    generalize Ie.de y = ex at *
    rcases kk with g | ⟨g, g'⟩
    · obtain ⟨c, hc⟩ : ∃ c, Ie.cls y = c := ⟨_, rfl⟩
      rw [g] at c4
      rw [hc, beq_iff_eq] at c4
      rw [hc] at D
      subst c4
      clear c3
      clear hf hc g
      go_enter Tryz.func35, Tryz.ntmps35
      go_wp2_with fail
      refine (D.out _).mono ?_
      rintro e w1 ⟨rfl, hB⟩
      have hb := hB.trans ((alloc_b w1 (.cells #[.bool neg, .int .i64 4, .int .u64 m, .int .i64 ex] 40)).mono hB.size)
      have P := Row4.new w1 40 (.bool neg) (.int .i64 4) (.int .u64 m) (.int .i64 ex)
      go_upto_region 2 with fail
      have HB1 := hid hb
      obtain ⟨⟨p0, p1, p2, p3⟩, -⟩ := P.cells
      clear hB hb P D
      generalize w1.alloc (.cells #[.bool neg, .int .i64 4, .int .u64 m, .int .i64 ex] 40) = wA at *
      generalize w1.heap.size = b at *
      go_wp2_with fail
      go_ret2
      exact ⟨_, _, rfl, E.out, HB1.out⟩
    · obtain ⟨c, hc⟩ : ∃ c, Ie.cls y = c := ⟨_, rfl⟩
      rw [g] at c4
      rw [g'] at c3
      rw [hc, beq_iff_eq] at c3
      rw [hc] at D
      subst c3
      clear c4
      clear hf hc g
      go_enter Tryz.func35, Tryz.ntmps35
      go_wp2_with fail
      refine (D.out _).mono ?_
      rintro e w1 ⟨rfl, hB⟩
      have hb := hB.trans ((alloc_b w1 (.cells #[.bool neg, .int .i64 3, .int .u64 m, .int .i64 ex] 40)).mono hB.size)
      have P := Row4.new w1 40 (.bool neg) (.int .i64 3) (.int .u64 m) (.int .i64 ex)
      go_upto_region 2 with fail
      have HB1 := hid hb
      obtain ⟨⟨p0, p1, p2, p3⟩, -⟩ := P.cells
      clear hB hb P D
      generalize w1.alloc (.cells #[.bool neg, .int .i64 3, .int .u64 m, .int .i64 ex] 40) = wA at *
      generalize w1.heap.size = b at *
      go_wp2_with fail
      go_ret2
      exact ⟨_, _, rfl, E.out, HB1.out⟩
end Go.Proofs.YtmakkfekomnpbaaGreatDoor
