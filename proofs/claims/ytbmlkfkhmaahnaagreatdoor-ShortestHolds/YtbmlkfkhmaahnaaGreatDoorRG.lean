/-
  Texts put together: LGt, LWithin, LDigits, LApi, Shr, BitW, IShiftA, INear1.
-/
import Derived.Test.YtbmlkfkhmaahnaaGreatDoorRF
import Derived.Deep.LoopGhost
import Derived.Test.YtbmlkfkhmaahnaaGreatDoorLSearch
import Derived.BigQuiet
import Derived.Test.YtbmlkfkhmaahnaaGreatDoorRA
import Derived.Test.YtbmlkfkhmaahnaaGreatDoorRD
import Derived.Test.YtbmlkfkhmaahnaaGreatDoorBlenIs
import Derived.Test.YtbmlkfkhmaahnaaGreatDoorIWalk1C
import Derived.Test.YtbmlkfkhmaahnaaGreatDoorNToU
namespace Go.Proofs.YtbmlkfkhmaahnaaGreatDoor
open Go Go.RowKit Go.Deep

theorem gt53 {t : ByteArray} {L : List Int} (h : Str t L) (hn : L ≠ []) : (!(Op.bytesLess t.toList [53] || t.toList == [53])) = Sh.gt5 L ∧ (t.toList == [53]) = decide (L = [53]) := by
  have h' : t.toList.map (fun b => (b.toNat : Int)) = L := by rw [ByteArray.toList_eq]; exact h
  generalize t.toList = bs at h' ⊢
  match bs with
  | [] => exact absurd h'.symm hn
  | b :: r =>
    subst h'
    have e1 : (b = 53) ↔ ((b.toNat : Int) = 53) := by
      constructor
      · intro c; rw [c]; rfl
      · intro c; apply UInt8.toNat_inj.1; have : b.toNat = 53 := by omega
        rw [this]; rfl
    have e2 : b < 53 ↔ ((b.toNat : Int) < 53) := by
      rw [UInt8.lt_iff_toNat_lt]
      have : (53 : UInt8).toNat = 53 := rfl
      omega
    have bl : ∀ l : List UInt8, Op.bytesLess l [] = false := by intro l; cases l <;> rfl
    have ee : (((b :: r).map fun b => (b.toNat : Int)) = [53]) ↔ (b :: r = [53]) := by
      constructor
      · intro c
        have h1 := (List.cons.inj c).1
        have h2 := (List.cons.inj c).2
        rw [e1.2 h1, List.map_eq_nil_iff.1 h2]
      · intro c; rw [c]; rfl
    have gg : Sh.gt5 ((b :: r).map fun b => (b.toNat : Int)) = decide (53 < (b.toNat : Int) ∨ ((b.toNat : Int) = 53 ∧ r ≠ [])) := by
      unfold Sh.gt5
      rw [List.map_cons, List.length_cons, List.length_map]
      congr 1
      have : r ≠ [] ↔ 1 < r.length + 1 := by rw [← List.length_pos_iff]; omega
      rw [this]
      rfl
    have ll : Op.bytesLess (b :: r) [53] = decide (b < 53) := by
      show (decide (b < 53) || (b == 53 && Op.bytesLess r [])) = _
      rw [bl, Bool.and_false, Bool.or_false]
    constructor
    · rw [gg, ll, Bool.eq_iff_iff]
      have k : ((b :: r) == [53]) = decide (b :: r = [53]) := by
        rw [Bool.eq_iff_iff]; simp
      rw [k]
      by_cases c1 : b < 53
      · have := e2.1 c1
        simp [c1]
        omega
      · have n1 : ¬ ((b.toNat : Int) < 53) := fun q => c1 (e2.2 q)
        by_cases c2 : b = 53
        · have := e1.1 c2
          simp [c2]
        · have n2 : ¬ ((b.toNat : Int) = 53) := fun q => c2 (e1.2 q)
          simp [c1, c2]
          omega
    · rw [Bool.eq_iff_iff, decide_eq_true_iff, ee]
      simp
end Go.Proofs.YtbmlkfkhmaahnaaGreatDoor

namespace Go.Proofs.YtbmlkfkhmaahnaaGreatDoor
open Go Go.RowKit Go.Deep

namespace Sh
/-- What within tells. -/
noncomputable def wD (a : Int) (n : Nat) : Sc.D := match wn a n with | some U => dd U | none => ⟨false, [], 0⟩
noncomputable def wB (a : Int) (n : Nat) : Bool := (wn a n).isSome
theorem bd_room {U : Int} (h : 0 ≤ U) (hb : U < 10 ^ 1500) : Nm (dd U) := by
  have o := dd_is h
  have lo := o.1.lo
  rcases (show U = 0 ∨ 0 < U by omega) with c | c
  · rw [c, dd_zero]
    refine Ok.nm ⟨rfl, by show (-1075 : Int) ≤ 0; omega, .inl ⟨rfl, rfl⟩⟩ (by show (0 : Int) ≤ 100000; omega) (by simp)
  · obtain ⟨p1, p2, p3⟩ := place c
    have q := Fx.p_lt (Int.lt_of_le_of_lt p1 hb)
    have hp : pl U = (dd U).e + ((dd U).ds.length : Int) := rfl
    have := ln_pos h
    have hl : ln U = (dd U).ds.length := rfl
    exact o.1.nm (by omega) (by omega)
theorem V_lt {a : Int} (h0 : 0 ≤ a) (h1 : a < 9218868437227405312) : V a < 10 ^ 1384 := by
  have h2 := (Ie.vl_lt_iff (x := a) (y := 9218868437227405312) (by omega) (by omega)).2 h1
  have h3 : Ie.vl 9218868437227405312 = 2 ^ 2099 := by decide +kernel
  rw [h3] at h2
  have h4 := Int.mul_lt_mul_of_pos_right h2 T5_pos
  have h5 : (2 : Int) ^ 2099 * T5 ≤ 10 ^ 1384 := room_hi
  exact Int.lt_of_lt_of_le h4 h5
theorem B_lt {a : Int} (h0 : 0 ≤ a) (h1 : a < 9218868437227405312) : B a < 10 ^ 1384 := by
  have h2 := Ie.md_lt_vl a h0
  have h6 := Ie.vl_le (x := a + 1) (y := 9218868437227405312) (by omega) (by omega)
  have h3 : Ie.vl 9218868437227405312 = 2 ^ 2099 := by decide +kernel
  rw [h3] at h6
  have h4 := Int.mul_lt_mul_of_pos_right (Int.lt_of_lt_of_le h2 h6) T5_pos
  have h5 : (2 : Int) ^ 2099 * T5 ≤ 10 ^ 1384 := room_hi
  exact Int.lt_of_lt_of_le h4 h5
theorem p1384 : (10 : Int) ^ 1384 ≤ 10 ^ 1500 := Fx.p_le (by omega)
theorem nmV {a : Int} (h0 : 0 ≤ a) (h1 : a < 9218868437227405312) : Nm (dd (V a)) := bd_room (V_nn h0) (Int.lt_of_lt_of_le (V_lt h0 h1) p1384)
theorem B_nn {a : Int} (h0 : 0 ≤ a) : 0 ≤ B a := Int.le_of_lt (Int.lt_of_le_of_lt (V_nn h0) V_B)
theorem nmB {a : Int} (h0 : 0 ≤ a) (h1 : a < 9218868437227405312) : Nm (dd (B a)) := bd_room (B_nn h0) (Int.lt_of_lt_of_le (B_lt h0 h1) p1384)
theorem A_nn {a : Int} (h0 : 0 ≤ a) : 0 ≤ A a := by
  unfold A
  split
  · exact Int.le_refl _
  · exact B_nn (by omega)
theorem nmA {a : Int} (h0 : 0 ≤ a) (h1 : a < 9218868437227405312) : Nm (dd (A a)) := by
  refine bd_room (A_nn h0) ?_
  unfold A
  split
  · exact Int.lt_of_lt_of_le (Fx.p_pos 0) (Fx.p_le (by omega))
  · exact Int.lt_of_lt_of_le (B_lt (by omega) (by omega)) p1384
/-- Between the bounds, by Cmp. -/
theorem hD_in {a U : Int} (h0 : 0 ≤ a) (hU : 0 ≤ U) : hD (dd (A a)) (dd (B a)) (dd U) (decide (a % 2 = 0)) = inB a U := by
  have oA := dd_is (A_nn h0)
  have oB := dd_is (B_nn h0)
  have oU := dd_is hU
  unfold hD inB
  rw [cmp_uv oA.1 oU.1, cmp_uv oU.1 oB.1, oA.2, oB.2, oU.2]
  have c1 := Sc.cmpI_c (A a) U
  have c2 := Sc.cmpI_c U (B a)
  rw [Bool.eq_iff_iff]
  simp
  omega
end Sh

theorem heap_new2 (w : World) (A B : Obj) : ((w.alloc A).alloc B).heap[w.heap.size + 1]? = some B := by
  have h := heap_alloc_new (w.alloc A) B
  rwa [show (w.alloc A).heap.size = w.heap.size + 1 from Array.size_push ..] at h

def WnTold (a : Int) (n : Nat) (w : World) (e : Ending) (w' : World) : Prop :=
  ∃ t, e = .returned (.tuple #[.agg #[.bool (Sh.wD a n).neg, .string t, .int .i64 (Sh.wD a n).e], .bool (Sh.wB a n)]) ∧ Str t (Sh.wD a n).ds ∧ Below w.heap.size w w'

set_option maxRecDepth 100000 in
set_option maxHeartbeats 4000000 in
theorem zwithin_any (a : Int) (n : Nat) (s1 s2 s3 : ByteArray) (w : World) (h0 : 0 ≤ a) (hf : a < 9218868437227405312) (n1 : 1 ≤ n) (n2 : n ≤ 17) (htab : Tab10 w)
    (g1 : Str s1 (Sh.dd (Sh.V a)).ds) (g2 : Str s2 (Sh.dd (Sh.A a)).ds) (g3 : Str s3 (Sh.dd (Sh.B a)).ds) :
    Calls Tryz.prog 18 #[spanV (Sh.dd (Sh.V a)) (Sh.dd (Sh.A a)) (Sh.dd (Sh.B a)) s1 s2 s3 (decide (a % 2 = 0)), .int .i64 n] w fun e w' => WnTold a n w e w' := by
  have hsz := g1.size
  have nmv := Sh.nmV h0 hf
  have a1 := alloc_b w (.cells #[.bool (Sh.dd (Sh.V a)).neg, .string s1, .int .i64 (Sh.dd (Sh.V a)).e, .bool (Sh.dd (Sh.A a)).neg, .string s2, .int .i64 (Sh.dd (Sh.A a)).e, .bool (Sh.dd (Sh.B a)).neg, .string s3, .int .i64 (Sh.dd (Sh.B a)).e, .bool (decide (a % 2 = 0))] 41)
  have r1 := RB.new w 41 #[.bool (Sh.dd (Sh.V a)).neg, .string s1, .int .i64 (Sh.dd (Sh.V a)).e, .bool (Sh.dd (Sh.A a)).neg, .string s2, .int .i64 (Sh.dd (Sh.A a)).e, .bool (Sh.dd (Sh.B a)).neg, .string s3, .int .i64 (Sh.dd (Sh.B a)).e, .bool (decide (a % 2 = 0))]
  have TB := hid htab
  have LV : Hid ((Sh.dd (Sh.V a)).ds.length = Sh.ln (Sh.V a)) := rfl
  rw [LV.out] at hsz
  have lnb : Sh.ln (Sh.V a) ≤ 281474976710656 := nmv.len
  by_cases hl : Sh.ln (Sh.V a) ≤ n
  · have E : Hid (Sh.wD a n = Sh.dd (Sh.V a) ∧ Sh.wB a n = true) := by
      have e : Sh.wn a n = some (Sh.V a) := by rw [Sh.wn, if_pos hl]
      exact ⟨by rw [Sh.wD, e], by rw [Sh.wB, e]; rfl⟩
    have K : Hid (∀ w', Below w.heap.size w w' → WnTold a n w (.returned (.tuple #[.agg #[.bool (Sh.dd (Sh.V a)).neg, .string s1, .int .i64 (Sh.dd (Sh.V a)).e], .bool true])) w') := by
      intro w' hB
      exact ⟨s1, by rw [E.out.1, E.out.2], by rw [E.out.1]; exact g1, hB⟩
    have hle : (Sh.ln (Sh.V a) : Int) - (n : Int) ≤ 0 := by omega
    have HR := hid (And.intro r1 a1)
    clear E g1 g2 g3 nmv LV r1 a1 htab TB h0 hf
    unfold spanV
    generalize decide (a % 2 = 0) = cb at *
    generalize Sh.dd (Sh.V a) = DV at *
    generalize Sh.dd (Sh.A a) = DA at *
    generalize Sh.dd (Sh.B a) = DB at *
    generalize Sh.ln (Sh.V a) = L at *
    go_enter Tryz.func18, Tryz.ntmps18
    go_wp2_with fail
    (try simp only [Exit.inBlock, Exit.then])
    refine bodyPost_ret (fresults_row_tmp rfl _ _ (w.heap.size + 1) 25 _ (0, 0) _ rfl (heap_new2 w _ _) Tryz.underlying25 rfl (by kernel_rfl)) rfl ?_
    exact K.out _ (HR.out.2.trans ((alloc_b _ _).mono HR.out.2.size))
  · have hl2 : n < Sh.ln (Sh.V a) := by omega
    have ap : 0 < a := by
      rcases (show a = 0 ∨ 0 < a by omega) with c | c
      · rw [c, Sh.ln0] at hl2; omega
      · exact c
    have vp := Sh.V_pos ap
    obtain ⟨q1, q2, q3⟩ := Sh.head_is vp n1 hl2
    have kr := Sh.k_room ap n1 hl2
    obtain ⟨cut, hcut⟩ : ∃ cut : Nat, Sh.ln (Sh.V a) = n + cut := ⟨Sh.ln (Sh.V a) - n, by omega⟩
    have st' : Sh.st (Sh.V a) n = 10 ^ ((Sh.dd (Sh.V a)).e + (cut : Int) + 1075).toNat := by
      unfold Sh.st
      rw [hcut]
      congr 2
      omega
    have dgV : Digs (Sh.dd (Sh.V a)).ds := (Sh.dd_is (Int.le_of_lt vp)).1.digs.1
    have loV := (Sh.dd_is (Int.le_of_lt vp)).1.lo
    have Hb : dv ((Sh.dd (Sh.V a)).ds.take n) < 1000000000000000000 := by
      have := Fx.p_le (show n ≤ 17 by omega)
      rw [show (10 : Int) ^ 17 = 100000000000000000 by decide] at this
      omega
    have e1 := g1.extract 0 n
    rw [List.drop_zero, Nat.sub_zero] at e1
    have e2 := g1.extract n (Sh.ln (Sh.V a))
    rw [List.take_of_length_le (by rw [List.length_drop, LV.out]; omega)] at e2
    have PU := hid (fun wx : World => zparse_any (s1.extract 0 n) _ wx e1 (fun d hd => dgV d (List.mem_of_mem_take hd)) (by
      intro c
      have := congrArg List.length c
      rw [List.length_take, LV.out] at this
      simp at this
      omega) Hb (by rw [List.length_take]; omega))
    have EV : Hid (∀ t, Str t (Sh.wD a n).ds → ∀ w', Below w.heap.size w w' → WnTold a n w (.returned (.tuple #[.agg #[.bool (Sh.wD a n).neg, .string t, .int .i64 (Sh.wD a n).e], .bool (Sh.wB a n)])) w') := fun t ht w' hB => ⟨t, rfl, ht, hB⟩
    obtain ⟨H, hH⟩ : ∃ H, dv ((Sh.dd (Sh.V a)).ds.take n) = H := ⟨_, rfl⟩
    rw [hH] at q1 q2 q3 Hb PU
    have H0 : 0 ≤ H := by rw [q1]; exact Int.le_trans (by omega) kr.1
    obtain ⟨g5, hg5⟩ : ∃ g5, Sh.gt5 ((Sh.dd (Sh.V a)).ds.drop n) = g5 := ⟨_, rfl⟩
    obtain ⟨c5, hc5⟩ : ∃ c5, decide ((Sh.dd (Sh.V a)).ds.drop n = [53]) = c5 := ⟨_, rfl⟩
    obtain ⟨od, hod⟩ : ∃ od, decide (H % 2 = 1) = od := ⟨_, rfl⟩
    have hup : Sh.upB (Sh.V a) (Sh.st (Sh.V a) n) = (g5 || (c5 && od)) := by
      rw [← q2, ← hg5, ← hc5, ← hod, Bool.eq_iff_iff]
      simp
    have S0p := Sh.st_pos (Sh.V a) n
    obtain ⟨Hn, hHn⟩ : ∃ Hn : Nat, H = (Hn : Int) := ⟨H.toNat, by omega⟩
    have Hn1 : Hn + 1 ≤ 100000000000000000 := by
      have := kr.2.1
      rw [← q1] at this
      have := Fx.p_le (show n ≤ 17 by omega)
      rw [show (10 : Int) ^ 17 = 100000000000000000 by decide] at this
      omega
    have plb := Sh.V_place ap hf
    have hple : Sh.pl (Sh.V a) = (Sh.dd (Sh.V a)).e + (Sh.ln (Sh.V a) : Int) := rfl
    have qb : -1075 ≤ (Sh.dd (Sh.V a)).e + (cut : Int) ∧ (Sh.dd (Sh.V a)).e + (cut : Int) ≤ 1000 := by omega
    have FMT : ∀ (u : Nat), u ≤ 100000000000000000 → Hid (∀ wx : World, Tab10 wx → Calls Tryz.prog 35 #[.int .u64 (u : Int), .int .i64 10] wx fun e w' => ∃ t, e = .returned (.string t) ∧ Hid (Str t (Sc.dl u)) ∧ Below wx.heap.size wx w') := fun u hu wx ht => zfmt_any u wx (by omega) ht
    have NOR : ∀ (u : Nat), u ≤ 100000000000000000 → Hid (∀ (wx : World) (t : ByteArray), Hid (Str t (Sc.dl u)) → Calls Tryz.prog 34 #[.string t, .int .i64 ((Sh.dd (Sh.V a)).e + (cut : Int))] wx fun r w' => ∃ t', r = .returned (.agg #[.bool (Sh.dd ((u : Int) * Sh.st (Sh.V a) n)).neg, .string t', .int .i64 (Sh.dd ((u : Int) * Sh.st (Sh.V a) n)).e]) ∧ Hid (Str t' (Sh.dd ((u : Int) * Sh.st (Sh.V a) n)).ds) ∧ Below wx.heap.size wx w') := by
      intro u hu wx t ht
      have d := dl_dv u
      have h := fun wy : World => znormal_any t (Sc.dl u) ((Sh.dd (Sh.V a)).e + (cut : Int)) wy ht.out d.1 d.2.1 qb.1 (by omega) (by have := dl_len (u := u) (by omega); omega)
      rw [d.2.2, ← st'] at h
      exact dec_open h wx
    have HLD : ∀ (u : Nat), u ≤ 100000000000000000 → Hid (∀ (wx : World) (t : ByteArray), Hid (Str t (Sh.dd ((u : Int) * Sh.st (Sh.V a) n)).ds) → Calls Tryz.prog 27 #[spanV (Sh.dd (Sh.V a)) (Sh.dd (Sh.A a)) (Sh.dd (Sh.B a)) s1 s2 s3 (decide (a % 2 = 0)), .agg #[.bool (Sh.dd ((u : Int) * Sh.st (Sh.V a) n)).neg, .string t, .int .i64 (Sh.dd ((u : Int) * Sh.st (Sh.V a) n)).e]] wx fun e w' => e = .returned (.bool (Sh.inB a ((u : Int) * Sh.st (Sh.V a) n))) ∧ Below wx.heap.size wx w') := by
      intro u hu wx t ht
      have U0 : 0 ≤ (u : Int) * Sh.st (Sh.V a) n := Int.mul_nonneg (by omega) (Int.le_of_lt S0p)
      have Ub : (u : Int) * Sh.st (Sh.V a) n < 10 ^ 1500 := by
        have h1 : (u : Int) * Sh.st (Sh.V a) n ≤ 100000000000000000 * Sh.st (Sh.V a) n := Int.mul_le_mul_of_nonneg_right (by omega) (Int.le_of_lt S0p)
        have h2 : Sh.st (Sh.V a) n ≤ 10 ^ 1383 := by rw [Sh.st_pl]; exact Fx.p_le (by omega)
        have h3 : (100000000000000000 : Int) * 10 ^ 1383 = 10 ^ 1400 := by rw [show (100000000000000000 : Int) = 10 ^ 17 by decide, ← Int.pow_add]
        have h4 := Int.mul_le_mul_of_nonneg_left h2 (show (0 : Int) ≤ 100000000000000000 by omega)
        rw [h3] at h4
        have h5 : (10 : Int) ^ 1400 < 10 ^ 1401 := by
          rw [Int.pow_succ 10 1400]
          have := Fx.p_pos 1400
          generalize (10 : Int) ^ 1400 = z at *
          omega
        exact Int.lt_of_le_of_lt (Int.le_trans h1 h4) (Int.lt_of_lt_of_le h5 (Fx.p_le (by omega)))
      have h := zholds_any (Sh.dd (Sh.V a)) (Sh.dd (Sh.A a)) (Sh.dd (Sh.B a)) (Sh.dd ((u : Int) * Sh.st (Sh.V a) n)) (decide (a % 2 = 0)) s1 s2 s3 t wx (Sh.nmA h0 hf) (Sh.nmB h0 hf) (Sh.bd_room U0 Ub) g2 g3 ht.out
      rw [Sh.hD_in h0 U0] at h
      exact h
    have F1 := FMT Hn (by omega)
    have F2 := FMT (Hn + 1) (by omega)
    have N1 := NOR Hn (by omega)
    have N2 := NOR (Hn + 1) (by omega)
    have tn1 : ((Hn : Int)).toNat = Hn := by omega
    have tn2 : ((Hn : Int) + 1).toNat = Hn + 1 := by omega
    rw [← tn1] at F1 N1
    rw [← tn2] at F2 N2
    rw [show (((Hn : Int).toNat : Nat) : Int) = (Hn : Int) by omega] at F1 N1
    rw [show ((((Hn : Int) + 1).toNat : Nat) : Int) = ((Hn + 1 : Nat) : Int) by omega] at F2 N2
    clear tn1 tn2
    have L1 := HLD Hn (by omega)
    have L2 := HLD (Hn + 1) (by omega)
    have WN : Sh.wn a n = if Sh.inB a (Sh.k1 (Sh.V a) (Sh.st (Sh.V a) n) * Sh.st (Sh.V a) n) = true then some (Sh.k1 (Sh.V a) (Sh.st (Sh.V a) n) * Sh.st (Sh.V a) n) else if Sh.inB a (Sh.k2 (Sh.V a) (Sh.st (Sh.V a) n) * Sh.st (Sh.V a) n) = true then some (Sh.k2 (Sh.V a) (Sh.st (Sh.V a) n) * Sh.st (Sh.V a) n) else none := by rw [Sh.wn, if_neg hl]
    have K1 : Sh.k1 (Sh.V a) (Sh.st (Sh.V a) n) = if (g5 || (c5 && od)) = true then ((Hn + 1 : Nat) : Int) else (Hn : Int) := by
      unfold Sh.k1
      rw [hup, ← q1, hHn]
      rfl
    have K2 : Sh.k2 (Sh.V a) (Sh.st (Sh.V a) n) = if (g5 || (c5 && od)) = true then (Hn : Int) else ((Hn + 1 : Nat) : Int) := by
      unfold Sh.k2
      rw [hup, ← q1, hHn]
      rfl
    have HR := hid (And.intro r1 a1)
    have TLS : Hid (Str (s1.extract n (n + cut)) ((Sh.dd (Sh.V a)).ds.drop n)) := by rw [← hcut]; exact e2
    have esz : s1.size = n + cut := by rw [hsz, hcut]
    have tne : (Sh.dd (Sh.V a)).ds.drop n ≠ [] := by
      intro c
      have := congrArg List.length c
      rw [List.length_drop, LV.out] at this
      simp at this
      omega
    have gg := gt53 TLS.out tne
    rw [hg5, hc5] at gg
    have GT : binOp .gtr 9 (.string (s1.extract n (n + cut))) (.string ⟨#[53]⟩) = pure (.bool g5) := by
      rw [← gg.1]
      simp [binOp, Op.stringOp]
    have EQ : ((s1.extract n (n + cut)).toList == [53]) = c5 := gg.2
    clear gg tne
    have OD : (((Hn : Int) % 2) == 1) = od := by
      rw [← hod, hHn]
      by_cases c : (Hn : Int) % 2 = 1 <;> simp [c]
    rw [hHn] at PU
    unfold spanV
    unfold spanV at L1 L2
    clear r1 a1 nmv FMT NOR HLD st' dgV loV e1 e2 g1 g2 g3 q1 q2 q3 kr vp Hb hup hg5 hc5 hod hHn H0 S0p plb hple TLS htab
    have cutp : 0 < cut := by omega
    generalize hcb : decide (a % 2 = 0) = cb at *
    generalize hDV : Sh.dd (Sh.V a) = DV at *
    generalize hDA : Sh.dd (Sh.A a) = DA at *
    generalize hDB : Sh.dd (Sh.B a) = DB at *
    clear hcb hDV hDA hDB
    go_enter Tryz.func18, Tryz.ntmps18
    go_wp2_with fail
    refine (PU.out _).mono ?_
    rintro e w1 ⟨rfl, B1⟩
    have HB1 := hid B1
    clear B1 PU
    have CUT : (n : Int) + (cut : Int) - (n : Int) = (cut : Int) := by omega
    have a2 := alloc_b (w.alloc (.cells #[.bool DV.neg, .string s1, .int .i64 DV.e, .bool DA.neg, .string s2, .int .i64 DA.e, .bool DB.neg, .string s3, .int .i64 DB.e, .bool cb] 41)) (.cells #[.bool false, .string ⟨#[]⟩, .int .i64 0] 25)
    have b2 := HR.out.2.trans (a2.mono HR.out.2.size)
    have rS := (HR.out.1.below a2 HR.out.1.lt).below HB1.out (RB.lt (HR.out.1.below a2 HR.out.1.lt))
    have rR : FR3 w1 (w.heap.size + 1) (.bool false) (.string ⟨#[]⟩) (.int .i64 0) := RB.below (b := w.heap.size + 1) (heap_new2 w _ _) HB1.out (RB.lt (b := w.heap.size + 1) (heap_new2 w _ _))
    have tT := tab10_below (tab10_below TB.out b2) HB1.out
    have bW := b2.trans (HB1.out.mono b2.size)
    obtain ⟨SS, KS, CS, PS, ZS, S1⟩ : ∃ SS : World → Prop, Hid (∀ wx w', SS wx → Below wx.heap.size wx w' → SS w') ∧ Hid (∀ wx, SS wx → ((wx.cell? ⟨w.heap.size, 0, none⟩ = some (.bool DV.neg) ∧ wx.cell? ⟨w.heap.size, 1, none⟩ = some (.string s1) ∧ wx.cell? ⟨w.heap.size, 2, none⟩ = some (.int .i64 DV.e) ∧ wx.cell? ⟨w.heap.size, 3, none⟩ = some (.bool DA.neg) ∧ wx.cell? ⟨w.heap.size, 4, none⟩ = some (.string s2) ∧ wx.cell? ⟨w.heap.size, 5, none⟩ = some (.int .i64 DA.e) ∧ wx.cell? ⟨w.heap.size, 6, none⟩ = some (.bool DB.neg) ∧ wx.cell? ⟨w.heap.size, 7, none⟩ = some (.string s3) ∧ wx.cell? ⟨w.heap.size, 8, none⟩ = some (.int .i64 DB.e) ∧ wx.cell? ⟨w.heap.size, 9, none⟩ = some (.bool cb)) ∧ (FR3 wx (w.heap.size + 1) (.bool false) (.string ⟨#[]⟩) (.int .i64 0)) ∧ Tab10 wx ∧ Below w.heap.size w wx)) ∧ Hid (∀ wx b u0 u1 u2, SS wx → w1.heap.size ≤ b → SS (((wx.setCell ⟨b, 0, none⟩ u0).setCell ⟨b, 1, none⟩ u1).setCell ⟨b, 2, none⟩ u2)) ∧ Hid (∀ wx, SS wx → w1.heap.size ≤ wx.heap.size) ∧ Hid (SS w1) :=
      ⟨fun wx => Below w1.heap.size w1 wx, fun _ _ h k => h.trans (k.mono h.size), fun wx h => ⟨(fun r => ⟨r.cell 0 _ rfl, r.cell 1 _ rfl, r.cell 2 _ rfl, r.cell 3 _ rfl, r.cell 4 _ rfl, r.cell 5 _ rfl, r.cell 6 _ rfl, r.cell 7 _ rfl, r.cell 8 _ rfl, r.cell 9 _ rfl⟩) (rS.below h rS.lt), rR.below h rR.lt, tab10_below tT h, bW.trans (h.mono bW.size)⟩, fun wx b u0 u1 u2 h hb => fset3_below h hb, fun _ h => h.size, Below.refl _ _⟩
    have c1 := (CS.out _ S1.out).1.2.1
    clear a2 b2 HR HB1 TB rS rR tT bW
    have IX0 : ∀ (x y : Int) (wx : World), (Instr.index 70 (.agg #[.int .u64 x, .int .u64 y]) (.int .i64 0)).run Tryz.prog wx = .ok (.int .u64 x) wx := fun _ _ _ => by kernel_rfl
    have IX1 : ∀ (x y : Int) (wx : World), (Instr.index 70 (.agg #[.int .u64 x, .int .u64 y]) (.int .i64 1)).run Tryz.prog wx = .ok (.int .u64 y) wx := fun _ _ _ => by kernel_rfl
    have qb1 := qb.1
    have qb2 := qb.2
    have WQ : IntKind.i64.wrap (DV.e + (cut : Int)) = DV.e + (cut : Int) := by rw [IntKind.wrap_i64]; omega
    have HC2 : (((Hn + 1 : Nat) : Int)) = (Hn : Int) + 1 := by omega
    rw [HC2] at F2 N2 L2 K1 K2
    obtain ⟨up, hup⟩ : ∃ up, (g5 || (c5 && od)) = up := ⟨_, rfl⟩
    rw [hup] at K1 K2
    obtain ⟨X, Y, DX, DY, JX, JY, REL, FX, NX, LX, FY, NY, LY, KK⟩ : ∃ (X Y : Int) (DX DY : Sc.D) (JX JY : Bool), Hid ((up = true ∧ X = (Hn : Int) + 1 ∧ Y = (Hn : Int)) ∨ (up = false ∧ X = (Hn : Int) ∧ Y = (Hn : Int) + 1))
        ∧ Hid (∀ wx : World, Tab10 wx → Calls Tryz.prog 35 #[.int .u64 X, .int .i64 10] wx fun e w' => ∃ t, e = .returned (.string t) ∧ Hid (Str t (Sc.dl X.toNat)) ∧ Below wx.heap.size wx w') ∧ Hid (∀ (wx : World) (t : ByteArray), Hid (Str t (Sc.dl X.toNat)) → Calls Tryz.prog 34 #[.string t, .int .i64 (DV.e + (cut : Int))] wx fun r w' => ∃ t', r = .returned (.agg #[.bool DX.neg, .string t', .int .i64 DX.e]) ∧ Hid (Str t' DX.ds) ∧ Below wx.heap.size wx w') ∧ Hid (∀ (wx : World) (t : ByteArray), Hid (Str t DX.ds) → Calls Tryz.prog 27 #[.agg #[.bool DV.neg, .string s1, .int .i64 DV.e, .bool DA.neg, .string s2, .int .i64 DA.e, .bool DB.neg, .string s3, .int .i64 DB.e, .bool cb], .agg #[.bool DX.neg, .string t, .int .i64 DX.e]] wx fun e w' => e = .returned (.bool JX) ∧ Below wx.heap.size wx w') ∧ Hid (∀ wx : World, Tab10 wx → Calls Tryz.prog 35 #[.int .u64 Y, .int .i64 10] wx fun e w' => ∃ t, e = .returned (.string t) ∧ Hid (Str t (Sc.dl Y.toNat)) ∧ Below wx.heap.size wx w') ∧ Hid (∀ (wx : World) (t : ByteArray), Hid (Str t (Sc.dl Y.toNat)) → Calls Tryz.prog 34 #[.string t, .int .i64 (DV.e + (cut : Int))] wx fun r w' => ∃ t', r = .returned (.agg #[.bool DY.neg, .string t', .int .i64 DY.e]) ∧ Hid (Str t' DY.ds) ∧ Below wx.heap.size wx w') ∧ Hid (∀ (wx : World) (t : ByteArray), Hid (Str t DY.ds) → Calls Tryz.prog 27 #[.agg #[.bool DV.neg, .string s1, .int .i64 DV.e, .bool DA.neg, .string s2, .int .i64 DA.e, .bool DB.neg, .string s3, .int .i64 DB.e, .bool cb], .agg #[.bool DY.neg, .string t, .int .i64 DY.e]] wx fun e w' => e = .returned (.bool JY) ∧ Below wx.heap.size wx w')
        ∧ Hid ((JX = true → ∀ t, Hid (Str t DX.ds) → ∀ w', Below w.heap.size w w' → WnTold a n w (.returned (.tuple #[.agg #[.bool DX.neg, .string t, .int .i64 DX.e], .bool true])) w') ∧ (JX = false → JY = true → ∀ t, Hid (Str t DY.ds) → ∀ w', Below w.heap.size w w' → WnTold a n w (.returned (.tuple #[.agg #[.bool DY.neg, .string t, .int .i64 DY.e], .bool true])) w') ∧ (JX = false → JY = false → ∀ w', Below w.heap.size w w' → WnTold a n w (.returned (.tuple #[.agg #[.bool false, .string ⟨#[]⟩, .int .i64 0], .bool false])) w')) := by
      have TOLD : ∀ U, Sh.wn a n = some U → ∀ t, Hid (Str t (Sh.dd U).ds) → ∀ w', Below w.heap.size w w' → WnTold a n w (.returned (.tuple #[.agg #[.bool (Sh.dd U).neg, .string t, .int .i64 (Sh.dd U).e], .bool true])) w' := by
        intro U e t ht w' hB
        have e1 : Sh.wD a n = Sh.dd U := by rw [Sh.wD, e]
        have e2 : Sh.wB a n = true := by rw [Sh.wB, e]; rfl
        exact ⟨t, by rw [e1, e2], by rw [e1]; exact ht.out, hB⟩
      have NONE : Sh.wn a n = none → ∀ w', Below w.heap.size w w' → WnTold a n w (.returned (.tuple #[.agg #[.bool false, .string ⟨#[]⟩, .int .i64 0], .bool false])) w' := by
        intro e w' hB
        have e1 : Sh.wD a n = ⟨false, [], 0⟩ := by rw [Sh.wD, e]
        have e2 : Sh.wB a n = false := by rw [Sh.wB, e]; rfl
        exact ⟨⟨#[]⟩, by rw [e1, e2], by rw [e1]; rfl, hB⟩
      cases up
      · rw [if_neg Bool.false_ne_true] at K1 K2
        rw [K1, K2] at WN
        refine ⟨_, _, _, _, _, _, .inr ⟨rfl, rfl, rfl⟩, F1, N1, L1, F2, N2, L2, fun j => TOLD _ (by rw [WN, if_pos j]), fun j k => TOLD _ (by rw [WN, if_neg (by rw [j]; decide), if_pos k]), fun j k => NONE (by rw [WN, if_neg (by rw [j]; decide), if_neg (by rw [k]; decide)])⟩
      · rw [if_pos rfl] at K1 K2
        rw [K1, K2] at WN
        refine ⟨_, _, _, _, _, _, .inl ⟨rfl, rfl, rfl⟩, F2, N2, L2, F1, N1, L1, fun j => TOLD _ (by rw [WN, if_pos j]), fun j k => TOLD _ (by rw [WN, if_neg (by rw [j]; decide), if_pos k]), fun j k => NONE (by rw [WN, if_neg (by rw [j]; decide), if_neg (by rw [k]; decide)])⟩
    clear HC2 qb F1 F2 N1 N2 L1 L2 K1 K2 WN EV hl hl2 ap h0 hf lnb hcut hsz LV
    go_upto_region 7 with fail
    go_cut [52] from 42 to 51 (fun b wx => b = .bool up ∧ wx = w1)
    case first =>
      subst hup
      cases g5
      · cases c5
        · go_wp2_with fail
          go_meet
          exact ⟨rfl, rfl⟩
        · go_wp2_with fail
          go_meet
          exact ⟨by simp, rfl⟩
      · go_wp2_with fail
        go_meet
        exact ⟨rfl, rfl⟩
    obtain ⟨h52, hwc⟩ := hcut
    subst h52
    subst hwc
    go_upto_if 52 with fail
    go_cut [9, 10] from 53 to 54 (fun x y wx => x = .int .u64 X ∧ y = .int .u64 Y ∧ wx = wc)
    case first =>
      rcases REL.out with ⟨r1, r2, r3⟩ | ⟨r1, r2, r3⟩
      · subst r1; subst r2; subst r3
        go_wp2_with fail
        go_meet
        exact ⟨rfl, rfl, rfl⟩
      · subst r1; subst r2; subst r3
        go_wp2_with fail
        go_meet
        exact ⟨rfl, rfl, rfl⟩
    obtain ⟨h9, h10, hw⟩ := hcut
    subst h9
    subst h10
    subst hw
    have TQ : Hid (∀ wx : World, SS wx → Tab10 wx) := fun wx h => (CS.out wx h).2.2.1
    have FT : Hid (∀ wx : World, SS wx → wx.cell? ⟨w.heap.size, 2, none⟩ = some (.int .i64 DV.e)) := fun wx h => (CS.out wx h).1.2.2.1
    have KA : Hid (∀ (wx : World), SS wx → SS (wx.alloc (.cells #[.bool false, .string ⟨#[]⟩, .int .i64 0] 25))) := fun wx h => KS.out _ _ h (alloc_b _ _)
    have RD : Hid (∀ (wx w' : World), Below ((wx.alloc (.cells #[.bool false, .string ⟨#[]⟩, .int .i64 0] 25)).drew).heap.size (wx.alloc (.cells #[.bool false, .string ⟨#[]⟩, .int .i64 0] 25)).drew w' → FR3 w' wx.heap.size (.bool false) (.string ⟨#[]⟩) (.int .i64 0)) := fun wx w' h => FR3.below (w := (wx.alloc (.cells #[.bool false, .string ⟨#[]⟩, .int .i64 0] 25)).drew) (FR3.new wx _ _ _) h (FR3.new wx _ _ _).lt
    have RN : Hid (∀ (wx w' : World), Below (wx.alloc (.cells #[.bool false, .string ⟨#[]⟩, .int .i64 0] 25)).heap.size (wx.alloc (.cells #[.bool false, .string ⟨#[]⟩, .int .i64 0] 25)) w' → FR3 w' wx.heap.size (.bool false) (.string ⟨#[]⟩) (.int .i64 0)) := fun wx w' h => (FR3.new wx _ _ _).below h (FR3.new wx _ _ _).lt
    have RC : Hid (∀ (wx w' : World) (b : Nat), Hid (FR3 wx b (.bool false) (.string ⟨#[]⟩) (.int .i64 0)) → Below wx.heap.size wx w' → FR3 w' b (.bool false) (.string ⟨#[]⟩) (.int .i64 0)) := fun wx w' b h k => h.out.below k h.out.lt
    clear c1 GT EQ OD REL hup g5 c5 od
    go_wp2_with fail
    refine wp_loop_rounds 3 ?_
    rw [rounds_succ]
    go_upto_region 12 with fail
    go_cut [14] from 61 to 68 (fun p wx => ∃ b t, p = .pointer (some ⟨b, 0, none⟩) ∧ Hid (SS wx ∧ RB wx b 25 #[.bool DX.neg, .string t, .int .i64 DX.e] ∧ Hid (Str t DX.ds)))
    case first =>
      have T0 := hid (KS.out _ _ S1.out (drew_nil _))
      have TA := hid (KS.out _ _ (KA.out _ S1.out) (drew_nil _))
      have d2 := FT.out _ T0.out
      have d1 := FT.out _ S1.out
      have dA := FT.out _ TA.out
      go_region_with (first
        | (go_at_call 35; (first
          | (with_reducible refine (FX.out _ (TQ.out _ T0.out)).mono ?_; rintro e w5 ⟨t5, rfl, HT5, hB⟩; have T1 := hid (KS.out _ _ T0.out hB); have d5 := FT.out _ T1.out; have d5a := FT.out _ (KA.out _ T1.out); clear hB)
          | (with_reducible refine (FX.out _ (TQ.out _ TA.out)).mono ?_; rintro e w5 ⟨t5, rfl, HT5, hB⟩; have T1 := hid (KS.out _ _ TA.out hB); have d5 := FT.out _ T1.out; have d5a := FT.out _ (KA.out _ T1.out); have RR := hid (RD.out _ _ hB); clear hB)))
        | (go_at_call 34; with_reducible refine (NX.out _ _ HT5).mono ?_; rintro e w6 ⟨t6, rfl, HT6, hB⟩; (first
          | (have R6 := hid (RC.out _ _ _ RR hB); have T2 := hid (KS.out _ _ T1.out hB); obtain ⟨⟨x0, x1, x2⟩, y0, y1, y2⟩ := R6.out.cells; clear hB)
          | (have T2 := hid (KS.out _ _ T1.out hB); clear hB)
          | (have R6 := hid (RN.out _ _ hB); have T2 := hid (KS.out _ _ (KA.out _ T1.out) hB); obtain ⟨⟨x0, x1, x2⟩, y0, y1, y2⟩ := R6.out.cells; clear hB))))
      all_goals
        go_wp2_with fail
        go_meet
        first
          | exact ⟨_, t6, rfl, KS.out _ _ T2.out (alloc_b _ _), RB.new w6 _ _, HT6⟩
          | exact ⟨_, t6, rfl, PS.out _ _ _ _ _ T2.out (ZS.out _ T1.out), R6.out.put _ _ _, HT6⟩
          | exact ⟨_, t6, rfl, PS.out _ _ _ _ _ T2.out (ZS.out _ S1.out), R6.out.put _ _ _, HT6⟩
    obtain ⟨b, t, hp, HC⟩ := hcut
    subst hp
    obtain ⟨z0, z1, z2, z3, z4, z5, z6, z7, z8, z9⟩ := (CS.out _ HC.out.1).1
    have x0 := HC.out.2.1.cell 0 _ rfl
    have x1 := HC.out.2.1.cell 1 _ rfl
    have x2 := HC.out.2.1.cell 2 _ rfl
    go_wp2_with fail
    refine (LX.out _ _ HC.out.2.2).mono ?_
    rintro e w7 ⟨rfl, hB⟩
    have S7 := hid (KS.out _ _ HC.out.1 hB)
    have R7 := hid (HC.out.2.1.below hB (RB.lt HC.out.2.1))
    have HT7 := HC.out.2.2
    clear hB HC z0 z1 z2 z3 z4 z5 z6 z7 z8 z9 x0 x1 x2
    cases JX
    · go_wp2_with fail
      rw [rounds_succ]
      have S8 := S7
      clear S7 R7 HT7
      go_upto_region 12 with fail
      go_cut [14] from 61 to 68 (fun p wx => ∃ b t, p = .pointer (some ⟨b, 0, none⟩) ∧ Hid (SS wx ∧ RB wx b 25 #[.bool DY.neg, .string t, .int .i64 DY.e] ∧ Hid (Str t DY.ds)))
      case first =>
        have T0 := hid (KS.out _ _ S8.out (drew_nil _))
        have TA := hid (KS.out _ _ (KA.out _ S8.out) (drew_nil _))
        have d2 := FT.out _ T0.out
        have d1 := FT.out _ S8.out
        have dA := FT.out _ TA.out
        go_region_with (first
          | (go_at_call 35; (first
            | (with_reducible refine (FY.out _ (TQ.out _ T0.out)).mono ?_; rintro e w5 ⟨t5, rfl, HT5, hB⟩; have T1 := hid (KS.out _ _ T0.out hB); have d5 := FT.out _ T1.out; have d5a := FT.out _ (KA.out _ T1.out); clear hB)
            | (with_reducible refine (FY.out _ (TQ.out _ TA.out)).mono ?_; rintro e w5 ⟨t5, rfl, HT5, hB⟩; have T1 := hid (KS.out _ _ TA.out hB); have d5 := FT.out _ T1.out; have d5a := FT.out _ (KA.out _ T1.out); have RR := hid (RD.out _ _ hB); clear hB)))
          | (go_at_call 34; with_reducible refine (NY.out _ _ HT5).mono ?_; rintro e w6 ⟨t6, rfl, HT6, hB⟩; (first
            | (have R6 := hid (RC.out _ _ _ RR hB); have T2 := hid (KS.out _ _ T1.out hB); obtain ⟨⟨x0, x1, x2⟩, y0, y1, y2⟩ := R6.out.cells; clear hB)
            | (have T2 := hid (KS.out _ _ T1.out hB); clear hB)
            | (have R6 := hid (RN.out _ _ hB); have T2 := hid (KS.out _ _ (KA.out _ T1.out) hB); obtain ⟨⟨x0, x1, x2⟩, y0, y1, y2⟩ := R6.out.cells; clear hB))))
        all_goals
          go_wp2_with fail
          go_meet
          first
            | exact ⟨_, t6, rfl, KS.out _ _ T2.out (alloc_b _ _), RB.new w6 _ _, HT6⟩
            | exact ⟨_, t6, rfl, PS.out _ _ _ _ _ T2.out (ZS.out _ T1.out), R6.out.put _ _ _, HT6⟩
            | exact ⟨_, t6, rfl, PS.out _ _ _ _ _ T2.out (ZS.out _ S8.out), R6.out.put _ _ _, HT6⟩
      obtain ⟨b, t, hp, HC⟩ := hcut
      subst hp
      obtain ⟨z0, z1, z2, z3, z4, z5, z6, z7, z8, z9⟩ := (CS.out _ HC.out.1).1
      have x0 := HC.out.2.1.cell 0 _ rfl
      have x1 := HC.out.2.1.cell 1 _ rfl
      have x2 := HC.out.2.1.cell 2 _ rfl
      go_wp2_with fail
      refine (LY.out _ _ HC.out.2.2).mono ?_
      rintro e w7 ⟨rfl, hB⟩
      have S7 := hid (KS.out _ _ HC.out.1 hB)
      have R7 := hid (HC.out.2.1.below hB (RB.lt HC.out.2.1))
      have HT7 := HC.out.2.2
      clear hB HC z0 z1 z2 z3 z4 z5 z6 z7 z8 z9 x0 x1 x2
      cases JY
      · go_wp2_with fail
        rw [rounds_succ]
        obtain ⟨-, fr, -, hbw⟩ := CS.out _ S7.out
        have FR := hid fr
        have BW := hid hbw
        obtain ⟨⟨r0, r1, r2⟩, s0, s1, s2⟩ := fr.cells
        clear fr hbw
        go_wp2_with fail
        (try simp only [Exit.inBlock, Exit.then])
        refine bodyPost_ret (fresults_row_tmp rfl _ _ (w.heap.size + 1) 25 _ (0, 0) _ rfl (FR.out.put _ _ _) Tryz.underlying25 rfl (by kernel_rfl)) rfl ?_
        exact KK.out.2.2 (by trivial) (by trivial) _ (fset3_below BW.out (by omega))
      · have x0 := R7.out.cell 0 _ rfl
        have x1 := R7.out.cell 1 _ rfl
        have x2 := R7.out.cell 2 _ rfl
        obtain ⟨-, fr, -, hbw⟩ := CS.out _ S7.out
        have FR := hid fr
        have BW := hid hbw
        obtain ⟨⟨r0, r1, r2⟩, s0, s1, s2⟩ := fr.cells
        clear fr hbw
        go_wp2_with fail
        (try simp only [Exit.inBlock, Exit.then])
        refine bodyPost_ret (fresults_row_tmp rfl _ _ (w.heap.size + 1) 25 _ (0, 0) _ rfl (FR.out.put _ _ _) Tryz.underlying25 rfl (by kernel_rfl)) rfl ?_
        exact KK.out.2.1 (by trivial) (by trivial) _ HT7 _ (fset3_below BW.out (by omega))
    · have x0 := R7.out.cell 0 _ rfl
      have x1 := R7.out.cell 1 _ rfl
      have x2 := R7.out.cell 2 _ rfl
      obtain ⟨-, fr, -, hbw⟩ := CS.out _ S7.out
      have FR := hid fr
      have BW := hid hbw
      obtain ⟨⟨r0, r1, r2⟩, s0, s1, s2⟩ := fr.cells
      clear fr hbw
      go_wp2_with fail
      (try simp only [Exit.inBlock, Exit.then])
      refine bodyPost_ret (fresults_row_tmp rfl _ _ (w.heap.size + 1) 25 _ (0, 0) _ rfl (FR.out.put _ _ _) Tryz.underlying25 rfl (by kernel_rfl)) rfl ?_
      exact KK.out.1 (by trivial) _ HT7 _ (fset3_below BW.out (by omega))
end Go.Proofs.YtbmlkfkhmaahnaaGreatDoor

namespace Go.Proofs.YtbmlkfkhmaahnaaGreatDoor
open Go Go.RowKit Go.Deep

namespace Sh
theorem fnt_iff {d : Int} : Ie.fnt d = decide (d % 9223372036854775808 < 9218868437227405312) := by
  unfold Ie.fnt Ie.cls Ie.fld
  rw [Bool.eq_iff_iff, decide_eq_true_iff, decide_eq_true_iff]
  split
  · split <;> omega
  · split
    · split <;> omega
    · omega
/-- What Digits tells. -/
noncomputable def zD (d : Int) : Sc.D := if Ie.fnt d = true then ⟨ng d, (dd (dgt (d % 9223372036854775808))).ds, (dd (dgt (d % 9223372036854775808))).e⟩ else ⟨false, [], 0⟩
def zR (d : Int) : Int := if Ie.fnt d = true then 0 else 5
end Sh

set_option maxRecDepth 100000 in
theorem zclo_any (a : Int) (i bs : Nat) (s1 s2 s3 : ByteArray) (w : World) (h0 : 0 ≤ a) (hf : a < 9218868437227405312) (hi : i < 16) (htab : Tab10 w)
    (g1 : Str s1 (Sh.dd (Sh.V a)).ds) (g2 : Str s2 (Sh.dd (Sh.A a)).ds) (g3 : Str s3 (Sh.dd (Sh.B a)).ds)
    (hS : Ten w bs (.bool (Sh.dd (Sh.V a)).neg) (.string s1) (.int .i64 (Sh.dd (Sh.V a)).e) (.bool (Sh.dd (Sh.A a)).neg) (.string s2) (.int .i64 (Sh.dd (Sh.A a)).e) (.bool (Sh.dd (Sh.B a)).neg) (.string s3) (.int .i64 (Sh.dd (Sh.B a)).e) (.bool (decide (a % 2 = 0)))) :
    Calls Tryz.prog 17 (#[.int .i64 i] ++ #[.pointer (some ⟨bs, 0, none⟩)]) w fun e w' => e = .returned (.bool (Sh.wB a (i + 1))) ∧ Below w.heap.size w w' := by
  have W := hid (zwithin_any a (i + 1) s1 s2 s3 w h0 hf (by omega) (by omega) htab g1 g2 g3)
  obtain ⟨⟨c0, c1, c2⟩, ⟨c3, c4, c5⟩, ⟨c6, c7, c8⟩, c9⟩ := hS.cells
  rw [show (((i + 1 : Nat)) : Int) = (i : Int) + 1 by omega] at W
  unfold spanV at W
  have hi2 : (i : Int) < 16 := by omega
  clear hS g1 g2 g3 htab h0 hf
  go_enter Tryz.func17, Tryz.ntmps17
  go_wp2_with fail
  refine W.out.mono ?_
  rintro e w1 ⟨t, rfl, -, hB⟩
  have K := hid (hB.trans ((alloc_b w1 (.cells #[.bool (Sh.wD a (i + 1)).neg, .string t, .int .i64 (Sh.wD a (i + 1)).e] 25)).mono hB.size))
  clear hB W
  go_wp2_with fail
  go_ret
  exact ⟨rfl, K.out⟩

def DigTold (d : Int) (w : World) (e : Ending) (w' : World) : Prop :=
  ∃ t, e = .returned (.tuple #[.agg #[.bool (Sh.zD d).neg, .string t, .int .i64 (Sh.zD d).e], .int .i64 (Sh.zR d)]) ∧ Hid (Str t (Sh.zD d).ds) ∧ Below w.heap.size w w'

set_option maxRecDepth 100000 in
set_option maxHeartbeats 4000000 in
theorem zdig_any (d : Int) (w : World) (h0 : 0 ≤ d) (h1 : d < 18446744073709551616) (htab : Tab10 w) :
    Calls Tryz.prog 6 #[.int .u64 d] w fun e w' => DigTold d w e w' := by
  have FN := hid (fun wx : World => zfinite_any d wx h0 h1)
  have NG := hid (fun wx : World => znegative_any d wx h0 h1)
  have Z := FR3.new w (.bool false) (.string ⟨#[]⟩) (.int .i64 0)
  have ZB := alloc_b w (.cells #[.bool false, .string ⟨#[]⟩, .int .i64 0] 25)
  by_cases hf : Ie.fnt d = true
  · have hfin : d % 9223372036854775808 < 9218868437227405312 := by rw [Sh.fnt_iff] at hf; exact of_decide_eq_true hf
    obtain ⟨a, ha⟩ : ∃ a, d % 9223372036854775808 = a := ⟨_, rfl⟩
    have a0 : 0 ≤ a := by omega
    have SP := hid (fun wx : World => zspan_any d wx h0 h1 hfin)
    have G : Hid (∀ (w' : World) (t : ByteArray), Str t (Sh.dd (Sh.dgt a)).ds → Below w.heap.size w w' → DigTold d w (.returned (.tuple #[.agg #[.bool (Sh.ng d), .string t, .int .i64 (Sh.dd (Sh.dgt a)).e], .int .i64 0])) w') := by
      intro w' t ht hB
      have e : Sh.zD d = ⟨Sh.ng d, (Sh.dd (Sh.dgt a)).ds, (Sh.dd (Sh.dgt a)).e⟩ := by rw [Sh.zD, if_pos hf, ha]
      exact ⟨t, by rw [e, Sh.zR, if_pos hf], by rw [e]; exact ht, hB⟩
    rw [ha] at SP hfin
    rw [hf] at FN
    have HZ := hid (And.intro Z ZB)
    have TB := hid (tab10_below htab ZB)
    clear Z ZB htab hf ha h0 h1
    go_enter Tryz.func6, Tryz.ntmps6
    go_wp2_with fail
    refine (FN.out _).mono ?_
    rintro e wz ⟨rfl, hz⟩
    subst hz
    go_wp2_with fail
    refine (SP.out _).mono ?_
    rintro e w1 ⟨v, rfl, ⟨s1, s2, s3, hv, g1, g2, g3⟩, B1⟩
    unfold spanV at hv
    subst hv
    have aL := alloc_b w1 (.cells #[.bool (Sh.dd (Sh.V a)).neg, .string s1, .int .i64 (Sh.dd (Sh.V a)).e, .bool (Sh.dd (Sh.A a)).neg, .string s2, .int .i64 (Sh.dd (Sh.A a)).e, .bool (Sh.dd (Sh.B a)).neg, .string s3, .int .i64 (Sh.dd (Sh.B a)).e, .bool (decide (a % 2 = 0))] 41)
    have HB1 := hid (B1.trans (aL.mono B1.size))
    have TN : Hid (Ten (w1.alloc (.cells #[.bool (Sh.dd (Sh.V a)).neg, .string s1, .int .i64 (Sh.dd (Sh.V a)).e, .bool (Sh.dd (Sh.A a)).neg, .string s2, .int .i64 (Sh.dd (Sh.A a)).e, .bool (Sh.dd (Sh.B a)).neg, .string s3, .int .i64 (Sh.dd (Sh.B a)).e, .bool (decide (a % 2 = 0))] 41)) w1.heap.size (.bool (Sh.dd (Sh.V a)).neg) (.string s1) (.int .i64 (Sh.dd (Sh.V a)).e) (.bool (Sh.dd (Sh.A a)).neg) (.string s2) (.int .i64 (Sh.dd (Sh.A a)).e) (.bool (Sh.dd (Sh.B a)).neg) (.string s3) (.int .i64 (Sh.dd (Sh.B a)).e) (.bool (decide (a % 2 = 0)))) := RB.new w1 41 _
    have T1 := hid (tab10_below TB.out HB1.out)
    have SE := hid (search_any 17 #[.pointer (some ⟨w1.heap.size, 0, none⟩)] (fun i => Sh.wB a (i + 1)) _ (enters_of Tryz.func17 (by kernel_rfl) rfl) (fun wx i hB hi => zclo_any a i w1.heap.size s1 s2 s3 wx a0 hfin hi (tab10_below T1.out hB) g1 g2 g3 (RB.below TN.out hB (RB.lt TN.out))))
    have GS := hid (And.intro g1 (And.intro g2 g3))
    clear B1 aL g1 g2 g3 SP FN TB
    go_wp2_with fail
    refine SE.out.mono ?_
    rintro e w2 ⟨f, rfl, hf16, hf1, hf2, B2⟩
    have fn0 : f = Sh.n0 a := Sh.isn_of a0 hf16 (fun h => by have q : Sh.wB a (f - 1 + 1) = false := hf1 h; rw [show f - 1 + 1 = f by omega] at q; exact q) hf2
    have T2 := hid (tab10_below T1.out B2)
    have TN2 := RB.below TN.out B2 (RB.lt TN.out)
    have HB2 := hid (HB1.out.trans (B2.mono HB1.out.size))
    obtain ⟨⟨c0, c1, c2⟩, ⟨c3, c4, c5⟩, ⟨c6, c7, c8⟩, c9⟩ := Ten.cells TN2
    have W := zwithin_any a (f + 1) s1 s2 s3 w2 a0 hfin (by omega) (by omega) T2.out GS.out.1 GS.out.2.1 GS.out.2.2
    have ED : Sh.wD a (f + 1) = Sh.dd (Sh.dgt a) := by rw [Sh.wD, fn0, Sh.wn_dgt a0]
    unfold WnTold at W
    rw [ED] at W
    rw [show (((f + 1 : Nat)) : Int) = (f : Int) + 1 by omega] at W
    unfold spanV at W
    have HW := hid W
    have f16 : (f : Int) ≤ 16 := by omega
    generalize Sh.wB a (f + 1) = ok at *
    generalize hDD : Sh.dd (Sh.dgt a) = DD at *
    clear W ED TN2 SE B2 hf1 hf2 hf16 fn0 GS TN T1 T2 HB1 hDD
    go_wp2_with fail
    refine HW.out.mono ?_
    rintro e w3 ⟨t, rfl, ht, B3⟩
    have RZ3 := HZ.out.1.below (HB2.out.trans (B3.mono HB2.out.size)) HZ.out.1.lt
    have BW3 := HZ.out.2.trans ((HB2.out.trans (B3.mono HB2.out.size)).mono HZ.out.2.size)
    have RZA := hid (RZ3.below (alloc_b w3 (.cells #[.bool (Sh.ng d), .string t, .int .i64 DD.e] 25)) RZ3.lt)
    have RZB := RZ3.below (alloc_b w3 (.cells #[.bool DD.neg, .string t, .int .i64 DD.e] 25)) RZ3.lt
    have K := hid (G.out _ t ht (fset3_below (u0 := .bool (Sh.ng d)) (u1 := .string t) (u2 := .int .i64 DD.e) (b := w.heap.size) (BW3.trans ((alloc_b w3 (.cells #[.bool (Sh.ng d), .string t, .int .i64 DD.e] 25)).mono BW3.size)) (Nat.le_refl _)))
    obtain ⟨⟨a0', a1, a2⟩, a3, a4, a5⟩ := RZA.out.cells
    obtain ⟨⟨b0, b1, b2⟩, b3, b4, b5⟩ := RZB.cells
    clear HW B3 HB2 c0 c1 c2 c3 c4 c5 c6 c7 c8 c9 ht RZ3 BW3 RZB
    generalize Sh.ng d = ngd at *
    go_wp2_with fail
    refine (NG.out _).mono ?_
    rintro e wz ⟨rfl, hz⟩
    subst hz
    go_wp2_with fail
    (try simp only [Exit.inBlock, Exit.then])
    refine bodyPost_ret (fresults_row_tmp rfl _ _ w.heap.size 25 _ (0, 0) _ rfl (RZA.out.put _ _ _) Tryz.underlying25 rfl (by kernel_rfl)) rfl ?_
    exact K.out
  · have hf' : Ie.fnt d = false := by simpa using hf
    have G : Hid (∀ (w' : World), Below w.heap.size w w' → DigTold d w (.returned (.tuple #[.agg #[.bool false, .string ⟨#[]⟩, .int .i64 0], .int .i64 5])) w') := by
      intro w' hB
      have e : Sh.zD d = ⟨false, [], 0⟩ := by rw [Sh.zD, if_neg hf]
      exact ⟨⟨#[]⟩, by rw [e, Sh.zR, if_neg hf], by rw [e]; rfl, hB⟩
    rw [hf'] at FN
    have HZ := hid (And.intro Z ZB)
    have K := hid (G.out _ ZB)
    obtain ⟨⟨c0, c1, c2⟩, f0, f1, f2⟩ := Z.cells
    clear Z ZB htab hf hf' G
    go_enter Tryz.func6, Tryz.ntmps6
    go_wp2_with fail
    refine (FN.out _).mono ?_
    rintro e wz ⟨rfl, hz⟩
    replace hz := hz.symm
    subst hz
    go_wp2_with fail
    (try simp only [Exit.inBlock, Exit.then])
    refine bodyPost_ret (fresults_row_tmp rfl _ _ w.heap.size 25 _ (0, 0) _ rfl HZ.out.1 Tryz.underlying25 rfl (by kernel_rfl)) rfl ?_
    exact K.out
end Go.Proofs.YtbmlkfkhmaahnaaGreatDoor

namespace Go.Proofs.YtbmlkfkhmaahnaaGreatDoor
open Go Go.RowKit Go.Deep

theorem results_cell_tmp_tmp {fn : Func} {p u v : Tmp} {ty : TypeId} (h : fn.results = #[.cell p ty, .tmp u, .tmp v]) (tmps : Array Value) (P : Program) (w : World) :
    (results fn tmps).run P w =
      ((asAddr (tmps.getD p undef)).run P w).andThen fun a w₁ => ((loadVar ty a).run P w₁).andThen fun x w₂ => .ok (.tuple #[x, tmps.getD u undef, tmps.getD v undef]) w₂ := by
  simp only [results, h]
  simp [Sem.run_bind, Result.andThen]
theorem results_row_tmp2 {P : Program} {fn : Func} {p u v : Tmp} {ty : TypeId} (h : fn.results = #[.cell p ty, .tmp u, .tmp v]) (tmps : Array Value) (w : World) (g : Nat) (t : TypeId) (cs : Array Value) (fr : Nat × Nat) (d : TypeDesc)
    (hp : tmps.getD p undef = .pointer (some ⟨g, 0, none⟩)) (hg : w.heap[g]? = some (.cells cs t fr))
    (hu : P.underlying ty = some d) (hd : (match d with | .struct _ | .array _ _ => true | _ => false) = true) (hi : (P.info? ty).map (·.size) = some cs.size) :
    (results fn tmps).run P w = .ok (.tuple #[.agg cs, tmps.getD u undef, tmps.getD v undef]) w := by
  rw [results_cell_tmp_tmp h, hp]
  simp [asAddr, run_loadVar_row w g t ty cs fr d hg hu hd hi, Result.andThen]

def WiTold (d : Int) (n : Nat) (w : World) (e : Ending) (w' : World) : Prop :=
  ∃ t, e = .returned (.tuple #[.agg #[.bool (Sh.wB (d % 9223372036854775808) n && Sh.ng d), .string t, .int .i64 (Sh.wD (d % 9223372036854775808) n).e], .bool (Sh.wB (d % 9223372036854775808) n), .int .i64 0]) ∧ Hid (Str t (Sh.wD (d % 9223372036854775808) n).ds) ∧ Below w.heap.size w w'

set_option maxRecDepth 100000 in
set_option maxHeartbeats 4000000 in
theorem zwi_any (d : Int) (n : Nat) (w : World) (h0 : 0 ≤ d) (h1 : d < 18446744073709551616) (hf : d % 9223372036854775808 < 9218868437227405312) (n1 : 1 ≤ n) (n2 : n ≤ 17) (htab : Tab10 w) :
    Calls Tryz.prog 13 #[.int .u64 d, .int .i64 n] w fun e w' => WiTold d n w e w' := by
  have FN := hid (fun wx : World => zfinite_any d wx h0 h1)
  have NG := hid (fun wx : World => znegative_any d wx h0 h1)
  have Z := FR3.new w (.bool false) (.string ⟨#[]⟩) (.int .i64 0)
  have ZB := alloc_b w (.cells #[.bool false, .string ⟨#[]⟩, .int .i64 0] 25)
  have SP := hid (fun wx : World => zspan_any d wx h0 h1 hf)
  rw [Sh.fnt_iff, decide_eq_true hf] at FN
  have G : Hid (∀ (w' : World) (t : ByteArray), Hid (Str t (Sh.wD (d % 9223372036854775808) n).ds) → Below w.heap.size w w' → WiTold d n w (.returned (.tuple #[.agg #[.bool (Sh.wB (d % 9223372036854775808) n && Sh.ng d), .string t, .int .i64 (Sh.wD (d % 9223372036854775808) n).e], .bool (Sh.wB (d % 9223372036854775808) n), .int .i64 0])) w') := fun w' t ht hB => ⟨t, rfl, ht, hB⟩
  obtain ⟨a, ha⟩ : ∃ a, d % 9223372036854775808 = a := ⟨_, rfl⟩
  have a0 : 0 ≤ a := by omega
  rw [ha] at SP hf G
  have HZ := hid (And.intro Z ZB)
  have TB := hid (tab10_below htab ZB)
  have n1' : ¬ (n : Int) < 1 := by omega
  have n2' : (n : Int) ≤ 17 := by omega
  clear Z ZB htab ha h0 h1
  go_enter Tryz.func13, Tryz.ntmps13
  go_wp2_with fail
  refine (FN.out _).mono ?_
  rintro e wz ⟨rfl, hz⟩
  subst hz
  go_wp2_with fail
  refine (SP.out _).mono ?_
  rintro e w1 ⟨v, rfl, ⟨s1, s2, s3, hv, g1, g2, g3⟩, B1⟩
  subst hv
  have W := zwithin_any a n s1 s2 s3 w1 a0 hf n1 n2 (tab10_below TB.out B1) g1 g2 g3
  have HB2 := hid B1
  have HW := hid W
  unfold WnTold at HW
  generalize Sh.wB a n = ok at *
  generalize Sh.wD a n = DD at *
  clear W B1 SP FN g1 g2 g3 TB
  go_wp2_with fail
  refine HW.out.mono ?_
  rintro e w3 ⟨t, rfl, ht, B3⟩
  have RZ3 := HZ.out.1.below (HB2.out.trans (B3.mono HB2.out.size)) HZ.out.1.lt
  have BW3 := HZ.out.2.trans ((HB2.out.trans (B3.mono HB2.out.size)).mono HZ.out.2.size)
  have RZA := hid (RZ3.below (alloc_b w3 (.cells #[.bool (ok && Sh.ng d), .string t, .int .i64 DD.e] 25)) RZ3.lt)
  have RZB := RZ3.below (alloc_b w3 (.cells #[.bool DD.neg, .string t, .int .i64 DD.e] 25)) RZ3.lt
  have K := hid (G.out _ t ht (fset3_below (u0 := .bool (ok && Sh.ng d)) (u1 := .string t) (u2 := .int .i64 DD.e) (b := w.heap.size) (BW3.trans ((alloc_b w3 (.cells #[.bool (ok && Sh.ng d), .string t, .int .i64 DD.e] 25)).mono BW3.size)) (Nat.le_refl _)))
  generalize Sh.ng d = ngd at *
  obtain ⟨⟨b0, b1, b2⟩, b3, b4, b5⟩ := RZB.cells
  clear HW B3 HB2 ht RZ3 BW3 RZB
  cases ok
  · rw [Bool.false_and] at K RZA
    obtain ⟨⟨a0', a1, a2⟩, a3, a4, a5⟩ := RZA.out.cells
    go_wp2_with fail
    (try simp only [Exit.inBlock, Exit.then])
    refine bodyPost_ret (results_row_tmp2 rfl _ _ w.heap.size 25 _ (0, 0) _ rfl (RZA.out.put _ _ _) Tryz.underlying25 rfl (by kernel_rfl)) rfl ?_
    exact K.out
  · rw [Bool.true_and] at K RZA
    obtain ⟨⟨a0', a1, a2⟩, a3, a4, a5⟩ := RZA.out.cells
    go_wp2_with fail
    refine (NG.out _).mono ?_
    rintro e wz ⟨rfl, hz⟩
    subst hz
    go_wp2_with fail
    (try simp only [Exit.inBlock, Exit.then])
    refine bodyPost_ret (results_row_tmp2 rfl _ _ w.heap.size 25 _ (0, 0) _ rfl (RZA.out.put _ _ _) Tryz.underlying25 rfl (by kernel_rfl)) rfl ?_
    exact K.out

set_option maxRecDepth 100000 in
set_option maxHeartbeats 4000000 in
/-- Holds, where nothing is refused and no sign is set. -/
theorem zhold_pos (d : Int) (s : ByteArray) (X : Sc.D) (w : World) (h0 : 0 ≤ d) (h1 : d < 9218868437227405312) (hs : Str s X.ds) (hX : Sh.Nm X) (hn : X.neg = false) (hl : X.ds.length ≤ 100000) :
    Calls Tryz.prog 12 #[.agg #[.bool false, .string s, .int .i64 X.e], .int .u64 d] w fun e w' => e = .returned (.tuple #[.bool (Sh.hD (Sh.dd (Sh.A d)) (Sh.dd (Sh.B d)) X (decide (d % 2 = 0))), .int .i64 0]) ∧ Below w.heap.size w w' := by
  have hm : d % 9223372036854775808 = d := by omega
  have FN := hid (fun wx : World => zfinite_any d wx h0 (by omega))
  have NG := hid (fun wx : World => znegative_any d wx h0 (by omega))
  have SP := hid (fun wx : World => zspan_any d wx h0 (by omega) (by omega))
  rw [hm] at SP
  rw [Sh.fnt_iff, hm, decide_eq_true h1] at FN
  rw [show Sh.ng d = false from decide_eq_false (by omega)] at NG
  have NO := fun wx : World => norm_any false s X.ds X.e wx hs (by omega)
  have E0 : errOf X.ds X.e = 0 ∧ nmd false X.ds X.e = X := by
    refine ⟨by rw [errOf, if_pos hX.dec], ?_⟩
    rw [nmd, if_pos hX.dec, ← hn]
    exact hX.fix
  unfold NormTold decV at NO
  rw [E0.1, E0.2] at NO
  have HN := hid NO
  have HO : Hid (∀ (wx : World) (s1 s2 s3 t : ByteArray), Str s2 (Sh.dd (Sh.A d)).ds → Str s3 (Sh.dd (Sh.B d)).ds → Str t X.ds → Calls Tryz.prog 27 #[spanV (Sh.dd (Sh.V d)) (Sh.dd (Sh.A d)) (Sh.dd (Sh.B d)) s1 s2 s3 (decide (d % 2 = 0)), .agg #[.bool X.neg, .string t, .int .i64 X.e]] wx fun e w' => e = .returned (.bool (Sh.hD (Sh.dd (Sh.A d)) (Sh.dd (Sh.B d)) X (decide (d % 2 = 0)))) ∧ Below wx.heap.size wx w') :=
    fun wx s1 s2 s3 t q2 q3 qt => zholds_any _ _ _ X _ s1 s2 s3 t wx (Sh.nmA h0 h1) (Sh.nmB h0 h1) hX q2 q3 qt
  rw [hn] at HO
  have SP2 : Hid (∀ wx : World, Calls Tryz.prog 15 #[.int .u64 d] wx fun r w' => ∃ s1 s2 s3, r = .returned (spanV (Sh.dd (Sh.V d)) (Sh.dd (Sh.A d)) (Sh.dd (Sh.B d)) s1 s2 s3 (decide (d % 2 = 0))) ∧ Hid (Str s2 (Sh.dd (Sh.A d)).ds ∧ Str s3 (Sh.dd (Sh.B d)).ds) ∧ Below wx.heap.size wx w') := by
    intro wx
    refine (SP.out wx).mono ?_
    rintro e w' ⟨v, rfl, ⟨s1, s2, s3, hv, g1, g2, g3⟩, hB⟩
    exact ⟨s1, s2, s3, by rw [hv], ⟨g2, g3⟩, hB⟩
  have ZB := hid (alloc_b w (.cells #[.bool false, .string s, .int .i64 X.e] 25))
  clear E0 NO hs hX SP hm hl
  generalize Sh.hD (Sh.dd (Sh.A d)) (Sh.dd (Sh.B d)) X (decide (d % 2 = 0)) = RB0 at *
  generalize decide (d % 2 = 0) = cb at *
  generalize Sh.dd (Sh.V d) = DV at *
  generalize Sh.dd (Sh.A d) = DA at *
  generalize Sh.dd (Sh.B d) = DB at *
  unfold spanV at HO SP2
  go_enter Tryz.func12, Tryz.ntmps12
  go_wp2_with fail
  refine (HN.out _).mono ?_
  rintro e w1 ⟨v, rfl, ⟨t, hv, ht⟩, B1⟩
  rw [hn] at hv
  unfold decV at hv
  subst hv
  have HB1 := hid (ZB.out.trans (B1.mono ZB.out.size))
  have HT := hid ht
  clear B1 HN ht
  go_wp2_with fail
  refine (FN.out _).mono ?_
  rintro e wz ⟨rfl, hz⟩
  subst hz
  go_upto_region 6 with fail
  have c0 := (FR3.new w1 (.bool false) (.string t) (.int .i64 X.e)).cells.1.1
  go_quiet (with_reducible exact Calls.quiet_of_same (NG.out _))
  have rY : FR3 ((w1.alloc (.cells #[.bool false, .string t, .int .i64 X.e] 25)).drewN nq) w1.heap.size (.bool false) (.string t) (.int .i64 X.e) := FR3.new w1 _ _ _
  have bY := below_drewN (HB1.out.trans ((alloc_b w1 (.cells #[.bool false, .string t, .int .i64 X.e] 25)).mono HB1.out.size)) nq
  generalize (w1.alloc (.cells #[.bool false, .string t, .int .i64 X.e] 25)).drewN nq = wY at *
  have rY2 : FR3 (wY.setCell ⟨w1.heap.size, 0, none⟩ (.bool false)) w1.heap.size (.bool false) (.string t) (.int .i64 X.e) := fset1 (o := 0) (v := .bool false) (c' := #[.bool false, .string t, .int .i64 X.e]) rY (by simp [Array.setIfInBounds])
  have bY2 := bY.setCell (p := ⟨w1.heap.size, 0, none⟩) HB1.out.size (.bool false)
  obtain ⟨⟨q0, q1, q2⟩, q3, q4, q5⟩ := rY.cells
  obtain ⟨SS, KS, CS, BS, MS⟩ := state (fun w' => FR3 w' w1.heap.size (.bool false) (.string t) (.int .i64 X.e)) w (fun _ _ g hB => FR3.below g hB (FR3.lt g))
  have S0 := hid (MS.out _ rY2 bY2)
  have FT : Hid (∀ wx : World, SS wx → (wx.cell? ⟨w1.heap.size, 0, none⟩ = some (.bool false) ∧ wx.cell? ⟨w1.heap.size, 1, none⟩ = some (.string t) ∧ wx.cell? ⟨w1.heap.size, 2, none⟩ = some (.int .i64 X.e))) := fun wx h => (CS.out wx h).cells.1
  clear rY rY2 bY bY2 MS CS c0
  go_upto_region 9 with fail
  generalize wY.setCell ⟨w1.heap.size, 0, none⟩ (.bool false) = wX at *
  have T0 := hid (KS.out _ _ S0.out (drew_nil _))
  clear S0 q0 q1 q2 q3 q4 q5
  have HO2 : Hid (∀ (wx : World) (s1 s2 s3 : ByteArray), Hid (Str s2 DA.ds ∧ Str s3 DB.ds) → Calls Tryz.prog 27 #[.agg #[.bool DV.neg, .string s1, .int .i64 DV.e, .bool DA.neg, .string s2, .int .i64 DA.e, .bool DB.neg, .string s3, .int .i64 DB.e, .bool cb], .agg #[.bool false, .string t, .int .i64 X.e]] wx fun e w' => e = .returned (.bool RB0) ∧ Below wx.heap.size wx w') := fun wx s1 s2 s3 h => HO.out wx s1 s2 s3 t h.out.1 h.out.2 HT.out
  go_region_held3 (fun wx => (wx.cell? ⟨w1.heap.size, 0, none⟩ = some (.bool false) ∧ wx.cell? ⟨w1.heap.size, 1, none⟩ = some (.string t) ∧ wx.cell? ⟨w1.heap.size, 2, none⟩ = some (.int .i64 X.e))) (first | (with_reducible exact FT.out _ T2.out) | (with_reducible exact FT.out _ T1.out) | (with_reducible exact FT.out _ T0.out)) (first
    | (go_at_call 15; with_reducible refine (SP2.out _).mono ?_; rintro e w5 ⟨s1, s2, s3, rfl, HG, hB⟩; have T1 := hid (KS.out _ _ T0.out hB); clear hB)
    | (go_at_call 27; with_reducible refine (HO2.out _ _ _ _ HG).mono ?_; rintro e w6 ⟨rfl, hB⟩; have T2 := hid (KS.out _ _ T1.out hB); clear hB))
  have K := hid (BS.out _ T2.out)
  clear T0 T1 T2 FT KS BS HO HO2 SP2
  go_wp2_with fail
  go_ret2
  exact ⟨rfl, K.out⟩
end Go.Proofs.YtbmlkfkhmaahnaaGreatDoor

namespace Go.Proofs.YtbmlkfkhmaahnaaGreatDoor
open Go.RowKit Go.Deep

namespace Sh
theorem val_at (zs : List Int) (i : Nat) (hi : i < zs.length) : Nm.val (zs.drop i) = zs.getD i 0 + 18446744073709551616 * Nm.val (zs.drop (i + 1)) := by
  rw [List.drop_eq_getElem_cons hi, Nm.val]
  simp [List.getD, hi]

/-- One limb moved down by r binary digits, with what came down from above: the limb s, and what goes on. -/
theorem down (x V sp : Int) (r : Nat) (hr : r ≤ 63) (x0 : 0 ≤ x) (x1 : x < 18446744073709551616) (hsp : sp = V % 2 ^ r * 2 ^ (64 - r)) :
    ∃ q s sp', x / 2 ^ r = q ∧ bits .or .u64 q sp = s ∧ IntKind.u64.wrap (x * 2 ^ (64 - r)) = sp' ∧ (0 ≤ s ∧ s < 18446744073709551616) ∧ (0 ≤ sp' ∧ sp' < 18446744073709551616) ∧
      Hid (s + 18446744073709551616 * (V / 2 ^ r) = (x + 18446744073709551616 * V) / 2 ^ r) ∧ Hid (sp' = (x + 18446744073709551616 * V) % 2 ^ r * 2 ^ (64 - r)) := by
  have hP := Nm.two_pos r
  have hQ := Nm.two_pos (64 - r)
  have hPQ := split64 r hr
  have hpe : (2 : Int) ^ (64 - r) = 2 ^ (64 - r) := rfl
  have d2 := Int.emod_nonneg V (show (2 : Int) ^ r ≠ 0 by omega)
  have d3 := Int.emod_lt_of_pos V hP
  have q0 : 0 ≤ x / 2 ^ r := Int.ediv_nonneg x0 (by omega)
  have q1 : x / 2 ^ r < 2 ^ (64 - r) := by
    rw [Int.ediv_lt_iff_lt_mul hP, Int.mul_comm, hPQ]
    exact x1
  have e1 : (V % 2 ^ r + 1) * 2 ^ (64 - r) ≤ 2 ^ r * 2 ^ (64 - r) := Int.mul_le_mul_of_nonneg_right (by omega) (by omega)
  rw [Int.add_mul, Int.one_mul, hPQ] at e1
  have e2 : 0 ≤ V % 2 ^ r * 2 ^ (64 - r) := Int.mul_nonneg d2 (by omega)
  -- 'or' with the summands the other way round
  have hO : bits .or .u64 (x / 2 ^ r) sp = x / 2 ^ r + sp := by
    have h := or_sum (V % 2 ^ r) (x / 2 ^ r) (64 - r) d2 q0 q1 (by omega) (by omega)
    rw [← hsp] at h
    obtain ⟨a, ha⟩ := Int.eq_ofNat_of_zero_le q0
    obtain ⟨c, hc⟩ := Int.eq_ofNat_of_zero_le (show 0 ≤ sp by omega)
    rw [ha, hc] at h ⊢
    rw [bits_or_u64_nat c a (by omega) (by omega)] at h
    rw [bits_or_u64_nat a c (by omega) (by omega), Nat.or_comm, h]
    omega
  refine ⟨_, _, _, rfl, hO, rfl, by omega, ?_, ?_, ?_⟩
  · rw [wrap_mod]; omega
  · show _ = _
    have a1 : (x + 18446744073709551616 * V) / 2 ^ r = x / 2 ^ r + 2 ^ (64 - r) * V := by
      rw [← hPQ, Int.mul_assoc, Int.add_mul_ediv_left _ _ (by omega)]
    have a2 := Int.emod_add_mul_ediv V (2 ^ r)
    have a3 : 2 ^ (64 - r) * V = V % 2 ^ r * 2 ^ (64 - r) + 18446744073709551616 * (V / 2 ^ r) := by
      have : 2 ^ (64 - r) * (V % 2 ^ r + 2 ^ r * (V / 2 ^ r)) = 2 ^ (64 - r) * V := by rw [a2]
      rw [Int.mul_add, ← Int.mul_assoc, Int.mul_comm (2 ^ (64 - r)) (2 ^ r), hPQ, Int.mul_comm (2 ^ (64 - r)) (V % 2 ^ r)] at this
      omega
    rw [a1, a3, hsp]
    omega
  · show _ = _
    have b1 : (x + 18446744073709551616 * V) % 2 ^ r = x % 2 ^ r := by
      rw [← hPQ, Int.mul_assoc, Int.add_mul_emod_self_left]
    rw [b1, wrap_mod]
    have c1 := Int.emod_add_mul_ediv x (2 ^ r)
    have c2 := Int.emod_nonneg x (show (2 : Int) ^ r ≠ 0 by omega)
    have c3 := Int.emod_lt_of_pos x hP
    have c4 : (x % 2 ^ r + 1) * 2 ^ (64 - r) ≤ 2 ^ r * 2 ^ (64 - r) := Int.mul_le_mul_of_nonneg_right (by omega) (by omega)
    rw [Int.add_mul, Int.one_mul, hPQ] at c4
    have c5 : 0 ≤ x % 2 ^ r * 2 ^ (64 - r) := Int.mul_nonneg c2 (by omega)
    have c6 : x * 2 ^ (64 - r) = x % 2 ^ r * 2 ^ (64 - r) + 18446744073709551616 * (x / 2 ^ r) := by
      have : (x % 2 ^ r + 2 ^ r * (x / 2 ^ r)) * 2 ^ (64 - r) = x * 2 ^ (64 - r) := by rw [c1]
      rw [Int.add_mul, Int.mul_right_comm, hPQ] at this
      omega
    omega

/-- Whether anything is lost: by the lowest digit 1. -/
theorem lost_iff {v : Int} {t n : Nat} (h : Nm.Trl v t) (hv : 0 < v) : decide ((t : Int) < (n : Int)) = decide (v % 2 ^ n ≠ 0) := by
  rcases h with ⟨h, _⟩ | ⟨m, hm⟩
  · omega
  · rw [Bool.eq_iff_iff]
    simp only [decide_eq_true_eq]
    constructor
    · intro hlt h0
      obtain ⟨c, hc⟩ := Nat.exists_eq_add_of_lt (show t < n by omega)
      obtain ⟨k, hk⟩ := Int.dvd_of_emod_eq_zero h0
      rw [hm, hc, Nat.add_assoc, Nm.two_add, Int.mul_assoc] at hk
      exact Nm.odd_unique (Int.eq_of_mul_eq_mul_left (by have := Nm.two_pos t; omega) hk)
    · intro h0
      rcases Nat.lt_or_ge t n with hlt | hge
      · omega
      · exfalso
        obtain ⟨c, hc⟩ := Nat.exists_eq_add_of_le hge
        apply h0
        rw [hm, hc, Nm.two_add, Int.mul_assoc]
        exact Int.mul_emod_right _ _
end Sh

/-- Behind the limbs from j on: they are moved down; below j the limbs are as they were. -/
def DownInv (g M : Nat) (w : World) (ys : List Int) (r j : Nat) (sp : Int) (os : List Int) (wr : World) : Prop :=
  Own wr g os ∧ os.length = M ∧ Nm.Limbs os ∧ (∀ t, t < j → os.getD t 0 = ys.getD t 0) ∧ Nm.val (os.drop j) = Nm.val (ys.drop j) / 2 ^ r ∧ sp = Nm.val (ys.drop j) % 2 ^ r * 2 ^ (64 - r) ∧ Below g w wr

theorem DownInv.step {g M : Nat} {w : World} {ys : List Int} {r t : Nat} {sp : Int} {os : List Int} {wr : World} (h : DownInv g M w ys r (t + 1) sp os wr) (hM : ys.length = M) (ht : t < M) {x s sp' : Int} (hx : x = ys.getD t 0) (hs0 : 0 ≤ s ∧ s < 18446744073709551616)
    (e1 : s + 18446744073709551616 * (Nm.val (ys.drop (t + 1)) / 2 ^ r) = (x + 18446744073709551616 * Nm.val (ys.drop (t + 1))) / 2 ^ r) (e2 : sp' = (x + 18446744073709551616 * Nm.val (ys.drop (t + 1))) % 2 ^ r * 2 ^ (64 - r)) :
    DownInv g M w ys r t sp' (os.set t s) (wr.setCell ⟨g, t, none⟩ (.int .u64 s)) := by
  obtain ⟨h1, h2, h3, h4, h5, h6, h7⟩ := h
  have hv := Sh.val_at ys t (by omega)
  rw [← hx] at hv
  refine ⟨h1.set t s, by simpa using h2, h3.set t hs0.1 hs0.2, ?_, ?_, by rw [hv]; exact e2, h7.setCell (p := ⟨g, t, none⟩) (Nat.le_refl _) _⟩
  · intro i hi
    rw [Nm.getD_set _ _ _ _ (by omega), if_neg (by omega)]
    exact h4 i (by omega)
  · rw [Sh.val_at (os.set t s) t (by simpa using (show t < os.length by omega)), Nm.getD_set _ _ _ _ (by omega), if_pos rfl, hv, ← e1]
    rw [List.drop_set_of_lt (by omega), h5]

theorem ret_shr {p : Option Addr} {a b : Nat} {l l' : Bool} (h : a = b) (hl : l = l') : Ending.returned (.tuple #[.slice p a a, .bool l, .int .i64 0]) = .returned (.tuple #[.slice p b b, .bool l', .int .i64 0]) := by rw [h, hl]

set_option maxRecDepth 100000 in
set_option maxHeartbeats 1000000 in
/-- From the number of its digits on nothing is left. -/
theorem shr_all (p : Option Addr) (n cap : Nat) (zs : List Int) (k : Int) (L : Nat) (w : World) (ha : Arg w p n cap zs) (tz : Nm.tsize zs ≤ 4096) (hk : 0 ≤ k) (hL : blen (Nm.trim zs) = (L : Int)) (hb : (L : Int) ≤ k) :
    Calls Tryz.prog 197 #[.slice p n cap, .int .i64 k] w fun e w' => e = .returned (.tuple #[.slice none 0 0, .bool (decide (0 < Nm.tsize zs)), .int .i64 0]) ∧ w' = w := by
  have HT := hid (lshift_ok p n cap zs k w ha tz hk)
  have HB := hid (bitLen_n L p _ _ (Nm.trim zs) w ha.trim' hL)
  clear hL ha
  go_enter Tryz.func197, Tryz.ntmps197
  go_wp2_with fail
  refine HT.out.mono ?_
  rintro e w' ⟨rfl, rfl⟩
  go_wp2_with fail
  refine HB.out.mono ?_
  rintro e w' ⟨rfl, rfl⟩
  go_wp2_with fail
  go_ret3
  exact ⟨by first | rfl | simp, rfl⟩

set_option maxRecDepth 100000 in
set_option maxHeartbeats 1000000 in
theorem shr_ok (p : Option Addr) (n cap : Nat) (zs : List Int) (kk : Int) (k L : Nat) (w : World) (ha : Arg w p n cap zs) (hT : Tab w) (tz : Nm.tsize zs ≤ 4096) (hkk : kk = (k : Int)) (hL : blen (Nm.trim zs) = (L : Int)) (hLt : L ≤ 64 * Nm.tsize zs) (hb : k < L) :
    Calls Tryz.prog 197 #[.slice p n cap, .int .i64 kk] w fun e w' => ∃ r os, e = .returned (.tuple #[.slice r (List.length os) (List.length os), .bool (decide (Nm.val zs % 2 ^ k ≠ 0)), .int .i64 0]) ∧ Ans w.heap.size w' r os (Nm.val zs / 2 ^ k) ∧ Below w.heap.size w w' := by
  have hk0 : 0 ≤ kk := by omega
  have T1 := lshift_ok p n cap zs kk w ha tz hk0
  have B1 := bitLen_n L p _ _ (Nm.trim zs) w ha.trim' hL
  have hvpos : 0 < Nm.val zs := by
    have h1 := (Nm.val_bd zs ha.2.2.2.2).1
    rcases (show Nm.val zs = 0 ∨ 0 < Nm.val zs by omega) with h | h
    · have := (Nm.tsize_zero_iff ha.2.2.2.2).2 h
      omega
    · exact h
  obtain ⟨N, HN⟩ : ∃ N, Hid (Nm.tsize zs = N) := ⟨_, rfl⟩
  rw [HN.out] at T1 B1 hLt
  have HT := hid T1
  have HB := hid B1
  have hN1 : N ≤ 4096 := by rw [← HN.out]; exact tz
  have hb1 : ¬ (L : Int) ≤ kk := by omega
  obtain ⟨sk, hsk⟩ : ∃ sk, k / 64 = sk := ⟨_, rfl⟩
  obtain ⟨r, hr⟩ : ∃ r, k % 64 = r := ⟨_, rfl⟩
  have r1 : kk / 64 = (sk : Int) := by omega
  have r2 : kk % 64 = (r : Int) := by omega
  have hr63 : r ≤ 63 := by omega
  have hskN : sk < N := by omega
  have hskN' : (sk : Int) < (N : Int) := by omega
  have hkb : kk ≤ 262144 := by omega
  have KE : Hid (k = 64 * sk + r) := by show _ = _; omega
  have KK := hid hkk
  have L1 := hid ((Nm.trim_length zs).trans HN.out)
  have A5 := hid ha.2.2.2.2.trim
  have AT := ha.trim'
  rw [HN.out] at AT
  have HAT := hid AT
  obtain ⟨b, off, rfl, hbw, HC⟩ := ha.2.2.2.1.trim.at (by rw [L1.out]; omega)
  have V := hid (Nm.val_trim zs)
  have LD : Hid (Lies w (some ⟨b, off + sk, none⟩) ((Nm.trim zs).drop sk)) := .inr ⟨b, off + sk, rfl, fun i hi => by
    rw [List.length_drop] at hi
    rw [show off + sk + i = off + (sk + i) by omega, HC.out (sk + i) (by omega)]
    simp [List.getD]⟩
  have YL : Hid (((Nm.trim zs).drop sk).length = N - sk) := by rw [Hid, List.length_drop, L1.out]
  have YY := hid (A5.out.drop sk)
  have HTAB := hid hT
  have HV := hid hvpos
  have QE : Hid (Nm.val zs / 2 ^ k = Nm.val ((Nm.trim zs).drop sk) / 2 ^ r) := by
    have h1 := Nm.val_drop (Nm.trim zs) sk (by rw [L1.out]; omega)
    have h2 := Nm.val_bd _ (A5.out.take sk)
    rw [List.length_take, L1.out, Nat.min_eq_left (by omega)] at h2
    have hp := Nm.pw_pos sk
    show _ = _
    rw [KE.out, Nm.two_add, ← Nm.pw_two, ← Int.ediv_ediv_of_nonneg (by omega), ← V.out, h1, Int.add_mul_ediv_left _ _ (by omega), Int.ediv_eq_zero_of_lt h2.1 h2.2, Int.zero_add]
  clear T1 B1 ha tz hL hkk hsk hr hT hvpos hLt hb AT
  go_enter Tryz.func197, Tryz.ntmps197
  go_wp2_with fail
  refine HT.out.mono ?_
  rintro e w' ⟨rfl, rfl⟩
  go_wp2_with fail
  refine HB.out.mono ?_
  rintro e w' ⟨rfl, rfl⟩
  go_wp2_with fail
  refine (widened_any _ (N - sk) _ 0 0 ((Nm.trim zs).drop sk) _ rfl YL.out (by omega) LD.out).mono ?_
  rintro e w1 ⟨rfl, ho, hb2, hz2⟩
  rw [List.replicate_zero, List.append_nil] at ho
  have I0 : DownInv w'.heap.size (N - sk) w' ((Nm.trim zs).drop sk) r (N - sk) 0 ((Nm.trim zs).drop sk) w1 := by
    have e : ((Nm.trim zs).drop sk).drop (N - sk) = [] := List.drop_eq_nil_of_le (by rw [YL.out]; omega)
    exact ⟨ho, YL.out, YY.out, fun _ _ => rfl, by rw [e]; simp [Nm.val], by rw [e]; simp [Nm.val], hb2⟩
  have HI0 := hid I0
  clear ho hb2 hz2 I0
  go_wp2_with fail
  go_loopw [11, 12] (fun a i wr => ∃ (j : Nat) (sp : Int) (os : List Int), j ≤ N - sk ∧ i = .int .i64 ((j : Int) - 1) ∧ a = .int .u64 sp ∧ DownInv w'.heap.size (N - sk) w' ((Nm.trim zs).drop sk) r j sp os wr) (fun _ i _ => (intOf i + 1).toNat)
  case atStart => exact ⟨N - sk, 0, _, Nat.le_refl _, by go_num, rfl, HI0.out⟩
  case round =>
    clear HI0
    obtain ⟨j, sp, os, hj, rfl, rfl, I⟩ := hrel
    by_cases hj0 : j = 0
    · subst hj0
      obtain ⟨i1, i2, i3, i4, i5, i6, i7⟩ := I
      rw [List.drop_zero, List.drop_zero] at i5
      have O1 := hid i1
      have O3 := hid i3
      have O5 : Hid (Nm.val os = Nm.val zs / 2 ^ k) := by rw [Hid, QE.out]; exact i5
      have O7 := hid i7
      have TR := hid (trimmed_any (some ⟨w'.heap.size, 0, none⟩) (N - sk) (N - sk) os wr i2 (Nat.le_refl _) (by omega) i1.lies)
      have TL := hid (trail_any _ N N (Nm.trim zs) wr (HAT.out.below i7 (Nat.le_refl _)) (HTAB.out.below i7))
      clear i1 i2 i3 i4 i5 i6 i7
      go_wp2_with fail
      refine TR.out.mono ?_
      rintro e w3 ⟨rfl, rfl⟩
      go_wp2_with fail
      refine TL.out.mono ?_
      rintro e w3 ⟨t, rfl, htr, rfl⟩
      rw [V.out] at htr
      have LO := hid (Sh.lost_iff (n := k) htr HV.out)
      clear htr
      go_wp2_with fail
      go_ret3
      refine ⟨some ⟨w'.heap.size, 0, none⟩, Nm.trim os, ret_shr (Nm.trim_length os).symm (by rw [KK.out]; exact LO.out), ⟨O1.out.lies.trim, O3.out.trim, ?_, ?_, ?_⟩, O7.out⟩
      · rw [Nm.trim_trim, Nm.trim_length]
      · rw [Nm.val_trim, O5.out]
      · intro a h
        cases h
        exact Nat.le_refl _
    · obtain ⟨t, rfl⟩ : ∃ t, j = t + 1 := ⟨j - 1, by omega⟩
      have hxo := I.2.2.2.1 t (by omega)
      obtain ⟨x, hxc, X⟩ : ∃ x, wr.cell? ⟨w'.heap.size, t, none⟩ = some (.int .u64 x) ∧ Hid (x = ((Nm.trim zs).drop sk).getD t 0) := ⟨_, I.1.cell t (by have := I.2.1; omega), hxo⟩
      have hfr := I.1.free t
      have hx0 := YY.out.at t
      rw [← X.out] at hx0
      obtain ⟨hx0, hx1⟩ := hx0
      obtain ⟨q, s, sp', u1, u2, u3, us, usp, E1, E2⟩ := Sh.down x (Nm.val (((Nm.trim zs).drop sk).drop (t + 1))) sp r hr63 hx0 hx1 I.2.2.2.2.2.1
      have I2 := I.step YL.out (by omega) X.out us E1.out E2.out
      have htN : (t : Int) < ((N - sk : Nat) : Int) := by omega
      clear I hxo E1 E2 us usp
      go_wp2
      go_roundw
      case rel => exact ⟨t, sp', _, by omega, by go_num, rfl, I2⟩
      case measure => simp [intOf]
end Go.Proofs.YtbmlkfkhmaahnaaGreatDoor

namespace Go.Proofs.YtbmlkfkhmaahnaaGreatDoor
open Go.RowKit Go.Deep

theorem one_bit (x : Int) (h0 : 0 ≤ x) (h1 : x < 18446744073709551616) : bits .and .u64 x 1 = x % 2 := by
  obtain ⟨n, rfl⟩ := Int.eq_ofNat_of_zero_le h0
  have h := bits_and_u64_nat n 1 (by omega) (by omega)
  have e : n &&& 1 = n % 2 := Nat.and_two_pow_sub_one_eq_mod n 1
  rw [e] at h
  rw [show (1 : Int) = ((1 : Nat) : Int) from rfl, h]
  omega

set_option maxRecDepth 100000 in
set_option maxHeartbeats 1000000 in
/-- One binary digit. -/
theorem bit_any (p : Option Addr) (n cap : Nat) (zs : List Int) (i : Nat) (ii : Int) (w : World) (ha : Arg w p n cap zs) (hi : ii ≤ 9223372036854775807) (hii : ii = (i : Int)) :
    Calls Tryz.prog 206 #[.slice p n cap, .int .i64 ii] w fun e w' => e = .returned (.int .i64 (Nm.val zs / 2 ^ i % 2)) ∧ w' = w := by
  obtain ⟨a1, a2, a3, a4, a5⟩ := ha
  have hi0 : 0 ≤ ii := by omega
  by_cases hk : n ≤ i / 64
  · have E : Hid (Nm.val zs / 2 ^ i % 2 = 0) := by
      have h1 := Nm.val_bd zs a5
      have h2 : Nm.pw zs.length ≤ 2 ^ i := by rw [Nm.pw_two]; exact Nm.two_mono (by omega)
      show _ = _
      rw [Int.ediv_eq_zero_of_lt h1.1 (by omega)]
      rfl
    have hk' : (n : Int) ≤ ii / 64 := by omega
    clear a1 a4 a5 hii hk
    go_enter Tryz.func206, Tryz.ntmps206
    go_wp2
    go_ret
    exact ⟨retI E.out.symm, rfl⟩
  · obtain ⟨k, hke⟩ : ∃ k, i / 64 = k := ⟨_, rfl⟩
    obtain ⟨r, hre⟩ : ∃ r, i % 64 = r := ⟨_, rfl⟩
    have hir : i = 64 * k + r := by omega
    have E := hid (Nm.bit_at zs i k r hir (by omega) a5 (by omega))
    obtain ⟨b, off, rfl, hc⟩ : ∃ b off, p = some ⟨b, off, none⟩ ∧ w.cell? ⟨b, off + k, none⟩ = some (.int .u64 (zs.getD k 0)) := by
      rcases a4 with h | ⟨b, off, hp, h⟩
      · rw [h] at a1
        simp at a1
        omega
      · exact ⟨b, off, hp, h k (by omega)⟩
    obtain ⟨x, X⟩ : ∃ x, Hid (x = zs.getD k 0) := ⟨_, rfl⟩
    rw [← X.out] at hc E
    have hx := a5.at k
    rw [← X.out] at hx
    obtain ⟨hx0, hx1⟩ := hx
    have q0 : 0 ≤ x / 2 ^ r := Int.ediv_nonneg hx0 (by have := Nm.two_pos r; omega)
    have q1 : x / 2 ^ r < 18446744073709551616 := by
      have : x / 2 ^ r ≤ x := Int.ediv_le_self _ hx0
      omega
    obtain ⟨y, hy⟩ : ∃ y, x / 2 ^ r = y := ⟨_, rfl⟩
    rw [hy] at q0 q1 E
    have hb := one_bit y q0 q1
    have h64 : ii / 64 = (k : Int) := by omega
    have h65 : ii % 64 = (r : Int) := by omega
    have hkn : (k : Int) < (n : Int) := by omega
    have hr63 : r ≤ 63 := by omega
    have y2 : 0 ≤ y % 2 := by omega
    have y3 : y % 2 ≤ 1 := by omega
    clear hir hke hre hk a1 a4 a5 X hii
    go_enter Tryz.func206, Tryz.ntmps206
    go_wp2
    go_ret
    exact ⟨retI E.out.symm, rfl⟩

theorem bit_neg (p : Option Addr) (n cap : Nat) (i : Int) (w : World) (hi : i < 0) :
    Calls Tryz.prog 206 #[.slice p n cap, .int .i64 i] w fun e w' => e = .returned (.int .i64 0) ∧ w' = w := by
  go_enter Tryz.func206, Tryz.ntmps206
  go_wp2
  go_ret
  exact ⟨rfl, rfl⟩
end Go.Proofs.YtbmlkfkhmaahnaaGreatDoor

namespace Go.Proofs.YtbmlkfkhmaahnaaGreatDoor
open Go.RowKit Go.Deep

theorem blen_trim_eq (zs : List Int) : blen (Nm.trim zs) = blen zs := by
  unfold blen
  rw [Nm.trim_trim]
  by_cases h : Nm.tsize zs = 0
  · rw [if_pos h, if_pos h]
  · rw [if_neg h, if_neg h]
    have e : (Nm.trim zs).getD (Nm.tsize zs - 1) 0 = zs.getD (Nm.tsize zs - 1) 0 := by rw [Nm.trim, Nm.getD_take, if_pos (by omega)]
    rw [e]

theorem pw_4096 : Nm.pw 4096 = 2 ^ 262144 := Nm.pw_two 4096

theorem two_lt {a b : Nat} (h : (2 : Int) ^ a < 2 ^ b) : a < b := by
  rcases Nat.lt_or_ge a b with h1 | h1
  · exact h1
  · have := Nm.two_mono h1
    omega

/-- So many digits as the number times 2^k. -/
theorem BLen.up {v : Int} {L : Nat} (k : Nat) (h : Nm.BLen v L) (hv : 0 < v) : Nm.BLen (v * 2 ^ k) (L + k) := by
  have hp := Nm.two_pos k
  have h1 := h.2.2 hv
  refine ⟨?_, fun h0 => ?_, fun _ => ⟨by omega, ?_⟩⟩
  · rw [Nm.two_add]
    exact Int.mul_lt_mul_of_pos_right h.1 hp
  · rcases Int.mul_eq_zero.1 h0 with h2 | h2 <;> omega
  · rw [show L + k - 1 = L - 1 + k by omega, Nm.two_add]
    exact Int.mul_le_mul_of_nonneg_right h1.2 (by omega)

theorem Trl.up {v : Int} {t : Nat} (k : Nat) (h : Nm.Trl v t) (hv : 0 < v) : Nm.Trl (v * 2 ^ k) (t + k) := by
  rcases h with ⟨h, _⟩ | ⟨m, hm⟩
  · omega
  · right
    exact ⟨m, by rw [hm, Nm.two_add, Int.mul_right_comm]⟩

theorem tsize_pos {zs : List Int} (hz : Nm.Limbs zs) (hv : 0 < Nm.val zs) : 0 < Nm.tsize zs := by
  rcases Nat.eq_zero_or_pos (Nm.tsize zs) with h | h
  · have := (Nm.tsize_zero_iff hz).1 h
    omega
  · exact h

theorem shl_any (p : Option Addr) (n cap : Nat) (zs : List Int) (kk : Int) (k : Nat) (w : World) (ha : Arg w p n cap zs) (tz : Nm.tsize zs ≤ 4096) (hkk : kk = (k : Int)) (hb : Nm.val zs * 2 ^ k < Nm.pw 4096) :
    Calls Tryz.prog 46 #[.slice p n cap, .int .i64 kk] w fun e w' => ∃ r os, e = .returned (.tuple #[.slice r (List.length os) (List.length os), .int .i64 0]) ∧ Ans w.heap.size w' r os (Nm.val zs * 2 ^ k) ∧ Below w.heap.size w w' := by
  have hv0 := (Nm.val_bd zs ha.2.2.2.2).1
  by_cases hz : Nm.tsize zs = 0
  · have hv := (Nm.tsize_zero_iff ha.2.2.2.2).1 hz
    refine (shl_zero p n cap zs kk w ha (by omega) hz).mono ?_
    rintro e w' ⟨rfl, rfl⟩
    exact ⟨none, [], rfl, ⟨Lies.nil _ _, Nm.Limbs.nil, rfl, by rw [hv, Int.zero_mul]; rfl, fun a h => by cases h⟩, Below.refl _ _⟩
  · obtain ⟨L, hL, BL, _, _⟩ := blen_is zs ha.2.2.2.2
    rw [← blen_trim_eq] at hL
    have hv : 0 < Nm.val zs := by
      rcases (show Nm.val zs = 0 ∨ 0 < Nm.val zs by omega) with h | h
      · exact absurd ((Nm.tsize_zero_iff ha.2.2.2.2).2 h) hz
      · exact h
    have hu := (BLen.up k BL hv).2.2 (Int.mul_pos hv (Nm.two_pos k))
    rw [pw_4096] at hb
    have hlt := two_lt (show (2 : Int) ^ (L + k - 1) < 2 ^ 262144 by omega)
    exact shl_ok p n cap zs kk k L w ha tz hkk (by omega) hL (by omega)

theorem shl_over (p : Option Addr) (n cap : Nat) (zs : List Int) (kk : Int) (k : Nat) (w : World) (ha : Arg w p n cap zs) (tz : Nm.tsize zs ≤ 4096) (hkk : kk = (k : Int)) (hk1 : kk ≤ 9223372036854775807) (hb : Nm.pw 4096 ≤ Nm.val zs * 2 ^ k) :
    Calls Tryz.prog 46 #[.slice p n cap, .int .i64 kk] w fun e w' => e = .returned (.tuple #[.slice none 0 0, .int .i64 2]) ∧ w' = w := by
  have hv0 := (Nm.val_bd zs ha.2.2.2.2).1
  have hp := Nm.pw_pos 4096
  have hv : 0 < Nm.val zs := by
    rcases (show Nm.val zs = 0 ∨ 0 < Nm.val zs by omega) with h | h
    · rw [h, Int.zero_mul] at hb; omega
    · exact h
  obtain ⟨L, hL, BL, _, _⟩ := blen_is zs ha.2.2.2.2
  rw [← blen_trim_eq] at hL
  have hu := (BLen.up k BL hv).1
  rw [pw_4096] at hb
  have hlt := two_lt (show (2 : Int) ^ 262144 < 2 ^ (L + k) by omega)
  exact shl_big p n cap zs kk L w ha tz (by omega) hk1 (tsize_pos ha.2.2.2.2 hv) hL (by omega)

theorem shr_any (p : Option Addr) (n cap : Nat) (zs : List Int) (kk : Int) (k : Nat) (w : World) (ha : Arg w p n cap zs) (hT : Tab w) (tz : Nm.tsize zs ≤ 4096) (hkk : kk = (k : Int)) :
    Calls Tryz.prog 197 #[.slice p n cap, .int .i64 kk] w fun e w' => ∃ r os, e = .returned (.tuple #[.slice r (List.length os) (List.length os), .bool (decide (Nm.val zs % 2 ^ k ≠ 0)), .int .i64 0]) ∧ Ans w.heap.size w' r os (Nm.val zs / 2 ^ k) ∧ Below w.heap.size w w' := by
  obtain ⟨L, hL, BL, hl, _⟩ := blen_is zs ha.2.2.2.2
  have hv0 := (Nm.val_bd zs ha.2.2.2.2).1
  rw [← blen_trim_eq] at hL
  by_cases hb : k < L
  · exact shr_ok p n cap zs kk k L w ha hT tz hkk hL hl hb
  · have hlt : Nm.val zs < 2 ^ k := by
      have := BL.1
      have := Nm.two_mono (show L ≤ k by omega)
      omega
    refine (shr_all p n cap zs kk L w ha tz (by omega) hL (by omega)).mono ?_
    rintro e w' ⟨rfl, rfl⟩
    refine ⟨none, [], ?_, ⟨Lies.nil _ _, Nm.Limbs.nil, rfl, by rw [Int.ediv_eq_zero_of_lt hv0 hlt]; rfl, fun a h => by cases h⟩, Below.refl _ _⟩
    have e : decide (0 < Nm.tsize zs) = decide (Nm.val zs % 2 ^ k ≠ 0) := by
      rw [Int.emod_eq_of_lt hv0 hlt, Bool.eq_iff_iff]
      simp only [decide_eq_true_eq]
      have := Nm.tsize_zero_iff ha.2.2.2.2
      omega
    rw [e]
    rfl
end Go.Proofs.YtbmlkfkhmaahnaaGreatDoor

/-
  ieee: scaled, roundsUp.
-/
namespace Go.Proofs.YtbmlkfkhmaahnaaGreatDoor
open Go Go.RowKit Go.Deep

theorem toU_is (p : Option Addr) (n cap : Nat) (zs : List Int) (w : World) (ha : Arg w p n cap zs) (V : Int) (hV : Nm.val zs = V) (h : V < 18446744073709551616) :
    Calls Tryz.prog 138 #[.slice p n cap] w fun e w' => e = .returned (.tuple #[.int .u64 V, .bool true]) ∧ w' = w := by
  have h1 := toUint_any p n cap zs w ha
  rw [toU_val ha.2.2.2.2 (by rw [hV]; exact h), hV] at h1
  have h2 : Nm.tsize zs ≤ 1 := (Nm.tsize_le_iff ha.2.2.2.2 1).2 (by rw [hV]; exact h)
  simpa [h2] using h1

set_option maxRecDepth 100000 in
set_option maxHeartbeats 1000000 in
theorem scaled_up (p : Option Addr) (n cap : Nat) (zs : List Int) (w : World) (ha : Arg w p n cap zs) (V s : Int) (j : Nat) (hV : Nm.val zs = V) (hs : s = (j : Int)) (hj : 0 < j) (hj2 : j ≤ 64) (h : V * 2 ^ j < 18446744073709551616) :
    Calls Tryz.prog 198 #[.slice p n cap, .int .i64 s] w fun e w' => e = .returned (.int .u64 (V * 2 ^ j)) ∧ w' = w := by
  subst hs
  have v0 : 0 ≤ V := by rw [← hV]; exact (Nm.val_bd zs ha.2.2.2.2).1
  have hp := Nm.two_pos j
  have v1 : V < 18446744073709551616 := by
    have : V * 1 ≤ V * 2 ^ j := Int.mul_le_mul_of_nonneg_left (by omega) v0
    omega
  have T := hid (toU_is p n cap zs w ha V hV v1)
  have m0 : 0 ≤ V * 2 ^ j := Int.mul_nonneg v0 (by omega)
  have W : IntKind.u64.wrap (V * 2 ^ j) = V * 2 ^ j := by rw [IntKind.wrap_u64]; omega
  have hj' : (0 : Int) < (j : Int) := by omega
  have hj3 : (j : Int) ≤ 64 := by omega
  clear ha hV hp v1 h m0 hj
  go_enter Tryz.func198, Tryz.ntmps198
  go_wp2_with fail
  refine T.out.mono ?_
  rintro e w' ⟨rfl, rfl⟩
  go_wp2_with fail
  go_ret
  exact ⟨rfl, rfl⟩

set_option maxRecDepth 100000 in
set_option maxHeartbeats 1000000 in
theorem scaled_down (p : Option Addr) (n cap : Nat) (zs : List Int) (w : World) (ha : Arg w p n cap zs) (hT : Tab w) (tz : Nm.tsize zs ≤ 4096) (V s : Int) (k : Nat) (hV : Nm.val zs = V) (hs : s = -(k : Int)) (hk : k ≤ 8000000) (h : V / 2 ^ k < 18446744073709551616) :
    Calls Tryz.prog 198 #[.slice p n cap, .int .i64 s] w fun e w' => e = .returned (.int .u64 (V / 2 ^ k)) ∧ Below w.heap.size w w' := by
  subst hs
  have H := hid (fun (kk : Int) (hkk : kk = (k : Int)) => shr_any p n cap zs kk k w ha hT tz hkk)
  have hk0 : ¬ (0 : Int) < -(k : Int) := by omega
  have hk1 : (k : Int) ≤ 8000000 := by omega
  have HV := hid hV
  have HH := hid h
  clear ha hT tz hV h hk
  go_enter Tryz.func198, Tryz.ntmps198
  go_wp2_with fail
  refine (H.out _ (by omega)).mono ?_
  rintro e w' ⟨r, os, rfl, A, hB⟩
  rw [HV.out] at A
  have A1 : os.length ≤ 17592186044416 := by
    have := (Nm.tsize_le_iff A.2.1 1).2 (by rw [A.2.2.2.1]; exact HH.out)
    rw [A.2.2.1] at this
    omega
  have T := hid (toU_is r _ _ os w' (A.arg A1) _ A.2.2.2.1 HH.out)
  have HB := hid hB
  clear A A1 hB H
  go_wp2_with fail
  refine T.out.mono ?_
  rintro e w'' ⟨rfl, rfl⟩
  go_wp2_with fail
  go_ret
  exact ⟨rfl, HB.out⟩

theorem up_none (p : Option Addr) (n cap : Nat) (w : World) (s : Int) (half : Bool) (hs : s ≤ 0) (hs2 : -8000000 ≤ s) :
    Calls Tryz.prog 199 #[.slice p n cap, .int .i64 s, .bool half] w fun e w' => e = .returned (.bool false) ∧ w' = w := by
  have H := hid (fun (i : Int) (hi : i < 0) => bit_neg p n cap i w hi)
  go_enter Tryz.func199, Tryz.ntmps199
  go_wp2_with fail
  refine (H.out _ (by omega)).mono ?_
  rintro e w' ⟨rfl, rfl⟩
  go_wp2_with fail
  go_ret
  exact ⟨rfl, rfl⟩

set_option maxRecDepth 100000 in
set_option maxHeartbeats 1000000 in
theorem up_some (p : Option Addr) (n cap : Nat) (zs : List Int) (w : World) (ha : Arg w p n cap zs) (hT : Tab w) (V s : Int) (k : Nat) (half : Bool) (hV : Nm.val zs = V) (hv : 0 < V) (hs : s = (k : Int) + 1) (hk : k ≤ 8000000) :
    Calls Tryz.prog 199 #[.slice p n cap, .int .i64 s, .bool half] w fun e w' => ∃ up, e = .returned (.bool up) ∧ (up = true ↔ (V / 2 ^ k % 2 = 1 ∧ (half = true ∨ V % 2 ^ k ≠ 0))) ∧ w' = w := by
  subst hs
  obtain ⟨b, hb⟩ : ∃ b, V / 2 ^ k % 2 = b := ⟨_, rfl⟩
  have H : Hid (∀ i : Int, i = (k : Int) → Calls Tryz.prog 206 #[.slice p n cap, .int .i64 i] w fun e w' => e = .returned (.int .i64 b) ∧ w' = w) := by
    intro i hi
    have := bit_any p n cap zs k i w ha (by omega) hi
    rw [hV, hb] at this
    exact this
  have T := hid (trail_any p n cap zs w ha hT)
  have HV := hid hV
  have hb2 : b = 0 ∨ b = 1 := by omega
  have HB := hid hb
  have hvv := hid hv
  have hk1 : (k : Int) ≤ 8000000 := by omega
  clear ha hT hV hb hv hk
  rcases hb2 with rfl | rfl
  · go_enter Tryz.func199, Tryz.ntmps199
    go_wp2_with fail
    refine (H.out _ (by omega)).mono ?_
    rintro e w' ⟨rfl, rfl⟩
    go_wp2_with fail
    go_ret
    exact ⟨false, rfl, ⟨fun h => (by cases h), fun h => (by have := HB.out; omega)⟩, rfl⟩
  · cases half
    · go_enter Tryz.func199, Tryz.ntmps199
      go_wp2_with fail
      refine (H.out _ (by omega)).mono ?_
      rintro e w' ⟨rfl, rfl⟩
      go_wp2_with fail
      refine T.out.mono ?_
      rintro e w' ⟨t, rfl, ht, rfl⟩
      rw [HV.out] at ht
      have E := hid (Sh.lost_iff (n := k) ht hvv.out)
      clear ht
      go_wp2_with fail
      go_ret
      refine ⟨_, rfl, ?_, rfl⟩
      have E1 : (t : Int) < (k : Int) ↔ V % 2 ^ k ≠ 0 := by simpa only [decide_eq_decide] using E.out
      rw [decide_eq_true_iff]
      constructor
      · intro h
        exact ⟨HB.out, .inr (E1.1 (by omega))⟩
      · rintro ⟨_, h | h⟩
        · cases h
        · have := E1.2 h
          omega
    · go_enter Tryz.func199, Tryz.ntmps199
      go_wp2_with fail
      refine (H.out _ (by omega)).mono ?_
      rintro e w' ⟨rfl, rfl⟩
      go_wp2_with fail
      go_ret
      refine ⟨true, rfl, ?_, rfl⟩
      have := HB.out
      simp [this]
end Go.Proofs.YtbmlkfkhmaahnaaGreatDoor
