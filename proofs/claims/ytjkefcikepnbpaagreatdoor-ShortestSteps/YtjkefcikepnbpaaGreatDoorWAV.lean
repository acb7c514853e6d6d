/-
  Texts put together: LHolds, LWithin.
-/
import Derived.Test.YtjkefcikepnbpaaGreatDoorWAT
import Derived.Test.YtjkefcikepnbpaaGreatDoorWAQ
import Derived.Test.YtjkefcikepnbpaaGreatDoorWAJ
import Derived.Deep.LoopGhost
namespace Go.Proofs.YtjkefcikepnbpaaGreatDoor
open Go Go.RowKit Go.Deep

namespace Sh
/-- A Dec in its normal form. -/
structure Nm (d : Sc.D) : Prop where
  dec : Sc.IsDec d.ds d.e
  fix : Sc.nrm d.neg d.ds d.e = d
  len : d.ds.length ≤ 281474976710656

theorem Ok.fix {d : Sc.D} (h : Ok d) : Sc.nrm d.neg d.ds d.e = d := by
  have hd : Digs d.ds := by
    rcases h.form with c | c
    · rw [c.1]; intro x hx; simp at hx; omega
    · exact c.digs
  rw [h.neg, nrm_dd hd h.lo]
  exact h.is.symm
theorem Ok.digs {d : Sc.D} (h : Ok d) : Digs d.ds ∧ d.ds ≠ [] := by
  rcases h.form with c | c
  · rw [c.1]; exact ⟨fun x hx => by simp at hx; omega, by simp⟩
  · exact ⟨c.digs, c.ne⟩
theorem Ok.nm {d : Sc.D} (h : Ok d) (h1 : d.e ≤ 100000) (hl : d.ds.length ≤ 100000) : Nm d := ⟨isdec h.digs.1 h.digs.2 h.lo h1 hl, h.fix, by omega⟩

/-- Whether a decimal lies between two others. -/
def hD (A B x : Sc.D) (c : Bool) : Bool := (decide (Sc.cmpD A x < 0) && decide (Sc.cmpD x B < 0)) || (c && decide (Sc.cmpD A x ≤ 0) && decide (Sc.cmpD x B ≤ 0))
end Sh

set_option maxRecDepth 100000 in
theorem zorder_any (a b : Sc.D) (s t : ByteArray) (w : World) (ha : Sh.Nm a) (hb : Sh.Nm b) (hs : Str s a.ds) (ht : Str t b.ds) :
    Calls Tryz.prog 63 #[.agg #[.bool a.neg, .string s, .int .i64 a.e], .agg #[.bool b.neg, .string t, .int .i64 b.e]] w fun e w' => e = .returned (.int .i64 (Sc.cmpD a b)) ∧ Below w.heap.size w w' := by
  have C := hid (fun wx : World => vcmp_any a.neg b.neg s t a.ds b.ds a.e b.e wx hs ht ha.len hb.len)
  have E : cmpE a.neg a.ds a.e b.neg b.ds b.e = (Sc.cmpD a b, 0) := by rw [cmpE, if_pos ⟨ha.dec, hb.dec⟩, ha.fix, hb.fix]
  rw [E] at C
  unfold decV at C
  have Z := hid (Below.trans (alloc_b w (.cells #[.bool a.neg, .string s, .int .i64 a.e] 25)) ((alloc_b (w.alloc (.cells #[.bool a.neg, .string s, .int .i64 a.e] 25)) (.cells #[.bool b.neg, .string t, .int .i64 b.e] 25)).mono (alloc_b w (.cells #[.bool a.neg, .string s, .int .i64 a.e] 25)).size))
  clear ha hb hs ht E
  generalize Sc.cmpD a b = k at *
  go_enter Tryz.func63, Tryz.ntmps63
  go_wp2_with fail
  refine (C.out _).mono ?_
  rintro e w1 ⟨rfl, hB⟩
  have K := hid (Z.out.trans (hB.mono Z.out.size))
  clear hB C Z
  go_wp2_with fail
  go_ret
  exact ⟨rfl, K.out⟩

set_option maxRecDepth 100000 in
set_option maxHeartbeats 2000000 in
theorem zholds_any (P A B x : Sc.D) (c : Bool) (s1 s2 s3 t : ByteArray) (w : World) (hA : Sh.Nm A) (hB : Sh.Nm B) (hx : Sh.Nm x) (h2 : Str s2 A.ds) (h3 : Str s3 B.ds) (ht : Str t x.ds) :
    Calls Tryz.prog 41 #[spanV P A B s1 s2 s3 c, .agg #[.bool x.neg, .string t, .int .i64 x.e]] w fun e w' => e = .returned (.bool (Sh.hD A B x c)) ∧ Below w.heap.size w w' := by
  have O1 := hid (fun wx : World => zorder_any A x s2 t wx hA hx h2 ht)
  have O2 := hid (fun wx : World => zorder_any x B t s3 wx hx hB ht h3)
  have E : Hid (∀ w', Below w.heap.size w w' → Ending.returned (.bool ((decide (Sc.cmpD A x < 0) && decide (Sc.cmpD x B < 0)) || (c && decide (Sc.cmpD A x ≤ 0) && decide (Sc.cmpD x B ≤ 0)))) = .returned (.bool (Sh.hD A B x c)) ∧ Below w.heap.size w w') := fun w' h => ⟨rfl, h⟩
  clear hA hB hx h2 h3 ht
  unfold spanV
  have a1 := alloc_b w (.cells #[.bool P.neg, .string s1, .int .i64 P.e, .bool A.neg, .string s2, .int .i64 A.e, .bool B.neg, .string s3, .int .i64 B.e, .bool c] 51)
  have r1 := RB.new w 51 #[.bool P.neg, .string s1, .int .i64 P.e, .bool A.neg, .string s2, .int .i64 A.e, .bool B.neg, .string s3, .int .i64 B.e, .bool c]
  generalize hk1 : Sc.cmpD A x = k1 at *
  generalize hk2 : Sc.cmpD x B = k2 at *
  clear hk1 hk2
  go_enter Tryz.func41, Tryz.ntmps41
  go_upto_region 1 with fail
  have a2 := alloc_b (w.alloc (.cells #[.bool P.neg, .string s1, .int .i64 P.e, .bool A.neg, .string s2, .int .i64 A.e, .bool B.neg, .string s3, .int .i64 B.e, .bool c] 51)) (.cells #[.bool x.neg, .string t, .int .i64 x.e] 25)
  have r2 := RB.new (w.alloc (.cells #[.bool P.neg, .string s1, .int .i64 P.e, .bool A.neg, .string s2, .int .i64 A.e, .bool B.neg, .string s3, .int .i64 B.e, .bool c] 51)) 25 #[.bool x.neg, .string t, .int .i64 x.e]
  have r1' := r1.below a2 r1.lt
  have sz : (w.alloc (.cells #[.bool P.neg, .string s1, .int .i64 P.e, .bool A.neg, .string s2, .int .i64 A.e, .bool B.neg, .string s3, .int .i64 B.e, .bool c] 51)).heap.size = w.heap.size + 1 := Array.size_push ..
  rw [sz] at r2
  obtain ⟨SS, KS, CS, BS, MS⟩ := state (fun w' => RB w' w.heap.size 51 #[.bool P.neg, .string s1, .int .i64 P.e, .bool A.neg, .string s2, .int .i64 A.e, .bool B.neg, .string s3, .int .i64 B.e, .bool c] ∧ RB w' (w.heap.size + 1) 25 #[.bool x.neg, .string t, .int .i64 x.e]) w
    (Stays.and (fun _ _ g hB => RB.below g hB (RB.lt g)) (fun _ _ g hB => RB.below g hB (RB.lt g)))
  have S0 := hid (MS.out _ ⟨r1', r2⟩ (a1.trans (a2.mono a1.size)))
  clear a1 a2 r1 r2 r1' sz MS
  generalize (w.alloc (.cells #[.bool P.neg, .string s1, .int .i64 P.e, .bool A.neg, .string s2, .int .i64 A.e, .bool B.neg, .string s3, .int .i64 B.e, .bool c] 51)).alloc (.cells #[.bool x.neg, .string t, .int .i64 x.e] 25) = wL at *
  have FT : Hid (∀ wx : World, SS wx → (((wx.cell? ⟨w.heap.size, 3, none⟩ = some (.bool A.neg) ∧ wx.cell? ⟨w.heap.size, 4, none⟩ = some (.string s2) ∧ wx.cell? ⟨w.heap.size, 5, none⟩ = some (.int .i64 A.e)) ∧ (wx.cell? ⟨w.heap.size, 6, none⟩ = some (.bool B.neg) ∧ wx.cell? ⟨w.heap.size, 7, none⟩ = some (.string s3) ∧ wx.cell? ⟨w.heap.size, 8, none⟩ = some (.int .i64 B.e)) ∧ wx.cell? ⟨w.heap.size, 9, none⟩ = some (.bool c)) ∧ (wx.cell? ⟨w.heap.size + 1, 0, none⟩ = some (.bool x.neg) ∧ wx.cell? ⟨w.heap.size + 1, 1, none⟩ = some (.string t) ∧ wx.cell? ⟨w.heap.size + 1, 2, none⟩ = some (.int .i64 x.e)))) :=
    fun wx h => ⟨⟨⟨(CS.out wx h).1.cell 3 _ rfl, (CS.out wx h).1.cell 4 _ rfl, (CS.out wx h).1.cell 5 _ rfl⟩, ⟨(CS.out wx h).1.cell 6 _ rfl, (CS.out wx h).1.cell 7 _ rfl, (CS.out wx h).1.cell 8 _ rfl⟩, (CS.out wx h).1.cell 9 _ rfl⟩, ⟨(CS.out wx h).2.cell 0 _ rfl, (CS.out wx h).2.cell 1 _ rfl, (CS.out wx h).2.cell 2 _ rfl⟩⟩
  have T0 := hid (KS.out _ _ S0.out (drew_nil _))
  clear S0 CS
  go_region_held3 (fun wx => ((wx.cell? ⟨w.heap.size, 3, none⟩ = some (.bool A.neg) ∧ wx.cell? ⟨w.heap.size, 4, none⟩ = some (.string s2) ∧ wx.cell? ⟨w.heap.size, 5, none⟩ = some (.int .i64 A.e)) ∧ (wx.cell? ⟨w.heap.size, 6, none⟩ = some (.bool B.neg) ∧ wx.cell? ⟨w.heap.size, 7, none⟩ = some (.string s3) ∧ wx.cell? ⟨w.heap.size, 8, none⟩ = some (.int .i64 B.e)) ∧ wx.cell? ⟨w.heap.size, 9, none⟩ = some (.bool c)) ∧ (wx.cell? ⟨w.heap.size + 1, 0, none⟩ = some (.bool x.neg) ∧ wx.cell? ⟨w.heap.size + 1, 1, none⟩ = some (.string t) ∧ wx.cell? ⟨w.heap.size + 1, 2, none⟩ = some (.int .i64 x.e))) (first | (with_reducible exact FT.out _ T2.out) | (with_reducible exact FT.out _ T1.out) | (with_reducible exact FT.out _ T0.out)) (first
    | (go_at_call 63; (first
      | (with_reducible refine (O1.out _).mono ?_; rintro e w5 ⟨rfl, hB⟩; (first | (have T2 := hid (KS.out _ _ T1.out hB); clear hB) | (have T1 := hid (KS.out _ _ T0.out hB); clear hB)))
      | (with_reducible refine (O2.out _).mono ?_; rintro e w5 ⟨rfl, hB⟩; (first | (have T2 := hid (KS.out _ _ T1.out hB); clear hB) | (have T1 := hid (KS.out _ _ T0.out hB); clear hB))))))
  have K := hid (E.out _ (BS.out _ T2.out))
  obtain ⟨⟨-, -, c9⟩, -⟩ := FT.out _ T2.out
  clear E BS T0 T1 T2 FT KS O1 O2
  cases c
  · go_wp2_with fail
    all_goals go_ret
    all_goals
      refine ⟨(show Ending.returned (Value.bool _) = Ending.returned (Value.bool _) from congrArg (fun b => Ending.returned (Value.bool b)) ?_).trans K.out.1, K.out.2⟩
      rw [Bool.eq_iff_iff]
      simp
      try omega
  · go_wp2_with fail
    all_goals go_ret
    all_goals
      refine ⟨(show Ending.returned (Value.bool _) = Ending.returned (Value.bool _) from congrArg (fun b => Ending.returned (Value.bool b)) ?_).trans K.out.1, K.out.2⟩
      rw [Bool.eq_iff_iff]
      simp
      try omega
end Go.Proofs.YtjkefcikepnbpaaGreatDoor

namespace Go.Proofs.YtjkefcikepnbpaaGreatDoor
open Go Go.RowKit Go.Deep

namespace Sh
/-- What within tells. -/
noncomputable def wD (a : Int) (n : Nat) : Sc.D := match wn a n with | some U => dd U | none => ⟨false, [], 0⟩
noncomputable def wB (a : Int) (n : Nat) : Bool := (wn a n).isSome
theorem bd_room {U : Int} (h : 0 ≤ U) (hb : U < 10 ^ 1500) : Nm (dd U) := by
  have o := dd_is h
  have lo := o.1.lo
  rcases (show U = 0 ∨ 0 < U by omega) with c | c
  · rw [c, dd_zero]
    refine Ok.nm ⟨rfl, by show (-1075 : Int) ≤ 0; omega, .inl ⟨rfl, rfl⟩⟩ (by show (0 : Int) ≤ 100000; omega) (by simp)
  · obtain ⟨p1, p2, p3⟩ := place c
    have q := Fx.p_lt (Int.lt_of_le_of_lt p1 hb)
    have hp : pl U = (dd U).e + ((dd U).ds.length : Int) := rfl
    have := ln_pos h
    have hl : ln U = (dd U).ds.length := rfl
    exact o.1.nm (by omega) (by omega)
theorem V_lt {a : Int} (h0 : 0 ≤ a) (h1 : a < 9218868437227405312) : V a < 10 ^ 1384 := by
  have h2 := (Ie.vl_lt_iff (x := a) (y := 9218868437227405312) (by omega) (by omega)).2 h1
  have h3 : Ie.vl 9218868437227405312 = 2 ^ 2099 := by decide +kernel
  rw [h3] at h2
  have h4 := Int.mul_lt_mul_of_pos_right h2 T5_pos
  have h5 : (2 : Int) ^ 2099 * T5 ≤ 10 ^ 1384 := room_hi
  exact Int.lt_of_lt_of_le h4 h5
theorem B_lt {a : Int} (h0 : 0 ≤ a) (h1 : a < 9218868437227405312) : B a < 10 ^ 1384 := by
  have h2 := Ie.md_lt_vl a h0
  have h6 := Ie.vl_le (x := a + 1) (y := 9218868437227405312) (by omega) (by omega)
  have h3 : Ie.vl 9218868437227405312 = 2 ^ 2099 := by decide +kernel
  rw [h3] at h6
  have h4 := Int.mul_lt_mul_of_pos_right (Int.lt_of_lt_of_le h2 h6) T5_pos
  have h5 : (2 : Int) ^ 2099 * T5 ≤ 10 ^ 1384 := room_hi
  exact Int.lt_of_lt_of_le h4 h5
theorem p1384 : (10 : Int) ^ 1384 ≤ 10 ^ 1500 := Fx.p_le (by omega)
theorem nmV {a : Int} (h0 : 0 ≤ a) (h1 : a < 9218868437227405312) : Nm (dd (V a)) := bd_room (V_nn h0) (Int.lt_of_lt_of_le (V_lt h0 h1) p1384)
theorem B_nn {a : Int} (h0 : 0 ≤ a) : 0 ≤ B a := Int.le_of_lt (Int.lt_of_le_of_lt (V_nn h0) V_B)
theorem nmB {a : Int} (h0 : 0 ≤ a) (h1 : a < 9218868437227405312) : Nm (dd (B a)) := bd_room (B_nn h0) (Int.lt_of_lt_of_le (B_lt h0 h1) p1384)
theorem A_nn {a : Int} (h0 : 0 ≤ a) : 0 ≤ A a := by
  unfold A
  split
  · exact Int.le_refl _
  · exact B_nn (by omega)
theorem nmA {a : Int} (h0 : 0 ≤ a) (h1 : a < 9218868437227405312) : Nm (dd (A a)) := by
  refine bd_room (A_nn h0) ?_
  unfold A
  split
  · exact Int.lt_of_lt_of_le (Fx.p_pos 0) (Fx.p_le (by omega))
  · exact Int.lt_of_lt_of_le (B_lt (by omega) (by omega)) p1384
/-- Between the bounds, by Cmp. -/
theorem hD_in {a U : Int} (h0 : 0 ≤ a) (hU : 0 ≤ U) : hD (dd (A a)) (dd (B a)) (dd U) (decide (a % 2 = 0)) = inB a U := by
  have oA := dd_is (A_nn h0)
  have oB := dd_is (B_nn h0)
  have oU := dd_is hU
  unfold hD inB
  rw [cmp_uv oA.1 oU.1, cmp_uv oU.1 oB.1, oA.2, oB.2, oU.2]
  have c1 := Sc.cmpI_c (A a) U
  have c2 := Sc.cmpI_c U (B a)
  rw [Bool.eq_iff_iff]
  simp
  omega
end Sh

theorem heap_new2 (w : World) (A B : Obj) : ((w.alloc A).alloc B).heap[w.heap.size + 1]? = some B := by
  have h := heap_alloc_new (w.alloc A) B
  rwa [show (w.alloc A).heap.size = w.heap.size + 1 from Array.size_push ..] at h

def WnTold (a : Int) (n : Nat) (w : World) (e : Ending) (w' : World) : Prop :=
  ∃ t, e = .returned (.tuple #[.agg #[.bool (Sh.wD a n).neg, .string t, .int .i64 (Sh.wD a n).e], .bool (Sh.wB a n)]) ∧ Str t (Sh.wD a n).ds ∧ Below w.heap.size w w'

set_option maxRecDepth 100000 in
set_option maxHeartbeats 4000000 in
theorem zwithin_any (a : Int) (n : Nat) (s1 s2 s3 : ByteArray) (w : World) (h0 : 0 ≤ a) (hf : a < 9218868437227405312) (n1 : 1 ≤ n) (n2 : n ≤ 17) (htab : Tab10 w)
    (g1 : Str s1 (Sh.dd (Sh.V a)).ds) (g2 : Str s2 (Sh.dd (Sh.A a)).ds) (g3 : Str s3 (Sh.dd (Sh.B a)).ds) :
    Calls Tryz.prog 28 #[spanV (Sh.dd (Sh.V a)) (Sh.dd (Sh.A a)) (Sh.dd (Sh.B a)) s1 s2 s3 (decide (a % 2 = 0)), .int .i64 n] w fun e w' => WnTold a n w e w' := by
  have hsz := g1.size
  have nmv := Sh.nmV h0 hf
  have a1 := alloc_b w (.cells #[.bool (Sh.dd (Sh.V a)).neg, .string s1, .int .i64 (Sh.dd (Sh.V a)).e, .bool (Sh.dd (Sh.A a)).neg, .string s2, .int .i64 (Sh.dd (Sh.A a)).e, .bool (Sh.dd (Sh.B a)).neg, .string s3, .int .i64 (Sh.dd (Sh.B a)).e, .bool (decide (a % 2 = 0))] 51)
  have r1 := RB.new w 51 #[.bool (Sh.dd (Sh.V a)).neg, .string s1, .int .i64 (Sh.dd (Sh.V a)).e, .bool (Sh.dd (Sh.A a)).neg, .string s2, .int .i64 (Sh.dd (Sh.A a)).e, .bool (Sh.dd (Sh.B a)).neg, .string s3, .int .i64 (Sh.dd (Sh.B a)).e, .bool (decide (a % 2 = 0))]
  have TB := hid htab
  have LV : Hid ((Sh.dd (Sh.V a)).ds.length = Sh.ln (Sh.V a)) := rfl
  rw [LV.out] at hsz
  have lnb : Sh.ln (Sh.V a) ≤ 281474976710656 := nmv.len
  by_cases hl : Sh.ln (Sh.V a) ≤ n
  · have E : Hid (Sh.wD a n = Sh.dd (Sh.V a) ∧ Sh.wB a n = true) := by
      have e : Sh.wn a n = some (Sh.V a) := by rw [Sh.wn, if_pos hl]
      exact ⟨by rw [Sh.wD, e], by rw [Sh.wB, e]; rfl⟩
    have K : Hid (∀ w', Below w.heap.size w w' → WnTold a n w (.returned (.tuple #[.agg #[.bool (Sh.dd (Sh.V a)).neg, .string s1, .int .i64 (Sh.dd (Sh.V a)).e], .bool true])) w') := by
      intro w' hB
      exact ⟨s1, by rw [E.out.1, E.out.2], by rw [E.out.1]; exact g1, hB⟩
    have hle : (Sh.ln (Sh.V a) : Int) - (n : Int) ≤ 0 := by omega
    have HR := hid (And.intro r1 a1)
    clear E g1 g2 g3 nmv LV r1 a1 htab TB h0 hf
    unfold spanV
    generalize decide (a % 2 = 0) = cb at *
    generalize Sh.dd (Sh.V a) = DV at *
    generalize Sh.dd (Sh.A a) = DA at *
    generalize Sh.dd (Sh.B a) = DB at *
    generalize Sh.ln (Sh.V a) = L at *
    go_enter Tryz.func28, Tryz.ntmps28
    go_wp2_with fail
    (try simp only [Exit.inBlock, Exit.then])
    refine bodyPost_ret (fresults_row_tmp rfl _ _ (w.heap.size + 1) 25 _ (0, 0) _ rfl (heap_new2 w _ _) Tryz.underlying25 rfl (by kernel_rfl)) rfl ?_
    exact K.out _ (HR.out.2.trans ((alloc_b _ _).mono HR.out.2.size))
  · have hl2 : n < Sh.ln (Sh.V a) := by omega
    have ap : 0 < a := by
      rcases (show a = 0 ∨ 0 < a by omega) with c | c
      · rw [c, Sh.ln0] at hl2; omega
      · exact c
    have vp := Sh.V_pos ap
    obtain ⟨q1, q2, q3⟩ := Sh.head_is vp n1 hl2
    have kr := Sh.k_room ap n1 hl2
    obtain ⟨cut, hcut⟩ : ∃ cut : Nat, Sh.ln (Sh.V a) = n + cut := ⟨Sh.ln (Sh.V a) - n, by omega⟩
    have st' : Sh.st (Sh.V a) n = 10 ^ ((Sh.dd (Sh.V a)).e + (cut : Int) + 1075).toNat := by
      unfold Sh.st
      rw [hcut]
      congr 2
      omega
    have dgV : Digs (Sh.dd (Sh.V a)).ds := (Sh.dd_is (Int.le_of_lt vp)).1.digs.1
    have loV := (Sh.dd_is (Int.le_of_lt vp)).1.lo
    have Hb : dv ((Sh.dd (Sh.V a)).ds.take n) < 1000000000000000000 := by
      have := Fx.p_le (show n ≤ 17 by omega)
      rw [show (10 : Int) ^ 17 = 100000000000000000 by decide] at this
      omega
    have e1 := g1.extract 0 n
    rw [List.drop_zero, Nat.sub_zero] at e1
    have e2 := g1.extract n (Sh.ln (Sh.V a))
    rw [List.take_of_length_le (by rw [List.length_drop, LV.out]; omega)] at e2
    have PU := hid (fun wx : World => zparse_any (s1.extract 0 n) _ wx e1 (fun d hd => dgV d (List.mem_of_mem_take hd)) (by
      intro c
      have := congrArg List.length c
      rw [List.length_take, LV.out] at this
      simp at this
      omega) Hb (by rw [List.length_take]; omega))
    have EV : Hid (∀ t, Str t (Sh.wD a n).ds → ∀ w', Below w.heap.size w w' → WnTold a n w (.returned (.tuple #[.agg #[.bool (Sh.wD a n).neg, .string t, .int .i64 (Sh.wD a n).e], .bool (Sh.wB a n)])) w') := fun t ht w' hB => ⟨t, rfl, ht, hB⟩
    obtain ⟨H, hH⟩ : ∃ H, dv ((Sh.dd (Sh.V a)).ds.take n) = H := ⟨_, rfl⟩
    rw [hH] at q1 q2 q3 Hb PU
    have H0 : 0 ≤ H := by rw [q1]; exact Int.le_trans (by omega) kr.1
    obtain ⟨g5, hg5⟩ : ∃ g5, Sh.gt5 ((Sh.dd (Sh.V a)).ds.drop n) = g5 := ⟨_, rfl⟩
    obtain ⟨c5, hc5⟩ : ∃ c5, decide ((Sh.dd (Sh.V a)).ds.drop n = [53]) = c5 := ⟨_, rfl⟩
    obtain ⟨od, hod⟩ : ∃ od, decide (H % 2 = 1) = od := ⟨_, rfl⟩
    have hup : Sh.upB (Sh.V a) (Sh.st (Sh.V a) n) = (g5 || (c5 && od)) := by
      rw [← q2, ← hg5, ← hc5, ← hod, Bool.eq_iff_iff]
      simp
    have S0p := Sh.st_pos (Sh.V a) n
    obtain ⟨Hn, hHn⟩ : ∃ Hn : Nat, H = (Hn : Int) := ⟨H.toNat, by omega⟩
    have Hn1 : Hn + 1 ≤ 100000000000000000 := by
      have := kr.2.1
      rw [← q1] at this
      have := Fx.p_le (show n ≤ 17 by omega)
      rw [show (10 : Int) ^ 17 = 100000000000000000 by decide] at this
      omega
    have plb := Sh.V_place ap hf
    have hple : Sh.pl (Sh.V a) = (Sh.dd (Sh.V a)).e + (Sh.ln (Sh.V a) : Int) := rfl
    have qb : -1075 ≤ (Sh.dd (Sh.V a)).e + (cut : Int) ∧ (Sh.dd (Sh.V a)).e + (cut : Int) ≤ 1000 := by omega
    have FMT : ∀ (u : Nat), u ≤ 100000000000000000 → Hid (∀ wx : World, Tab10 wx → Calls Tryz.prog 48 #[.int .u64 (u : Int), .int .i64 10] wx fun e w' => ∃ t, e = .returned (.string t) ∧ Hid (Str t (Sc.dl u)) ∧ Below wx.heap.size wx w') := fun u hu wx ht => zfmt_any u wx (by omega) ht
    have NOR : ∀ (u : Nat), u ≤ 100000000000000000 → Hid (∀ (wx : World) (t : ByteArray), Hid (Str t (Sc.dl u)) → Calls Tryz.prog 47 #[.string t, .int .i64 ((Sh.dd (Sh.V a)).e + (cut : Int))] wx fun r w' => ∃ t', r = .returned (.agg #[.bool (Sh.dd ((u : Int) * Sh.st (Sh.V a) n)).neg, .string t', .int .i64 (Sh.dd ((u : Int) * Sh.st (Sh.V a) n)).e]) ∧ Hid (Str t' (Sh.dd ((u : Int) * Sh.st (Sh.V a) n)).ds) ∧ Below wx.heap.size wx w') := by
      intro u hu wx t ht
      have d := dl_dv u
      have h := fun wy : World => znormal_any t (Sc.dl u) ((Sh.dd (Sh.V a)).e + (cut : Int)) wy ht.out d.1 d.2.1 qb.1 (by omega) (by have := dl_len (u := u) (by omega); omega)
      rw [d.2.2, ← st'] at h
      exact dec_open h wx
    have HLD : ∀ (u : Nat), u ≤ 100000000000000000 → Hid (∀ (wx : World) (t : ByteArray), Hid (Str t (Sh.dd ((u : Int) * Sh.st (Sh.V a) n)).ds) → Calls Tryz.prog 41 #[spanV (Sh.dd (Sh.V a)) (Sh.dd (Sh.A a)) (Sh.dd (Sh.B a)) s1 s2 s3 (decide (a % 2 = 0)), .agg #[.bool (Sh.dd ((u : Int) * Sh.st (Sh.V a) n)).neg, .string t, .int .i64 (Sh.dd ((u : Int) * Sh.st (Sh.V a) n)).e]] wx fun e w' => e = .returned (.bool (Sh.inB a ((u : Int) * Sh.st (Sh.V a) n))) ∧ Below wx.heap.size wx w') := by
      intro u hu wx t ht
      have U0 : 0 ≤ (u : Int) * Sh.st (Sh.V a) n := Int.mul_nonneg (by omega) (Int.le_of_lt S0p)
      have Ub : (u : Int) * Sh.st (Sh.V a) n < 10 ^ 1500 := by
        have h1 : (u : Int) * Sh.st (Sh.V a) n ≤ 100000000000000000 * Sh.st (Sh.V a) n := Int.mul_le_mul_of_nonneg_right (by omega) (Int.le_of_lt S0p)
        have h2 : Sh.st (Sh.V a) n ≤ 10 ^ 1383 := by rw [Sh.st_pl]; exact Fx.p_le (by omega)
        have h3 : (100000000000000000 : Int) * 10 ^ 1383 = 10 ^ 1400 := by rw [show (100000000000000000 : Int) = 10 ^ 17 by decide, ← Int.pow_add]
        have h4 := Int.mul_le_mul_of_nonneg_left h2 (show (0 : Int) ≤ 100000000000000000 by omega)
        rw [h3] at h4
        have h5 : (10 : Int) ^ 1400 < 10 ^ 1401 := by
          rw [Int.pow_succ 10 1400]
          have := Fx.p_pos 1400
          generalize (10 : Int) ^ 1400 = z at *
          omega
        exact Int.lt_of_le_of_lt (Int.le_trans h1 h4) (Int.lt_of_lt_of_le h5 (Fx.p_le (by omega)))
      have h := zholds_any (Sh.dd (Sh.V a)) (Sh.dd (Sh.A a)) (Sh.dd (Sh.B a)) (Sh.dd ((u : Int) * Sh.st (Sh.V a) n)) (decide (a % 2 = 0)) s1 s2 s3 t wx (Sh.nmA h0 hf) (Sh.nmB h0 hf) (Sh.bd_room U0 Ub) g2 g3 ht.out
      rw [Sh.hD_in h0 U0] at h
      exact h
    have F1 := FMT Hn (by omega)
    have F2 := FMT (Hn + 1) (by omega)
    have N1 := NOR Hn (by omega)
    have N2 := NOR (Hn + 1) (by omega)
    have tn1 : ((Hn : Int)).toNat = Hn := by omega
    have tn2 : ((Hn : Int) + 1).toNat = Hn + 1 := by omega
    rw [← tn1] at F1 N1
    rw [← tn2] at F2 N2
    rw [show (((Hn : Int).toNat : Nat) : Int) = (Hn : Int) by omega] at F1 N1
    rw [show ((((Hn : Int) + 1).toNat : Nat) : Int) = ((Hn + 1 : Nat) : Int) by omega] at F2 N2
    clear tn1 tn2
    have L1 := HLD Hn (by omega)
    have L2 := HLD (Hn + 1) (by omega)
    have WN : Sh.wn a n = if Sh.inB a (Sh.k1 (Sh.V a) (Sh.st (Sh.V a) n) * Sh.st (Sh.V a) n) = true then some (Sh.k1 (Sh.V a) (Sh.st (Sh.V a) n) * Sh.st (Sh.V a) n) else if Sh.inB a (Sh.k2 (Sh.V a) (Sh.st (Sh.V a) n) * Sh.st (Sh.V a) n) = true then some (Sh.k2 (Sh.V a) (Sh.st (Sh.V a) n) * Sh.st (Sh.V a) n) else none := by rw [Sh.wn, if_neg hl]
    have K1 : Sh.k1 (Sh.V a) (Sh.st (Sh.V a) n) = if (g5 || (c5 && od)) = true then ((Hn + 1 : Nat) : Int) else (Hn : Int) := by
      unfold Sh.k1
      rw [hup, ← q1, hHn]
      rfl
    have K2 : Sh.k2 (Sh.V a) (Sh.st (Sh.V a) n) = if (g5 || (c5 && od)) = true then (Hn : Int) else ((Hn + 1 : Nat) : Int) := by
      unfold Sh.k2
      rw [hup, ← q1, hHn]
      rfl
    have HR := hid (And.intro r1 a1)
    have TLS : Hid (Str (s1.extract n (n + cut)) ((Sh.dd (Sh.V a)).ds.drop n)) := by rw [← hcut]; exact e2
    have esz : s1.size = n + cut := by rw [hsz, hcut]
    have tne : (Sh.dd (Sh.V a)).ds.drop n ≠ [] := by
      intro c
      have := congrArg List.length c
      rw [List.length_drop, LV.out] at this
      simp at this
      omega
    have gg := gt53 TLS.out tne
    rw [hg5, hc5] at gg
    have GT : binOp .gtr 9 (.string (s1.extract n (n + cut))) (.string ⟨#[53]⟩) = pure (.bool g5) := by
      rw [← gg.1]
      simp [binOp, Op.stringOp]
    have EQ : ((s1.extract n (n + cut)).toList == [53]) = c5 := gg.2
    clear gg tne
    have OD : (((Hn : Int) % 2) == 1) = od := by
      rw [← hod, hHn]
      by_cases c : (Hn : Int) % 2 = 1 <;> simp [c]
    rw [hHn] at PU
    unfold spanV
    unfold spanV at L1 L2
    clear r1 a1 nmv FMT NOR HLD st' dgV loV e1 e2 g1 g2 g3 q1 q2 q3 kr vp Hb hup hg5 hc5 hod hHn H0 S0p plb hple TLS htab
    have cutp : 0 < cut := by omega
    generalize hcb : decide (a % 2 = 0) = cb at *
    generalize hDV : Sh.dd (Sh.V a) = DV at *
    generalize hDA : Sh.dd (Sh.A a) = DA at *
    generalize hDB : Sh.dd (Sh.B a) = DB at *
    clear hcb hDV hDA hDB
    go_enter Tryz.func28, Tryz.ntmps28
    go_wp2_with fail
    refine (PU.out _).mono ?_
    rintro e w1 ⟨rfl, B1⟩
    have HB1 := hid B1
    clear B1 PU
    have CUT : (n : Int) + (cut : Int) - (n : Int) = (cut : Int) := by omega
    have a2 := alloc_b (w.alloc (.cells #[.bool DV.neg, .string s1, .int .i64 DV.e, .bool DA.neg, .string s2, .int .i64 DA.e, .bool DB.neg, .string s3, .int .i64 DB.e, .bool cb] 51)) (.cells #[.bool false, .string ⟨#[]⟩, .int .i64 0] 25)
    have b2 := HR.out.2.trans (a2.mono HR.out.2.size)
    have rS := (HR.out.1.below a2 HR.out.1.lt).below HB1.out (RB.lt (HR.out.1.below a2 HR.out.1.lt))
    have rR : FR3 w1 (w.heap.size + 1) (.bool false) (.string ⟨#[]⟩) (.int .i64 0) := RB.below (b := w.heap.size + 1) (heap_new2 w _ _) HB1.out (RB.lt (b := w.heap.size + 1) (heap_new2 w _ _))
    have tT := tab10_below (tab10_below TB.out b2) HB1.out
    have bW := b2.trans (HB1.out.mono b2.size)
    obtain ⟨SS, KS, CS, PS, ZS, S1⟩ : ∃ SS : World → Prop, Hid (∀ wx w', SS wx → Below wx.heap.size wx w' → SS w') ∧ Hid (∀ wx, SS wx → ((wx.cell? ⟨w.heap.size, 0, none⟩ = some (.bool DV.neg) ∧ wx.cell? ⟨w.heap.size, 1, none⟩ = some (.string s1) ∧ wx.cell? ⟨w.heap.size, 2, none⟩ = some (.int .i64 DV.e) ∧ wx.cell? ⟨w.heap.size, 3, none⟩ = some (.bool DA.neg) ∧ wx.cell? ⟨w.heap.size, 4, none⟩ = some (.string s2) ∧ wx.cell? ⟨w.heap.size, 5, none⟩ = some (.int .i64 DA.e) ∧ wx.cell? ⟨w.heap.size, 6, none⟩ = some (.bool DB.neg) ∧ wx.cell? ⟨w.heap.size, 7, none⟩ = some (.string s3) ∧ wx.cell? ⟨w.heap.size, 8, none⟩ = some (.int .i64 DB.e) ∧ wx.cell? ⟨w.heap.size, 9, none⟩ = some (.bool cb)) ∧ (FR3 wx (w.heap.size + 1) (.bool false) (.string ⟨#[]⟩) (.int .i64 0)) ∧ Tab10 wx ∧ Below w.heap.size w wx)) ∧ Hid (∀ wx b u0 u1 u2, SS wx → w1.heap.size ≤ b → SS (((wx.setCell ⟨b, 0, none⟩ u0).setCell ⟨b, 1, none⟩ u1).setCell ⟨b, 2, none⟩ u2)) ∧ Hid (∀ wx, SS wx → w1.heap.size ≤ wx.heap.size) ∧ Hid (SS w1) :=
      ⟨fun wx => Below w1.heap.size w1 wx, fun _ _ h k => h.trans (k.mono h.size), fun wx h => ⟨(fun r => ⟨r.cell 0 _ rfl, r.cell 1 _ rfl, r.cell 2 _ rfl, r.cell 3 _ rfl, r.cell 4 _ rfl, r.cell 5 _ rfl, r.cell 6 _ rfl, r.cell 7 _ rfl, r.cell 8 _ rfl, r.cell 9 _ rfl⟩) (rS.below h rS.lt), rR.below h rR.lt, tab10_below tT h, bW.trans (h.mono bW.size)⟩, fun wx b u0 u1 u2 h hb => fset3_below h hb, fun _ h => h.size, Below.refl _ _⟩
    have c1 := (CS.out _ S1.out).1.2.1
    clear a2 b2 HR HB1 TB rS rR tT bW
    have IX0 : ∀ (x y : Int) (wx : World), (Instr.index 81 (.agg #[.int .u64 x, .int .u64 y]) (.int .i64 0)).run Tryz.prog wx = .ok (.int .u64 x) wx := fun _ _ _ => by kernel_rfl
    have IX1 : ∀ (x y : Int) (wx : World), (Instr.index 81 (.agg #[.int .u64 x, .int .u64 y]) (.int .i64 1)).run Tryz.prog wx = .ok (.int .u64 y) wx := fun _ _ _ => by kernel_rfl
    have qb1 := qb.1
    have qb2 := qb.2
    have WQ : IntKind.i64.wrap (DV.e + (cut : Int)) = DV.e + (cut : Int) := by rw [IntKind.wrap_i64]; omega
    have HC2 : (((Hn + 1 : Nat) : Int)) = (Hn : Int) + 1 := by omega
    rw [HC2] at F2 N2 L2 K1 K2
    obtain ⟨up, hup⟩ : ∃ up, (g5 || (c5 && od)) = up := ⟨_, rfl⟩
    rw [hup] at K1 K2
    obtain ⟨X, Y, DX, DY, JX, JY, REL, FX, NX, LX, FY, NY, LY, KK⟩ : ∃ (X Y : Int) (DX DY : Sc.D) (JX JY : Bool), Hid ((up = true ∧ X = (Hn : Int) + 1 ∧ Y = (Hn : Int)) ∨ (up = false ∧ X = (Hn : Int) ∧ Y = (Hn : Int) + 1))
        ∧ Hid (∀ wx : World, Tab10 wx → Calls Tryz.prog 48 #[.int .u64 X, .int .i64 10] wx fun e w' => ∃ t, e = .returned (.string t) ∧ Hid (Str t (Sc.dl X.toNat)) ∧ Below wx.heap.size wx w') ∧ Hid (∀ (wx : World) (t : ByteArray), Hid (Str t (Sc.dl X.toNat)) → Calls Tryz.prog 47 #[.string t, .int .i64 (DV.e + (cut : Int))] wx fun r w' => ∃ t', r = .returned (.agg #[.bool DX.neg, .string t', .int .i64 DX.e]) ∧ Hid (Str t' DX.ds) ∧ Below wx.heap.size wx w') ∧ Hid (∀ (wx : World) (t : ByteArray), Hid (Str t DX.ds) → Calls Tryz.prog 41 #[.agg #[.bool DV.neg, .string s1, .int .i64 DV.e, .bool DA.neg, .string s2, .int .i64 DA.e, .bool DB.neg, .string s3, .int .i64 DB.e, .bool cb], .agg #[.bool DX.neg, .string t, .int .i64 DX.e]] wx fun e w' => e = .returned (.bool JX) ∧ Below wx.heap.size wx w') ∧ Hid (∀ wx : World, Tab10 wx → Calls Tryz.prog 48 #[.int .u64 Y, .int .i64 10] wx fun e w' => ∃ t, e = .returned (.string t) ∧ Hid (Str t (Sc.dl Y.toNat)) ∧ Below wx.heap.size wx w') ∧ Hid (∀ (wx : World) (t : ByteArray), Hid (Str t (Sc.dl Y.toNat)) → Calls Tryz.prog 47 #[.string t, .int .i64 (DV.e + (cut : Int))] wx fun r w' => ∃ t', r = .returned (.agg #[.bool DY.neg, .string t', .int .i64 DY.e]) ∧ Hid (Str t' DY.ds) ∧ Below wx.heap.size wx w') ∧ Hid (∀ (wx : World) (t : ByteArray), Hid (Str t DY.ds) → Calls Tryz.prog 41 #[.agg #[.bool DV.neg, .string s1, .int .i64 DV.e, .bool DA.neg, .string s2, .int .i64 DA.e, .bool DB.neg, .string s3, .int .i64 DB.e, .bool cb], .agg #[.bool DY.neg, .string t, .int .i64 DY.e]] wx fun e w' => e = .returned (.bool JY) ∧ Below wx.heap.size wx w')
        ∧ Hid ((JX = true → ∀ t, Hid (Str t DX.ds) → ∀ w', Below w.heap.size w w' → WnTold a n w (.returned (.tuple #[.agg #[.bool DX.neg, .string t, .int .i64 DX.e], .bool true])) w') ∧ (JX = false → JY = true → ∀ t, Hid (Str t DY.ds) → ∀ w', Below w.heap.size w w' → WnTold a n w (.returned (.tuple #[.agg #[.bool DY.neg, .string t, .int .i64 DY.e], .bool true])) w') ∧ (JX = false → JY = false → ∀ w', Below w.heap.size w w' → WnTold a n w (.returned (.tuple #[.agg #[.bool false, .string ⟨#[]⟩, .int .i64 0], .bool false])) w')) := by
      have TOLD : ∀ U, Sh.wn a n = some U → ∀ t, Hid (Str t (Sh.dd U).ds) → ∀ w', Below w.heap.size w w' → WnTold a n w (.returned (.tuple #[.agg #[.bool (Sh.dd U).neg, .string t, .int .i64 (Sh.dd U).e], .bool true])) w' := by
        intro U e t ht w' hB
        have e1 : Sh.wD a n = Sh.dd U := by rw [Sh.wD, e]
        have e2 : Sh.wB a n = true := by rw [Sh.wB, e]; rfl
        exact ⟨t, by rw [e1, e2], by rw [e1]; exact ht.out, hB⟩
      have NONE : Sh.wn a n = none → ∀ w', Below w.heap.size w w' → WnTold a n w (.returned (.tuple #[.agg #[.bool false, .string ⟨#[]⟩, .int .i64 0], .bool false])) w' := by
        intro e w' hB
        have e1 : Sh.wD a n = ⟨false, [], 0⟩ := by rw [Sh.wD, e]
        have e2 : Sh.wB a n = false := by rw [Sh.wB, e]; rfl
        exact ⟨⟨#[]⟩, by rw [e1, e2], by rw [e1]; rfl, hB⟩
      cases up
      · rw [if_neg Bool.false_ne_true] at K1 K2
        rw [K1, K2] at WN
        refine ⟨_, _, _, _, _, _, .inr ⟨rfl, rfl, rfl⟩, F1, N1, L1, F2, N2, L2, fun j => TOLD _ (by rw [WN, if_pos j]), fun j k => TOLD _ (by rw [WN, if_neg (by rw [j]; decide), if_pos k]), fun j k => NONE (by rw [WN, if_neg (by rw [j]; decide), if_neg (by rw [k]; decide)])⟩
      · rw [if_pos rfl] at K1 K2
        rw [K1, K2] at WN
        refine ⟨_, _, _, _, _, _, .inl ⟨rfl, rfl, rfl⟩, F2, N2, L2, F1, N1, L1, fun j => TOLD _ (by rw [WN, if_pos j]), fun j k => TOLD _ (by rw [WN, if_neg (by rw [j]; decide), if_pos k]), fun j k => NONE (by rw [WN, if_neg (by rw [j]; decide), if_neg (by rw [k]; decide)])⟩
    clear HC2 qb F1 F2 N1 N2 L1 L2 K1 K2 WN EV hl hl2 ap h0 hf lnb hcut hsz LV
    go_upto_region 7 with fail
    go_cut [52] from 42 to 51 (fun b wx => b = .bool up ∧ wx = w1)
    case first =>
      subst hup
      cases g5
      · cases c5
        · go_wp2_with fail
          go_meet
          exact ⟨rfl, rfl⟩
        · go_wp2_with fail
          go_meet
          exact ⟨by simp, rfl⟩
      · go_wp2_with fail
        go_meet
        exact ⟨rfl, rfl⟩
    obtain ⟨h52, hwc⟩ := hcut
    subst h52
    subst hwc
    go_upto_if 52 with fail
    go_cut [9, 10] from 53 to 54 (fun x y wx => x = .int .u64 X ∧ y = .int .u64 Y ∧ wx = wc)
    case first =>
      rcases REL.out with ⟨r1, r2, r3⟩ | ⟨r1, r2, r3⟩
      · subst r1; subst r2; subst r3
        go_wp2_with fail
        go_meet
        exact ⟨rfl, rfl, rfl⟩
      · subst r1; subst r2; subst r3
        go_wp2_with fail
        go_meet
        exact ⟨rfl, rfl, rfl⟩
    obtain ⟨h9, h10, hw⟩ := hcut
    subst h9
    subst h10
    subst hw
    have TQ : Hid (∀ wx : World, SS wx → Tab10 wx) := fun wx h => (CS.out wx h).2.2.1
    have FT : Hid (∀ wx : World, SS wx → wx.cell? ⟨w.heap.size, 2, none⟩ = some (.int .i64 DV.e)) := fun wx h => (CS.out wx h).1.2.2.1
    have KA : Hid (∀ (wx : World), SS wx → SS (wx.alloc (.cells #[.bool false, .string ⟨#[]⟩, .int .i64 0] 25))) := fun wx h => KS.out _ _ h (alloc_b _ _)
    have RD : Hid (∀ (wx w' : World), Below ((wx.alloc (.cells #[.bool false, .string ⟨#[]⟩, .int .i64 0] 25)).drew).heap.size (wx.alloc (.cells #[.bool false, .string ⟨#[]⟩, .int .i64 0] 25)).drew w' → FR3 w' wx.heap.size (.bool false) (.string ⟨#[]⟩) (.int .i64 0)) := fun wx w' h => FR3.below (w := (wx.alloc (.cells #[.bool false, .string ⟨#[]⟩, .int .i64 0] 25)).drew) (FR3.new wx _ _ _) h (FR3.new wx _ _ _).lt
    have RN : Hid (∀ (wx w' : World), Below (wx.alloc (.cells #[.bool false, .string ⟨#[]⟩, .int .i64 0] 25)).heap.size (wx.alloc (.cells #[.bool false, .string ⟨#[]⟩, .int .i64 0] 25)) w' → FR3 w' wx.heap.size (.bool false) (.string ⟨#[]⟩) (.int .i64 0)) := fun wx w' h => (FR3.new wx _ _ _).below h (FR3.new wx _ _ _).lt
    have RC : Hid (∀ (wx w' : World) (b : Nat), Hid (FR3 wx b (.bool false) (.string ⟨#[]⟩) (.int .i64 0)) → Below wx.heap.size wx w' → FR3 w' b (.bool false) (.string ⟨#[]⟩) (.int .i64 0)) := fun wx w' b h k => h.out.below k h.out.lt
    clear c1 GT EQ OD REL hup g5 c5 od
    go_wp2_with fail
    refine wp_loop_rounds 3 ?_
    rw [rounds_succ]
    go_upto_region 12 with fail
    go_cut [14] from 61 to 68 (fun p wx => ∃ b t, p = .pointer (some ⟨b, 0, none⟩) ∧ Hid (SS wx ∧ RB wx b 25 #[.bool DX.neg, .string t, .int .i64 DX.e] ∧ Hid (Str t DX.ds)))
    case first =>
      have T0 := hid (KS.out _ _ S1.out (drew_nil _))
      have TA := hid (KS.out _ _ (KA.out _ S1.out) (drew_nil _))
      have d2 := FT.out _ T0.out
      have d1 := FT.out _ S1.out
      have dA := FT.out _ TA.out
      go_region_with (first
        | (go_at_call 48; (first
          | (with_reducible refine (FX.out _ (TQ.out _ T0.out)).mono ?_; rintro e w5 ⟨t5, rfl, HT5, hB⟩; have T1 := hid (KS.out _ _ T0.out hB); have d5 := FT.out _ T1.out; have d5a := FT.out _ (KA.out _ T1.out); clear hB)
          | (with_reducible refine (FX.out _ (TQ.out _ TA.out)).mono ?_; rintro e w5 ⟨t5, rfl, HT5, hB⟩; have T1 := hid (KS.out _ _ TA.out hB); have d5 := FT.out _ T1.out; have d5a := FT.out _ (KA.out _ T1.out); have RR := hid (RD.out _ _ hB); clear hB)))
        | (go_at_call 47; with_reducible refine (NX.out _ _ HT5).mono ?_; rintro e w6 ⟨t6, rfl, HT6, hB⟩; (first
          | (have R6 := hid (RC.out _ _ _ RR hB); have T2 := hid (KS.out _ _ T1.out hB); obtain ⟨⟨x0, x1, x2⟩, y0, y1, y2⟩ := R6.out.cells; clear hB)
          | (have T2 := hid (KS.out _ _ T1.out hB); clear hB)
          | (have R6 := hid (RN.out _ _ hB); have T2 := hid (KS.out _ _ (KA.out _ T1.out) hB); obtain ⟨⟨x0, x1, x2⟩, y0, y1, y2⟩ := R6.out.cells; clear hB))))
      all_goals
        go_wp2_with fail
        go_meet
        first
          | exact ⟨_, t6, rfl, KS.out _ _ T2.out (alloc_b _ _), RB.new w6 _ _, HT6⟩
          | exact ⟨_, t6, rfl, PS.out _ _ _ _ _ T2.out (ZS.out _ T1.out), R6.out.put _ _ _, HT6⟩
          | exact ⟨_, t6, rfl, PS.out _ _ _ _ _ T2.out (ZS.out _ S1.out), R6.out.put _ _ _, HT6⟩
    obtain ⟨b, t, hp, HC⟩ := hcut
    subst hp
    obtain ⟨z0, z1, z2, z3, z4, z5, z6, z7, z8, z9⟩ := (CS.out _ HC.out.1).1
    have x0 := HC.out.2.1.cell 0 _ rfl
    have x1 := HC.out.2.1.cell 1 _ rfl
    have x2 := HC.out.2.1.cell 2 _ rfl
    go_wp2_with fail
    refine (LX.out _ _ HC.out.2.2).mono ?_
    rintro e w7 ⟨rfl, hB⟩
    have S7 := hid (KS.out _ _ HC.out.1 hB)
    have R7 := hid (HC.out.2.1.below hB (RB.lt HC.out.2.1))
    have HT7 := HC.out.2.2
    clear hB HC z0 z1 z2 z3 z4 z5 z6 z7 z8 z9 x0 x1 x2
    cases JX
    · go_wp2_with fail
      rw [rounds_succ]
      have S8 := S7
      clear S7 R7 HT7
      go_upto_region 12 with fail
      go_cut [14] from 61 to 68 (fun p wx => ∃ b t, p = .pointer (some ⟨b, 0, none⟩) ∧ Hid (SS wx ∧ RB wx b 25 #[.bool DY.neg, .string t, .int .i64 DY.e] ∧ Hid (Str t DY.ds)))
      case first =>
        have T0 := hid (KS.out _ _ S8.out (drew_nil _))
        have TA := hid (KS.out _ _ (KA.out _ S8.out) (drew_nil _))
        have d2 := FT.out _ T0.out
        have d1 := FT.out _ S8.out
        have dA := FT.out _ TA.out
        go_region_with (first
          | (go_at_call 48; (first
            | (with_reducible refine (FY.out _ (TQ.out _ T0.out)).mono ?_; rintro e w5 ⟨t5, rfl, HT5, hB⟩; have T1 := hid (KS.out _ _ T0.out hB); have d5 := FT.out _ T1.out; have d5a := FT.out _ (KA.out _ T1.out); clear hB)
            | (with_reducible refine (FY.out _ (TQ.out _ TA.out)).mono ?_; rintro e w5 ⟨t5, rfl, HT5, hB⟩; have T1 := hid (KS.out _ _ TA.out hB); have d5 := FT.out _ T1.out; have d5a := FT.out _ (KA.out _ T1.out); have RR := hid (RD.out _ _ hB); clear hB)))
          | (go_at_call 47; with_reducible refine (NY.out _ _ HT5).mono ?_; rintro e w6 ⟨t6, rfl, HT6, hB⟩; (first
            | (have R6 := hid (RC.out _ _ _ RR hB); have T2 := hid (KS.out _ _ T1.out hB); obtain ⟨⟨x0, x1, x2⟩, y0, y1, y2⟩ := R6.out.cells; clear hB)
            | (have T2 := hid (KS.out _ _ T1.out hB); clear hB)
            | (have R6 := hid (RN.out _ _ hB); have T2 := hid (KS.out _ _ (KA.out _ T1.out) hB); obtain ⟨⟨x0, x1, x2⟩, y0, y1, y2⟩ := R6.out.cells; clear hB))))
        all_goals
          go_wp2_with fail
          go_meet
          first
            | exact ⟨_, t6, rfl, KS.out _ _ T2.out (alloc_b _ _), RB.new w6 _ _, HT6⟩
            | exact ⟨_, t6, rfl, PS.out _ _ _ _ _ T2.out (ZS.out _ T1.out), R6.out.put _ _ _, HT6⟩
            | exact ⟨_, t6, rfl, PS.out _ _ _ _ _ T2.out (ZS.out _ S8.out), R6.out.put _ _ _, HT6⟩
      obtain ⟨b, t, hp, HC⟩ := hcut
      subst hp
      obtain ⟨z0, z1, z2, z3, z4, z5, z6, z7, z8, z9⟩ := (CS.out _ HC.out.1).1
      have x0 := HC.out.2.1.cell 0 _ rfl
      have x1 := HC.out.2.1.cell 1 _ rfl
      have x2 := HC.out.2.1.cell 2 _ rfl
      go_wp2_with fail
      refine (LY.out _ _ HC.out.2.2).mono ?_
      rintro e w7 ⟨rfl, hB⟩
      have S7 := hid (KS.out _ _ HC.out.1 hB)
      have R7 := hid (HC.out.2.1.below hB (RB.lt HC.out.2.1))
      have HT7 := HC.out.2.2
      clear hB HC z0 z1 z2 z3 z4 z5 z6 z7 z8 z9 x0 x1 x2
      cases JY
      · go_wp2_with fail
        rw [rounds_succ]
        obtain ⟨-, fr, -, hbw⟩ := CS.out _ S7.out
        have FR := hid fr
        have BW := hid hbw
        obtain ⟨⟨r0, r1, r2⟩, s0, s1, s2⟩ := fr.cells
        clear fr hbw
        go_wp2_with fail
        (try simp only [Exit.inBlock, Exit.then])
        refine bodyPost_ret (fresults_row_tmp rfl _ _ (w.heap.size + 1) 25 _ (0, 0) _ rfl (FR.out.put _ _ _) Tryz.underlying25 rfl (by kernel_rfl)) rfl ?_
        exact KK.out.2.2 (by trivial) (by trivial) _ (fset3_below BW.out (by omega))
      · have x0 := R7.out.cell 0 _ rfl
        have x1 := R7.out.cell 1 _ rfl
        have x2 := R7.out.cell 2 _ rfl
        obtain ⟨-, fr, -, hbw⟩ := CS.out _ S7.out
        have FR := hid fr
        have BW := hid hbw
        obtain ⟨⟨r0, r1, r2⟩, s0, s1, s2⟩ := fr.cells
        clear fr hbw
        go_wp2_with fail
        (try simp only [Exit.inBlock, Exit.then])
        refine bodyPost_ret (fresults_row_tmp rfl _ _ (w.heap.size + 1) 25 _ (0, 0) _ rfl (FR.out.put _ _ _) Tryz.underlying25 rfl (by kernel_rfl)) rfl ?_
        exact KK.out.2.1 (by trivial) (by trivial) _ HT7 _ (fset3_below BW.out (by omega))
    · have x0 := R7.out.cell 0 _ rfl
      have x1 := R7.out.cell 1 _ rfl
      have x2 := R7.out.cell 2 _ rfl
      obtain ⟨-, fr, -, hbw⟩ := CS.out _ S7.out
      have FR := hid fr
      have BW := hid hbw
      obtain ⟨⟨r0, r1, r2⟩, s0, s1, s2⟩ := fr.cells
      clear fr hbw
      go_wp2_with fail
      (try simp only [Exit.inBlock, Exit.then])
      refine bodyPost_ret (fresults_row_tmp rfl _ _ (w.heap.size + 1) 25 _ (0, 0) _ rfl (FR.out.put _ _ _) Tryz.underlying25 rfl (by kernel_rfl)) rfl ?_
      exact KK.out.1 (by trivial) _ HT7 _ (fset3_below BW.out (by omega))
end Go.Proofs.YtjkefcikepnbpaaGreatDoor
