import Derived.Test.YtjebdobopechfabDoorXOpr
import Derived.Test.YtjebdobopechfabDoorYSR
import Derived.Deep.RegionWith
import Derived.Deep.CutRange
import Derived.Deep.CutBlock
/-
  SoftNearRoot (made by mkyroot.py).
-/
namespace Go.Proofs.YtjebdobopechfabDoor
open Go Go.RowKit Go.Deep

theorem drew_refl (w : World) : Below w.heap.size w w.drew := ⟨rfl, rfl, rfl, Nat.le_refl _, fun _ _ => rfl⟩

/-- A num above nothing is told. -/
def NumPos (V : Int) (w : World) (e : Ending) (w' : World) : Prop :=
  ∃ neg p os, e = .returned (numOf neg p (List.length os) (List.length os)) ∧ Ans w.heap.size w' p os V ∧ Below w.heap.size w w'

theorem NumIs.pos {z V : Int} {w : World} {e : Ending} {w' : World} (h : NumIs z w e w') (hz : Ie.az z = V) : NumPos V w e w' := by
  obtain ⟨n, p, os, V', rfl, A, h1, h2, hB⟩ := h
  have : V' = V := by rw [← hz, ← h1, Ie.az_sn n V' h2]
  subst this
  exact ⟨n, p, os, rfl, A, hB⟩

theorem ab_lit {x : Int} (h0 : 0 ≤ x) (h1 : x < 9223372036854775808) : Ie.ab x = x ∧ Ie.ngd x = false := Ie.ab_sb false x h0 h1

theorem ab_fin {x : Int} (h0 : 0 ≤ x) (h1 : x < 9218868437227405312) : Ie.fin x := by rw [Ie.fin, (ab_lit h0 (by omega)).1]; exact h1

theorem ab_isn {x : Int} (h0 : 0 ≤ x) (h1 : x ≤ 9218868437227405312) : Ie.isn x = false := by rw [Ie.isn, (ab_lit h0 (by omega)).1, decide_eq_false_iff_not]; omega

theorem up_lit (s : Int) (w : World) (h0 : 0 < s) (h1 : s < 9218868437227405312) : Calls Tryd.prog 15 #[.int .u64 s] w fun e w' => e = .returned (.int .u64 (s + 1)) ∧ w' = w := by
  have := up_any s w (by omega) (by omega)
  rw [show Ie.upd s = s + 1 from by
    have h := Ie.upd_sb false s (by omega) (by omega)
    simp only [Ie.sb, Bool.false_eq_true, if_false] at h
    rw [h, if_neg (by omega)]] at this
  exact this

theorem down_lit (s : Int) (w : World) (h0 : 0 < s) (h1 : s < 9218868437227405312) : Calls Tryd.prog 16 #[.int .u64 s] w fun e w' => e = .returned (.int .u64 (s - 1)) ∧ w' = w := by
  have := down_any s w (by omega) (by omega)
  rw [show Ie.dnd s = s - 1 from by
    have h := Ie.dnd_sb false s (by omega) (by omega)
    simp only [Ie.sb, Bool.false_eq_true, if_false] at h
    rw [h, if_neg (by omega)]] at this
  exact this

theorem units_lit (s : Int) (w : World) (h0 : 0 ≤ s) (h1 : s ≤ 9218868437227405312) : Calls Tryd.prog 13 #[.int .u64 s] w fun e w' => ∃ p os, e = .returned (numOf false p (List.length os) (List.length os)) ∧ Ans w.heap.size w' p os (Ie.un s) ∧ Below w.heap.size w w' := by
  have h := units_any s w h0 (by omega) (ab_isn h0 h1)
  obtain ⟨e1, e2⟩ := ab_lit h0 (show s < 9223372036854775808 by omega)
  simp only [UnitsTold, e1, e2] at h
  exact h

theorem plus_pos {s t M : Int} {w : World} {px py : Option Addr} {ox oy : List Int} {B B' : Nat} (s0 : 0 ≤ s) (s1 : s < 9218868437227405312) (hM : M = Ie.un s + Ie.un t) (A1 : Ans B w px ox (Ie.un s)) (A2 : Ans B' w py oy (Ie.un t)) (t0 : 0 ≤ t) (t1 : t ≤ 9218868437227405312) :
    Calls Tryd.prog 14 #[numOf false px ox.length ox.length, numOf false py oy.length oy.length] w fun e w' => NumPos M w e w' := by
  subst hM
  have u1 := Ie.un_lt_inf s0 (Int.le_of_lt s1)
  have u2 := Ie.un_lt_inf t0 t1
  have m9 := Nm.two_mono (show 2099 ≤ 9000 by omega)
  refine (yplus_any false false px py ox oy _ _ B B' w A1 A2 (by omega) (by omega)).mono fun e w' h => h.pos ?_
  have := Ie.un_nn s0
  have := Ie.un_nn t0
  rw [Ie.sn_false, Ie.sn_false]
  simp only [Ie.az]; split <;> omega

theorem md_bd {s : Int} (s0 : 0 ≤ s) (s1 : s < 9218868437227405312) : Ie.md s < 2 ^ 2101 := by
  have u1 := Ie.un_lt_inf s0 (Int.le_of_lt s1)
  have u2 := Ie.un_lt_inf (show 0 ≤ s + 1 by omega) (show s + 1 ≤ 9218868437227405312 by omega)
  rw [Ie.md_un s s0]
  have e : (2 : Int) ^ 2101 = 4 * 2 ^ 2099 := by rw [show 2101 = 2 + 2099 by rfl, Nm.two_add]; rfl
  have := Nm.two_pos 2099
  omega

theorem times_sq (n : Bool) (p : Option Addr) (os : List Int) (M : Int) (B : Nat) (w : World) (A : Ans B w p os M) (hM : M < 2 ^ 2101) :
    Calls Tryd.prog 18 #[numOf n p os.length os.length, numOf n p os.length os.length] w fun e w' => NumPos (M * M) w e w' := by
  have m9 := Nm.two_mono (show 2101 ≤ 4500 by omega)
  have v0 : 0 ≤ M := by rw [← A.2.2.2.1]; exact (Nm.val_bd os A.2.1).1
  refine (ytimes_any n n p p os os M M B B w A A (by omega) (by omega)).mono fun e w' h => h.pos ?_
  rw [Ie.sn_mul, Ie.az_sn _ _ (Int.mul_nonneg v0 v0)]

theorem sq_bd {M : Int} (h0 : 0 < M) (h : M < 2 ^ 2101) : M * M < 2 ^ 9000 := by
  have h1 := Ie.sq_lt (by omega) h
  rw [← Nm.two_add] at h1
  have := Nm.two_mono (show 2101 + 2101 ≤ 9000 by omega)
  omega

theorem cmp_sq {W X c : Int} {w : World} {p q : Option Addr} {ps qs : List Int} {B B' : Nat} (hc : cmpI W X = c) (bW : W < 2 ^ 9000) (bX : X < 2 ^ 9000) (A1 : Ans B w p ps W) (A2 : Ans B' w q qs X) :
    Calls Tryd.prog 17 #[.slice p ps.length ps.length, .slice q qs.length qs.length] w fun e w' => e = .returned (.int .i64 c) ∧ Below w.heap.size w w' :=
  cmp_is c p q _ _ _ _ ps qs w (A1.tl' bW (by omega)).1 (A2.tl' bX (by omega)).1 (by rw [A1.2.2.2.1, A2.2.2.2.1]; exact hc)

set_option maxRecDepth 100000 in
set_option maxHeartbeats 8000000 in
theorem nearRoot_any (a : Int) (w : World) (a0 : 0 ≤ a) (a1 : a < 18446744073709551616) (hT : Tab w) :
    Calls Tryd.prog 3 #[.int .u64 a] w fun e w' => e = .returned (.bool true) ∧ Below w.heap.size w w' := by
  have WK := hid (fun (wx : World) => works_any wx)
  have QL := hid (fun (wx : World) (hx : Below w.heap.size w wx) => softSqrt_any 4621256167635550208 wx (by omega) (by omega) (hT.below hx))
  have FA := hid (fun (wx : World) => yfinite_any a wx a0 a1)
  by_cases fa : Ie.ab a < 9218868437227405312
  · rw [decide_eq_true fa] at FA
    by_cases za : a = 0
    · subst za
      clear hT fa
      go_enter Tryd.func3, Tryd.ntmps3
      go_wp2_with fail
      refine (WK.out _).mono ?_
      rintro e w1 ⟨rfl, hB1⟩
      have HB1 := hid hB1
      clear hB1 WK
      go_wp2_with fail
      refine (QL.out w1 HB1.out).mono ?_
      rintro e w2 ⟨r, f, rfl, hr, hB2⟩
      obtain rfl := Ie.sqrt_9 hr
      have HB := hid (HB1.out.trans (hB2.mono HB1.out.size))
      clear hr hB2 QL HB1
      go_wp2_with fail
      refine (FA.out _).mono ?_
      rintro e wz ⟨rfl, hz⟩
      replace hz := hz.symm
      subst hz
      go_wp2_with fail
      go_ret
      exact ⟨rfl, HB.out⟩
    · have za' : (a == 0) = false := by rw [beq_eq_false_iff_ne]; exact za
      by_cases ga : 9223372036854775808 ≤ a
      · clear hT fa za
        go_enter Tryd.func3, Tryd.ntmps3
        go_wp2_with fail
        refine (WK.out _).mono ?_
        rintro e w1 ⟨rfl, hB1⟩
        have HB1 := hid hB1
        clear hB1 WK
        go_wp2_with fail
        refine (QL.out w1 HB1.out).mono ?_
        rintro e w2 ⟨r, f, rfl, hr, hB2⟩
        obtain rfl := Ie.sqrt_9 hr
        have HB := hid (HB1.out.trans (hB2.mono HB1.out.size))
        clear hr hB2 QL HB1
        go_wp2_with fail
        refine (FA.out _).mono ?_
        rintro e wz ⟨rfl, hz⟩
        replace hz := hz.symm
        subst hz
        go_wp2_with fail
        go_ret
        exact ⟨rfl, HB.out⟩
      · have SQ := hid (fun (wx : World) (hx : Below w.heap.size w wx) => softSqrt_any a wx a0 a1 (hT.below hx))
        obtain ⟨e1, e2⟩ := ab_lit a0 (show a < 9223372036854775808 by omega)
        have UA : Hid (∀ wx : World, Calls Tryd.prog 13 #[.int .u64 a] wx fun e w' => ∃ p os, e = .returned (numOf (Ie.ngd a) p (List.length os) (List.length os)) ∧ Ans wx.heap.size w' p os (Ie.un (Ie.ab a)) ∧ Below wx.heap.size wx w') := fun wx => units_any a wx a0 a1 (Ie.fin_not fa).1
        have ua := Ie.un_lt_inf (Ie.ab_bd a).1 (Int.le_of_lt fa)
        have LI : Hid (∀ (wx : World) (p : Option Addr) (os : List Int) (B : Nat), Ans B wx p os (Ie.un (Ie.ab a)) → Calls Tryd.prog 12 #[numOf (Ie.ngd a) p os.length os.length, .int .i64 1076] wx fun e w' => NumAt (Ie.ngd a) (Ie.un (Ie.ab a) * 2 ^ 1076) wx e w') := by
          intro wx p os B A
          have m45 := Nm.two_mono (show 2099 ≤ 4500 by omega)
          exact lifted_any _ p os _ 1076 1076 B wx A (by omega) rfl (by omega)
        have BW : Hid (Ie.un (Ie.ab a) * 2 ^ 1076 < 2 ^ 9000) := by
          have h1 : Ie.un (Ie.ab a) * 2 ^ 1076 < 2 ^ 2099 * 2 ^ 1076 := Int.mul_lt_mul_of_pos_right ua (Nm.two_pos 1076)
          rw [← Nm.two_add] at h1
          have := Nm.two_mono (show 2099 + 1076 ≤ 9000 by omega)
          exact Int.lt_of_lt_of_le h1 this
        have RT : Hid (∀ s f, Ie.SqrtIs a s f → Ie.RootIs (Ie.un (Ie.ab a) * 2 ^ 1076) s) := fun s f h => h.root fa (by rw [e1]; exact za) e2
        simp only [Ie.RootIs] at RT
        have FI : Hid (∀ s : Int, 0 < s → s < 9218868437227405312 → ∀ wx : World, Calls Tryd.prog 11 #[.int .u64 s] wx fun e w' => e = .returned (.bool true) ∧ w' = wx) := by
          intro s h0 h1 wx
          have := yfinite_any s wx (by omega) (by omega)
          rw [(ab_lit (by omega) (show s < 9223372036854775808 by omega)).1, decide_eq_true h1] at this
          exact this
        simp only [numOf] at LI
        generalize Ie.un (Ie.ab a) * 2 ^ 1076 = XW at *
        clear hT fa za e1 e2 ua
        go_enter Tryd.func3, Tryd.ntmps3
        go_wp2_with fail
        refine (WK.out _).mono ?_
        rintro e w1 ⟨rfl, hB1⟩
        have HB1 := hid hB1
        clear hB1 WK
        go_wp2_with fail
        refine (QL.out w1 HB1.out).mono ?_
        rintro e w2 ⟨r, f, rfl, hr, hB2⟩
        obtain rfl := Ie.sqrt_9 hr
        have HB := hid (HB1.out.trans (hB2.mono HB1.out.size))
        clear hr hB2 QL HB1
        go_wp2_with fail
        refine (FA.out _).mono ?_
        rintro e wz ⟨rfl, hz⟩
        replace hz := hz.symm
        subst hz
        go_wp2_with fail
        refine (SQ.out _ HB.out).mono ?_
        rintro e w3 ⟨s, f, rfl, hr, hB⟩
        have HN := hid (HB.out.trans (hB.mono HB.out.size))
        have HS := hid (RT.out s f hr)
        clear hB HB hr
        have HB := HN
        clear HN
        obtain ⟨⟨s0, s1⟩, s2, s3⟩ := HS.out
        have FS := hid (FI.out s s0 s1)
        have zs : (s == 0) = false := by rw [beq_eq_false_iff_ne]; omega
        have gs : ¬ 9223372036854775808 ≤ s := by omega
        have HX := hid (And.intro s2 s3)
        have sF : Hid (Ie.fin s) := ab_fin (by omega) s1
        have uF : Hid (Ie.isn (s + 1) = false) := ab_isn (by omega) (by omega)
        have dF : Hid (Ie.isn (s - 1) = false) := ab_isn (by omega) (by omega)
        have UPs := hid (fun (wx : World) => up_lit s wx s0 s1)
        have DNs := hid (fun (wx : World) => down_lit s wx s0 s1)
        have US := hid (fun (wx : World) => units_lit s wx (by omega) (by omega))
        have UU := hid (fun (wx : World) => units_lit (s + 1) wx (by omega) (by omega))
        have UD := hid (fun (wx : World) => units_lit (s - 1) wx (by omega) (by omega))
        have PU : Hid (∀ (wx : World) (px py : Option Addr) (ox oy : List Int) (B B' : Nat), Ans B wx px ox (Ie.un s) → Ans B' wx py oy (Ie.un (s + 1)) → Calls Tryd.prog 14 #[numOf false px ox.length ox.length, numOf false py oy.length oy.length] wx fun e w' => NumPos (Ie.md s) wx e w') := fun wx px py ox oy B B' A1 A2 => plus_pos (by omega) s1 (by rw [Ie.md_un s (by omega)]) A1 A2 (by omega) (by omega)
        have PD : Hid (∀ (wx : World) (px py : Option Addr) (ox oy : List Int) (B B' : Nat), Ans B wx px ox (Ie.un s) → Ans B' wx py oy (Ie.un (s - 1)) → Calls Tryd.prog 14 #[numOf false px ox.length ox.length, numOf false py oy.length oy.length] wx fun e w' => NumPos (Ie.md (s - 1)) wx e w') := fun wx px py ox oy B B' A1 A2 => plus_pos (by omega) s1 (by rw [Ie.md_un (s - 1) (by omega), show s - 1 + 1 = s by omega, Int.add_comm]) A1 A2 (by omega) (by omega)
        have MB := hid (md_bd (s := s) (by omega) s1)
        have MD := hid (md_bd (s := s - 1) (by omega) (by omega))
        have TT := hid (fun (M : Int) (hM : M < 2 ^ 2101) (wx : World) (n : Bool) (p : Option Addr) (os : List Int) (B : Nat) (A : Ans B wx p os M) => times_sq n p os M B wx A hM)
        obtain ⟨AN1, ev, hev⟩ : bits .and .u64 s 1 = s % 2 ∧ ∃ ev, s % 2 = ev := ⟨Ib.one_and s (by omega) (by omega), _, rfl⟩
        have HE := hid hev
        rw [hev] at AN1
        have MB0 := hid (Ie.md_nn s (by omega))
        have MD0 := hid (Ie.md_nn (s - 1) (by omega))
        simp only [numOf] at PU PD TT
        generalize hM1 : Ie.md s = M1 at *
        generalize hM2 : Ie.md (s - 1) = M2 at *
        clear hM1 hM2 HS s2 s3 hev SQ RT FI FA
        have s0' : 0 ≤ s := by omega
        have s1' : s < 18446744073709551616 := by omega
        go_wp2_with fail
        refine (FS.out _).mono ?_
        rintro e wz ⟨rfl, hz⟩
        replace hz := hz.symm
        subst hz
        go_wp2_with fail
        refine (UA.out _).mono ?_
        rintro e w4 ⟨pa, oa, rfl, Aa, hB⟩
        have HN := hid (HB.out.trans (hB.mono HB.out.size))
        have Ka := hid Aa
        clear hB HB Aa
        have HB := HN
        clear HN
        simp only [numOf]
        go_wp2_with fail
        refine (LI.out _ _ _ _ Ka.out).mono ?_
        rintro e w5 ⟨pv, ov, rfl, Av, hB⟩
        have HN := hid (HB.out.trans (hB.mono HB.out.size))
        have Kv := hid Av
        clear hB HB Av Ka
        have HB := HN
        clear HN
        simp only [numOf]
        go_wp2_with fail
        have hb := alloc_b w5 (.cells #[.bool (Ie.ngd a), .slice pv ov.length ov.length] 28)
        have Rv := hid (Row2.new w5 28 (.bool (Ie.ngd a)) (.slice pv ov.length ov.length))
        have HN := hid (HB.out.trans (hb.mono HB.out.size))
        have LKv := hid (Kv.out.below hb (Nat.le_refl _))
        clear hb HB Kv
        have HB := HN
        clear HN
        have Kv := LKv
        clear LKv
        generalize hbv : w5.heap.size = bv at *
        generalize hwv : w5.alloc (.cells #[.bool (Ie.ngd a), .slice pv ov.length ov.length] 28) = w6 at *
        clear hbv hwv
        refine (US.out _).mono ?_
        rintro e w7 ⟨ps, os, rfl, As, hB⟩
        have HN := hid (HB.out.trans (hB.mono HB.out.size))
        have LKv := hid (Kv.out.below hB (Nat.le_refl _))
        have LRv := hid (Rv.out.below hB Rv.out.lt)
        have Ks := hid As
        clear hB HB As
        clear Kv
        have Kv := LKv
        clear LKv
        clear Rv
        have Rv := LRv
        clear LRv
        have HB := HN
        clear HN
        simp only [numOf]
        go_wp2_with fail
        refine (UPs.out _).mono ?_
        rintro e wz ⟨rfl, hz⟩
        replace hz := hz.symm
        subst hz
        go_wp2_with fail
        refine (UU.out _).mono ?_
        rintro e w8 ⟨pu, ou, rfl, Au, hB⟩
        have HN := hid (HB.out.trans (hB.mono HB.out.size))
        have LKv := hid (Kv.out.below hB (Nat.le_refl _))
        have LKs := hid (Ks.out.below hB (Nat.le_refl _))
        have LRv := hid (Rv.out.below hB Rv.out.lt)
        have Ku := hid Au
        clear hB HB Au
        clear Kv
        have Kv := LKv
        clear LKv
        clear Ks
        have Ks := LKs
        clear LKs
        clear Rv
        have Rv := LRv
        clear LRv
        have HB := HN
        clear HN
        simp only [numOf]
        go_wp2_with fail
        refine (PU.out _ _ _ _ _ _ _ Ks.out Ku.out).mono ?_
        rintro e w9 ⟨nx, px, ox, rfl, Ax, hB⟩
        have HN := hid (HB.out.trans (hB.mono HB.out.size))
        have LKv := hid (Kv.out.below hB (Nat.le_refl _))
        have LRv := hid (Rv.out.below hB Rv.out.lt)
        have Kx := hid Ax
        clear hB HB Ax Ks Ku
        clear Kv
        have Kv := LKv
        clear LKv
        clear Rv
        have Rv := LRv
        clear LRv
        have HB := HN
        clear HN
        simp only [numOf]
        go_wp2_with fail
        have hb := alloc_b w9 (.cells #[.bool nx, .slice px ox.length ox.length] 28)
        have Rx := hid (Row2.new w9 28 (.bool nx) (.slice px ox.length ox.length))
        have HN := hid (HB.out.trans (hb.mono HB.out.size))
        have LKv := hid (Kv.out.below hb (Nat.le_refl _))
        have LKx := hid (Kx.out.below hb (Nat.le_refl _))
        have LRv := hid (Rv.out.below hb Rv.out.lt)
        clear hb HB Kv Kx Rv
        have HB := HN
        clear HN
        have Kv := LKv
        clear LKv
        have Kx := LKx
        clear LKx
        have Rv := LRv
        clear LRv
        generalize hbx : w9.heap.size = bx at *
        generalize hwx : w9.alloc (.cells #[.bool nx, .slice px ox.length ox.length] 28) = wa at *
        clear hbx hwx
        refine (US.out _).mono ?_
        rintro e wb ⟨ps, os, rfl, As, hB⟩
        have HN := hid (HB.out.trans (hB.mono HB.out.size))
        have LKv := hid (Kv.out.below hB (Nat.le_refl _))
        have LKx := hid (Kx.out.below hB (Nat.le_refl _))
        have LRv := hid (Rv.out.below hB Rv.out.lt)
        have LRx := hid (Rx.out.below hB Rx.out.lt)
        have Ks := hid As
        clear hB HB As
        clear Kv
        have Kv := LKv
        clear LKv
        clear Kx
        have Kx := LKx
        clear LKx
        clear Rv
        have Rv := LRv
        clear LRv
        clear Rx
        have Rx := LRx
        clear LRx
        have HB := HN
        clear HN
        simp only [numOf]
        go_wp2_with fail
        refine (DNs.out _).mono ?_
        rintro e wz ⟨rfl, hz⟩
        replace hz := hz.symm
        subst hz
        go_wp2_with fail
        refine (UD.out _).mono ?_
        rintro e wc1 ⟨pu, ou, rfl, Au, hB⟩
        have HN := hid (HB.out.trans (hB.mono HB.out.size))
        have LKv := hid (Kv.out.below hB (Nat.le_refl _))
        have LKx := hid (Kx.out.below hB (Nat.le_refl _))
        have LKs := hid (Ks.out.below hB (Nat.le_refl _))
        have LRv := hid (Rv.out.below hB Rv.out.lt)
        have LRx := hid (Rx.out.below hB Rx.out.lt)
        have Ku := hid Au
        clear hB HB Au
        clear Kv
        have Kv := LKv
        clear LKv
        clear Kx
        have Kx := LKx
        clear LKx
        clear Ks
        have Ks := LKs
        clear LKs
        clear Rv
        have Rv := LRv
        clear LRv
        clear Rx
        have Rx := LRx
        clear LRx
        have HB := HN
        clear HN
        simp only [numOf]
        go_wp2_with fail
        refine (PD.out _ _ _ _ _ _ _ Ks.out Ku.out).mono ?_
        rintro e wd ⟨ny, py, oy, rfl, Ay, hB⟩
        have HN := hid (HB.out.trans (hB.mono HB.out.size))
        have LKv := hid (Kv.out.below hB (Nat.le_refl _))
        have LKx := hid (Kx.out.below hB (Nat.le_refl _))
        have LRv := hid (Rv.out.below hB Rv.out.lt)
        have LRx := hid (Rx.out.below hB Rx.out.lt)
        have Ky := hid Ay
        clear hB HB Ay Ks Ku
        clear Kv
        have Kv := LKv
        clear LKv
        clear Kx
        have Kx := LKx
        clear LKx
        clear Rv
        have Rv := LRv
        clear LRv
        clear Rx
        have Rx := LRx
        clear LRx
        have HB := HN
        clear HN
        simp only [numOf]
        go_upto_region 11 with fail
        have hb := alloc_b wd (.cells #[.bool ny, .slice py oy.length oy.length] 28)
        have Ry := hid (Row2.new wd 28 (.bool ny) (.slice py oy.length oy.length))
        have HN := hid (HB.out.trans (hb.mono HB.out.size))
        have LKv := hid (Kv.out.below hb (Nat.le_refl _))
        have LKx := hid (Kx.out.below hb (Nat.le_refl _))
        have LKy := hid (Ky.out.below hb (Nat.le_refl _))
        have LRv := hid (Rv.out.below hb Rv.out.lt)
        have LRx := hid (Rx.out.below hb Rx.out.lt)
        clear hb HB Kv Kx Ky Rv Rx
        have HB := HN
        clear HN
        have Kv := LKv
        clear LKv
        have Kx := LKx
        clear LKx
        have Ky := LKy
        clear LKy
        have Rv := LRv
        clear LRv
        have Rx := LRx
        clear LRx
        generalize hby : wd.heap.size = by1 at *
        generalize hwy : wd.alloc (.cells #[.bool ny, .slice py oy.length oy.length] 28) = we at *
        clear hby hwy
        obtain ⟨c, hc1, CM1⟩ : ∃ c, (c = -1 ∨ (c = 0 ∧ ev = 0)) ∧ Hid (∀ (wx : World) (p q : Option Addr) (ps qs : List Int) (B B' : Nat), Ans B wx p ps XW → Ans B' wx q qs (M1 * M1) → Calls Tryd.prog 17 #[.slice p ps.length ps.length, .slice q qs.length qs.length] wx fun e w' => e = .returned (.int .i64 c) ∧ Below wx.heap.size wx w') := by
          rcases HX.out.2 with g | ⟨g, g'⟩
          · exact ⟨-1, .inl rfl, fun wx p q ps qs B B' A1 A2 => cmp_sq (cmpI_lt g) BW.out (sq_bd MB0.out MB.out) A1 A2⟩
          · exact ⟨0, .inr ⟨rfl, by rw [← HE.out]; exact g'⟩, fun wx p q ps qs B B' A1 A2 => cmp_sq (cmpI_eq g) BW.out (sq_bd MB0.out MB.out) A1 A2⟩
        obtain ⟨d, hd1, CM2⟩ : ∃ d, (d = 1 ∨ (d = 0 ∧ ev = 0)) ∧ Hid (∀ (wx : World) (p q : Option Addr) (ps qs : List Int) (B B' : Nat), Ans B wx p ps XW → Ans B' wx q qs (M2 * M2) → Calls Tryd.prog 17 #[.slice p ps.length ps.length, .slice q qs.length qs.length] wx fun e w' => e = .returned (.int .i64 d) ∧ Below wx.heap.size wx w') := by
          rcases HX.out.1 with g | ⟨g, g'⟩
          · exact ⟨1, .inl rfl, fun wx p q ps qs B B' A1 A2 => cmp_sq (cmpI_gt g) BW.out (sq_bd MD0.out MD.out) A1 A2⟩
          · exact ⟨0, .inr ⟨rfl, by rw [← HE.out]; exact g'⟩, fun wx p q ps qs B B' A1 A2 => cmp_sq (cmpI_eq g.symm) BW.out (sq_bd MD0.out MD.out) A1 A2⟩
        clear HX HE PU PD US UU UD UPs DNs UA LI BW MB0 MD0
        have DD := hid (drew_refl we)
        have Ds := hid (drew_refl we)
        have Dv := hid (Rv.out.below DD.out Rv.out.lt)
        have Dr := hid (Rx.out.below DD.out Rx.out.lt)
        have Dk := hid (Kv.out.below DD.out (Nat.le_refl _))
        have Dx := hid (Kx.out.below DD.out (Nat.le_refl _))
        obtain ⟨⟨c0', c1'⟩, -⟩ := Rv.out.cells
        obtain ⟨⟨c2', c3'⟩, -⟩ := Rx.out.cells
        go_cut [7] from 54 to 60 (fun q wx => q = .int .i64 c ∧ Hid (Below (we).heap.size (we) wx))
        case first =>
          go_region_with (first
            | (go_at_call 18; refine (TT.out _ MB.out _ _ _ _ _ Dx.out).mono ?_; rintro e wt ⟨nt, pt, ot, rfl, AT, hBt⟩; have FT := hid (And.intro AT (Dk.out.below hBt (Nat.le_refl _))); have DT := hid (DD.out.trans (hBt.mono DD.out.size)); obtain ⟨⟨d0', d1'⟩, -⟩ := (Dv.out.below hBt Dv.out.lt).cells; obtain ⟨⟨d2', d3'⟩, -⟩ := (Dr.out.below hBt Dr.out.lt).cells; simp only [numOf]; have FD : ∀ wx : World, (Instr.field 28 (.agg #[.bool nt, .slice pt ot.length ot.length]) 1).run Tryd.prog wx = .ok (.slice pt ot.length ot.length) wx := (fun _ => by kernel_rfl); clear AT hBt)
            | (go_at_call 17; refine (CM1.out _ _ _ _ _ _ _ FT.out.2 FT.out.1).mono ?_; rintro e wq ⟨rfl, hBq⟩; have FQ := hid (DT.out.trans (hBq.mono DT.out.size)); clear hBq))
          all_goals (go_wp2_with fail; go_meet; exact ⟨rfl, FQ.out⟩)
        case rest =>
          obtain ⟨rfl, F1⟩ := hcut
          have HN := hid (HB.out.trans (F1.out.mono HB.out.size))
          have LKv := hid (Kv.out.below F1.out (Nat.le_refl _))
          have LKy := hid (Ky.out.below F1.out (Nat.le_refl _))
          have LRv := hid (Rv.out.below F1.out Rv.out.lt)
          have LRy := hid (Ry.out.below F1.out Ry.out.lt)
          clear HB Kv Kx Ky Rv Rx Ry DD Ds Dv Dr Dk Dx c0' c1' c2' c3' F1 CM1 MB
          have HB := HN
          have Kv := LKv
          have Ky := LKy
          have Rv := LRv
          have Ry := LRy
          clear HN LKv LKy LRv LRy
          have DD := hid (drew_refl wc)
          have Ds := hid (drew_refl wc)
          have Dv := hid (Rv.out.below DD.out Rv.out.lt)
          have Dr := hid (Ry.out.below DD.out Ry.out.lt)
          have Dk := hid (Kv.out.below DD.out (Nat.le_refl _))
          have Dx := hid (Ky.out.below DD.out (Nat.le_refl _))
          obtain ⟨⟨c0', c1'⟩, -⟩ := Rv.out.cells
          obtain ⟨⟨c2', c3'⟩, -⟩ := Ry.out.cells
          go_upto_region 12 with fail
          go_cut [8] from 61 to 67 (fun q wx => q = .int .i64 d ∧ Hid (Below (wc).heap.size (wc) wx))
          case first =>
            go_region_with (first
              | (go_at_call 18; refine (TT.out _ MD.out _ _ _ _ _ Dx.out).mono ?_; rintro e wt ⟨nt, pt, ot, rfl, AT, hBt⟩; have FT := hid (And.intro AT (Dk.out.below hBt (Nat.le_refl _))); have DT := hid (DD.out.trans (hBt.mono DD.out.size)); obtain ⟨⟨d0', d1'⟩, -⟩ := (Dv.out.below hBt Dv.out.lt).cells; obtain ⟨⟨d2', d3'⟩, -⟩ := (Dr.out.below hBt Dr.out.lt).cells; simp only [numOf]; have FD : ∀ wx : World, (Instr.field 28 (.agg #[.bool nt, .slice pt ot.length ot.length]) 1).run Tryd.prog wx = .ok (.slice pt ot.length ot.length) wx := (fun _ => by kernel_rfl); clear AT hBt)
              | (go_at_call 17; refine (CM2.out _ _ _ _ _ _ _ FT.out.2 FT.out.1).mono ?_; rintro e wq ⟨rfl, hBq⟩; have FQ := hid (DT.out.trans (hBq.mono DT.out.size)); clear hBq))
            all_goals (go_wp2_with fail; go_meet; exact ⟨rfl, FQ.out⟩)
          case rest =>
            obtain ⟨rfl, F2⟩ := hcut
            have HN := hid (HB.out.trans (F2.out.mono HB.out.size))
            clear HB Kv Ky Rv Ry DD Ds Dv Dr Dk Dx c0' c1' c2' c3' F2 CM2 MD TT
            rcases hc1 with rfl | ⟨rfl, he⟩ <;> rcases hd1 with rfl | ⟨rfl, he'⟩
            · go_wp2_with fail
              go_ret
              exact ⟨rfl, HN.out⟩
            · subst he'
              go_wp2_with fail
              go_ret
              exact ⟨rfl, HN.out⟩
            · subst he
              go_wp2_with fail
              go_ret
              exact ⟨rfl, HN.out⟩
            · subst he
              clear he'
              go_wp2_with fail
              go_ret
              exact ⟨rfl, HN.out⟩
  · rw [decide_eq_false fa] at FA
    clear fa hT
    go_enter Tryd.func3, Tryd.ntmps3
    go_wp2_with fail
    refine (WK.out _).mono ?_
    rintro e w1 ⟨rfl, hB1⟩
    have HB1 := hid hB1
    clear hB1 WK
    go_wp2_with fail
    refine (QL.out w1 HB1.out).mono ?_
    rintro e w2 ⟨r, f, rfl, hr, hB2⟩
    obtain rfl := Ie.sqrt_9 hr
    have HB := hid (HB1.out.trans (hB2.mono HB1.out.size))
    clear hr hB2 QL HB1
    go_wp2_with fail
    refine (FA.out _).mono ?_
    rintro e wz ⟨rfl, hz⟩
    replace hz := hz.symm
    subst hz
    go_wp2_with fail
    go_ret
    exact ⟨rfl, HB.out⟩
end Go.Proofs.YtjebdobopechfabDoor
