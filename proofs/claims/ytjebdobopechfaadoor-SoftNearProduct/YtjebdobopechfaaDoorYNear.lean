import Derived.Test.YtjebdobopechfaaDoorYUnits
import Derived.Test.YtjebdobopechfaaDoorIDown
import Derived.Deep.RegionWith
import Derived.Deep.CutRange
import Derived.Deep.CutBlock
/-
  law05: nearest (made by mkynear.py).
-/
namespace Go.Proofs.YtjebdobopechfaaDoor
open Go Go.RowKit Go.Deep

/-- Two nums in boxes of their own. -/
def NB2 (w wx : World) (x0 x1 y0 y1 : Value) : Prop := (Row2 wx w.heap.size 32 x0 x1 ∧ Row2 wx (w.heap.size + 1) 32 y0 y1) ∧ Below w.heap.size w wx

theorem NB2.new (w : World) (x0 x1 y0 y1 : Value) : NB2 w ((w.alloc (.cells #[x0, x1] 32)).alloc (.cells #[y0, y1] 32)) x0 x1 y0 y1 := by
  have s1 : (w.alloc (.cells #[x0, x1] 32)).heap.size = w.heap.size + 1 := by simp
  have r0 := Row2.new w 32 x0 x1
  have r1 := Row2.new (w.alloc (.cells #[x0, x1] 32)) 32 y0 y1
  rw [s1] at r1
  have h1 := alloc_b w (.cells #[x0, x1] 32)
  exact ⟨⟨r0.below (alloc_b _ _) (by omega), r1⟩, Below.alloc h1 h1.size _⟩

theorem NB2.on {w wx w' : World} {x0 x1 y0 y1 : Value} (h : NB2 w wx x0 x1 y0 y1) (hB : Below wx.heap.size wx w') : NB2 w w' x0 x1 y0 y1 :=
  ⟨⟨h.1.1.below hB h.1.1.lt, h.1.2.below hB h.1.2.lt⟩, h.2.trans (hB.mono h.2.size)⟩

theorem NB2.drew {w wx : World} {x0 x1 y0 y1 : Value} (h : NB2 w wx x0 x1 y0 y1) : NB2 w wx.drew x0 x1 y0 y1 := h.on ⟨rfl, rfl, rfl, Nat.le_refl _, fun _ _ => rfl⟩

theorem NB2.cells {w wx : World} {x0 x1 y0 y1 : Value} (h : NB2 w wx x0 x1 y0 y1) : (wx.cell? ⟨w.heap.size, 0, none⟩ = some x0 ∧ wx.cell? ⟨w.heap.size, 1, none⟩ = some x1) ∧ (wx.cell? ⟨w.heap.size + 1, 0, none⟩ = some y0 ∧ wx.cell? ⟨w.heap.size + 1, 1, none⟩ = some y1) :=
  ⟨h.1.1.cells.1, h.1.2.cells.1⟩

theorem drew_refl (w : World) : Below w.heap.size w w.drew := ⟨rfl, rfl, rfl, Nat.le_refl _, fun _ _ => rfl⟩

theorem Ie.us_az (d : Int) : Ie.az (Ie.us d) = Ie.un (Ie.ab d) := Ie.az_sn _ _ (Ie.un_nn (Ie.ab_bd d).1)

theorem ab_le {d : Int} (h : Ie.isn d = false) : Ie.ab d ≤ 9218868437227405312 := by
  rw [Ie.isn, decide_eq_false_iff_not] at h; omega

/-- The three functions that a region of nearest calls, at the double t. -/
theorem near_calls (n1 n3 : Bool) (p1 p3 : Option Addr) (o1 o3 : List Int) (V1 V3 : Int) (B1 B3 : Nat) (w : World) (a1 : Ans B1 w p1 o1 V1) (a3 : Ans B3 w p3 o3 V3) (b1 : V1 < 2 ^ 9000) (b3 : V3 < 2 ^ 2100) (t : Int) (t0 : 0 ≤ t) (t1 : t < 18446744073709551616) (tn : Ie.isn t = false) :
    Hid (∀ wx : World, Calls Tryd.prog 17 #[.int .u64 t] wx fun e w' => UnitsTold t wx e w') ∧
    Hid (∀ (wx : World) (pu : Option Addr) (ou : List Int) (B : Nat), Below w.heap.size w wx → Ans B wx pu ou (Ie.un (Ie.ab t)) → Calls Tryd.prog 22 #[numOf (Ie.ngd t) pu ou.length ou.length, numOf n3 p3 o3.length o3.length] wx fun e w' => NumIs (Ie.us t * Ie.sn n3 V3) wx e w') ∧
    Hid (∀ (wx : World) (neg : Bool) (pt : Option Addr) (ot : List Int) (VT : Int) (B : Nat), Below w.heap.size w wx → Ans B wx pt ot VT → Ie.sn neg VT = Ie.us t * Ie.sn n3 V3 → 0 ≤ VT → Calls Tryd.prog 47 #[numOf n1 p1 o1.length o1.length, numOf neg pt ot.length ot.length] wx fun e w' => ∃ p os, e = .returned (.slice p (List.length os) (List.length os)) ∧ Ans wx.heap.size w' p os (Ie.az (Ie.sn n1 V1 - Ie.us t * Ie.sn n3 V3)) ∧ Below wx.heap.size wx w') := by
  have v3 : 0 ≤ V3 := by rw [← a3.2.2.2.1]; exact (Nm.val_bd o3 a3.2.1).1
  have u1 := Ie.un_lt_inf (Ie.ab_bd t).1 (ab_le tn)
  have u0 := Ie.un_nn (Ie.ab_bd t).1
  refine ⟨fun wx => units_any t wx t0 t1 tn, fun wx pu ou B hx A => ?_, fun wx neg pt ot VT B hx A hz h0 => ?_⟩
  · exact ytimes_any _ _ _ _ ou o3 _ _ B B3 wx A (a3.below hx (Nat.le_refl _)) (by have := Nm.two_mono (show 2099 ≤ 4500 by omega); omega) (by have := Nm.two_mono (show 2100 ≤ 4500 by omega); omega)
  · have hv : VT = Ie.un (Ie.ab t) * V3 := by
      rw [Ie.us, Ie.sn_mul] at hz
      have h1 := Ie.az_sn neg VT h0
      rw [hz, Ie.az_sn _ _ (Int.mul_nonneg u0 v3)] at h1
      exact h1.symm
    have hb : VT < 2 ^ 9000 := by
      rw [hv]
      have h1 : Ie.un (Ie.ab t) * V3 ≤ 2 ^ 2099 * V3 := Int.mul_le_mul_of_nonneg_right (by omega) v3
      have h2 : 2 ^ 2099 * V3 < 2 ^ 2099 * 2 ^ 2100 := Int.mul_lt_mul_of_pos_left b3 (Nm.two_pos 2099)
      rw [← Nm.two_add] at h2
      have := Nm.two_mono (show 2099 + 2100 ≤ 9000 by omega)
      omega
    have := apart_any n1 neg p1 pt o1 ot V1 VT B1 B wx (a1.below hx (Nat.le_refl _)) A b1 hb
    rw [hz] at this
    exact this

set_option maxRecDepth 100000 in
set_option maxHeartbeats 8000000 in
theorem nearest_true (n1 n3 : Bool) (p1 p3 : Option Addr) (o1 o3 : List Int) (V1 V3 : Int) (B1 B3 : Nat) (s : Int) (w : World) (a1 : Ans B1 w p1 o1 V1) (a3 : Ans B3 w p3 o3 V3) (b1 : V1 < 2 ^ 9000) (b3 : V3 < 2 ^ 2100) (s0 : 0 ≤ s) (s1 : s < 18446744073709551616) (sn : Ie.isn s = false) (un : Ie.isn (Ie.upd s) = false) (dn : Ie.isn (Ie.dnd s) = false)
    (HU : Ie.az (Ie.sn n1 V1 - Ie.us s * Ie.sn n3 V3) < Ie.az (Ie.sn n1 V1 - Ie.us (Ie.upd s) * Ie.sn n3 V3) ∨ (Ie.az (Ie.sn n1 V1 - Ie.us s * Ie.sn n3 V3) = Ie.az (Ie.sn n1 V1 - Ie.us (Ie.upd s) * Ie.sn n3 V3) ∧ s % 2 = 0))
    (HD : Ie.az (Ie.sn n1 V1 - Ie.us s * Ie.sn n3 V3) < Ie.az (Ie.sn n1 V1 - Ie.us (Ie.dnd s) * Ie.sn n3 V3) ∨ (Ie.az (Ie.sn n1 V1 - Ie.us s * Ie.sn n3 V3) = Ie.az (Ie.sn n1 V1 - Ie.us (Ie.dnd s) * Ie.sn n3 V3) ∧ s % 2 = 0)) :
    Calls Tryd.prog 18 #[numOf n1 p1 o1.length o1.length, .int .u64 s, numOf n3 p3 o3.length o3.length] w fun e w' => e = .returned (.bool true) ∧ Below w.heap.size w w' := by
  have ud := Ie.upd_bd s s0 s1
  have dd : 0 ≤ Ie.dnd s ∧ Ie.dnd s < 18446744073709551616 := by
    rw [Ie.dnd]
    split
    · omega
    · have h1 := Ie.ng_bd s s0 s1
      have h2 := Ie.upd_bd _ h1.1 h1.2
      exact Ie.ng_bd _ h2.1 h2.2
  obtain ⟨US, TM, AP⟩ := near_calls n1 n3 p1 p3 o1 o3 V1 V3 B1 B3 w a1 a3 b1 b3 s s0 s1 sn
  obtain ⟨US2, TM2, AP2⟩ := near_calls n1 n3 p1 p3 o1 o3 V1 V3 B1 B3 w a1 a3 b1 b3 _ ud.1 ud.2 un
  obtain ⟨US3, TM3, AP3⟩ := near_calls n1 n3 p1 p3 o1 o3 V1 V3 B1 B3 w a1 a3 b1 b3 _ dd.1 dd.2 dn
  have UP := hid (fun (wx : World) => up_any s wx s0 s1)
  have DN := hid (fun (wx : World) => down_any s wx s0 s1)
  have ANT := Ib.sign_andNot s s0 s1
  have AN1 := Ib.one_and s s0 s1
  have sle : s % 9223372036854775808 ≤ 9218868437227405312 := ab_le sn
  have N0 := hid (NB2.new w (.bool n1) (.slice p1 o1.length o1.length) (.bool n3) (.slice p3 o3.length o3.length))
  -- the three distances
  have bd : ∀ t, Ie.isn t = false → Ie.az (Ie.sn n1 V1 - Ie.us t * Ie.sn n3 V3) < 2 ^ 9001 := by
    intro t tn
    have v1 : 0 ≤ V1 := by rw [← a1.2.2.2.1]; exact (Nm.val_bd o1 a1.2.1).1
    have v3 : 0 ≤ V3 := by rw [← a3.2.2.2.1]; exact (Nm.val_bd o3 a3.2.1).1
    have u1 := Ie.un_lt_inf (Ie.ab_bd t).1 (ab_le tn)
    have u0 := Ie.un_nn (Ie.ab_bd t).1
    have h1 : Ie.un (Ie.ab t) * V3 ≤ 2 ^ 2099 * V3 := Int.mul_le_mul_of_nonneg_right (by omega) v3
    have h2 : 2 ^ 2099 * V3 < 2 ^ 2099 * 2 ^ 2100 := Int.mul_lt_mul_of_pos_left b3 (Nm.two_pos 2099)
    have h0 : 0 ≤ Ie.un (Ie.ab t) * V3 := Int.mul_nonneg u0 v3
    rw [← Nm.two_add] at h2
    have m1 := Nm.two_mono (show 2099 + 2100 ≤ 9000 by omega)
    have e : (2 : Int) ^ 9001 = 2 * 2 ^ 9000 := Nm.two_succ 9000
    rw [Ie.us, Ie.sn_mul]
    generalize Ie.un (Ie.ab t) * V3 = X at *
    cases n1 <;> cases (Ie.ngd t != n3) <;> simp only [Ie.sn, Ie.az, Bool.false_eq_true, if_true, if_false] <;> split <;> omega
  have bh := bd s sn
  have bu := bd _ un
  have bv := bd _ dn
  clear bd
  simp only [numOf] at TM AP TM2 AP2 TM3 AP3 ⊢
  generalize hH : Ie.az (Ie.sn n1 V1 - Ie.us s * Ie.sn n3 V3) = H at *
  generalize hX : Ie.az (Ie.sn n1 V1 - Ie.us (Ie.upd s) * Ie.sn n3 V3) = X at *
  generalize hY : Ie.az (Ie.sn n1 V1 - Ie.us (Ie.dnd s) * Ie.sn n3 V3) = Y at *
  have CMP : Hid (∀ (wx : World) (p q : Option Addr) (os qs : List Int) (A C c : Int) (B B' : Nat), Ans B wx p os A → Ans B' wx q qs C → A < 2 ^ 9001 → C < 2 ^ 9001 → cmpI A C = c → Calls Tryd.prog 43 #[.slice p os.length os.length, .slice q qs.length qs.length] wx fun e w' => e = .returned (.int .i64 c) ∧ Below wx.heap.size wx w') := by
    intro wx p q os qs A C c B B' hA hC bA bC hc
    exact cmp_is c p q _ _ _ _ os qs wx (hA.tl' bA (by omega)).1 (hC.tl' bC (by omega)).1 (by rw [hA.2.2.2.1, hC.2.2.2.1]; exact hc)
  obtain ⟨c, hc, hc1⟩ : ∃ c, cmpI H X = c ∧ (c = -1 ∨ (c = 0 ∧ s % 2 = 0)) := by
    rcases HU with h | ⟨h, h'⟩
    · exact ⟨_, rfl, .inl (cmpI_lt h)⟩
    · exact ⟨_, rfl, .inr ⟨cmpI_eq h, h'⟩⟩
  obtain ⟨c', hc', hc1'⟩ : ∃ c', cmpI H Y = c' ∧ (c' = -1 ∨ (c' = 0 ∧ s % 2 = 0)) := by
    rcases HD with h | ⟨h, h'⟩
    · exact ⟨_, rfl, .inl (cmpI_lt h)⟩
    · exact ⟨_, rfl, .inr ⟨cmpI_eq h, h'⟩⟩
  have CM1 := hid (fun (wx : World) (p q : Option Addr) (os qs : List Int) (B B' : Nat) (hA : Ans B wx p os H) (hC : Ans B' wx q qs X) => CMP.out wx p q os qs H X c B B' hA hC bh bu hc)
  have CM2 := hid (fun (wx : World) (p q : Option Addr) (os qs : List Int) (B B' : Nat) (hA : Ans B wx p os H) (hC : Ans B' wx q qs Y) => CMP.out wx p q os qs H Y c' B B' hA hC bh bv hc')
  obtain ⟨ev, hev⟩ : ∃ ev, s % 2 = ev := ⟨_, rfl⟩
  rw [hev] at hc1 hc1' AN1
  clear a1 a3 b1 b3 HU HD hH hX hY CMP hc hc' bh bu bv sn un dn ud dd hev
  generalize Ie.upd s = su at *
  generalize Ie.dnd s = sd at *
  go_enter Tryd.func18, Tryd.ntmps18
  obtain ⟨⟨e0, e1⟩, ⟨e2, e3⟩⟩ := N0.out.cells
  go_upto_region 3 with fail
  have ND := hid N0.out.drew
  have GD := hid (drew_refl ((w.alloc (.cells #[.bool n1, .slice p1 o1.length o1.length] 32)).alloc (.cells #[.bool n3, .slice p3 o3.length o3.length] 32)))
  go_cut [7] from 15 to 20 (fun a wx => ∃ (p : Option Addr) (os : List Int), a = .slice p os.length os.length ∧ Hid ((∃ B, Ans B wx p os H) ∧ Below (((w.alloc (.cells #[.bool n1, .slice p1 o1.length o1.length] 32)).alloc (.cells #[.bool n3, .slice p3 o3.length o3.length] 32))).heap.size (((w.alloc (.cells #[.bool n1, .slice p1 o1.length o1.length] 32)).alloc (.cells #[.bool n3, .slice p3 o3.length o3.length] 32))) wx ∧ NB2 w wx (.bool n1) (.slice p1 o1.length o1.length) (.bool n3) (.slice p3 o3.length o3.length)))
  case first =>
    go_region_with (first | (go_at_call 17; refine (US.out _).mono ?_; rintro e wu ⟨pu, ou, rfl, AU, hBu⟩; have NU := hid (ND.out.on hBu); obtain ⟨⟨a0, a1⟩, ⟨b0, b1⟩⟩ := NU.out.cells; have AUh := hid AU; have GU := hid (GD.out.trans (hBu.mono GD.out.size)); clear AU hBu) | (go_at_call 22; refine (TM.out _ _ _ _ NU.out.2 AUh.out).mono ?_; rintro e wt ⟨neg, pt, ot, VT, rfl, AT, hzt, vt0, hBt⟩; have NT := hid (NU.out.on hBt); obtain ⟨⟨c0, c1⟩, ⟨d0, d1⟩⟩ := NT.out.cells; have ATh := hid (And.intro AT (And.intro hzt vt0)); have GT := hid (GU.out.trans (hBt.mono GU.out.size)); simp only [numOf]; clear AT hBt hzt vt0) | (go_at_call 47; refine (AP.out _ _ _ _ _ _ NT.out.2 ATh.out.1 ATh.out.2.1 ATh.out.2.2).mono ?_; rintro e wa ⟨pa, oa, rfl, AA, hBa⟩; have FA := hid (And.intro (And.intro AA (GT.out.trans (hBa.mono GT.out.size))) (NT.out.on hBa)); clear AA hBa))
    all_goals (go_wp2_with fail; go_meet; exact ⟨_, _, rfl, ⟨_, FA.out.1.1⟩, FA.out.1.2, FA.out.2⟩)
  case rest =>
    obtain ⟨p4, o4, rfl, F1⟩ := hcut
    have N1 := hid F1.out.2.2
    clear e0 e1 e2 e3 US TM AP ND GD N0
    obtain ⟨⟨e0, e1⟩, ⟨e2, e3⟩⟩ := N1.out.cells
    go_upto_region 4 with fail
    have ND := hid N1.out.drew
    have GD := hid (drew_refl wc)
    go_cut [8] from 21 to 27 (fun a wx => ∃ (p : Option Addr) (os : List Int), a = .slice p os.length os.length ∧ Hid ((∃ B, Ans B wx p os X) ∧ Below (wc).heap.size (wc) wx ∧ NB2 w wx (.bool n1) (.slice p1 o1.length o1.length) (.bool n3) (.slice p3 o3.length o3.length)))
    case first =>
      go_region_with (first | (go_at_call 44; refine (UP.out _).mono ?_; rintro e wz ⟨rfl, rfl⟩) | (go_at_call 17; refine (US2.out _).mono ?_; rintro e wu ⟨pu, ou, rfl, AU, hBu⟩; have NU := hid (ND.out.on hBu); obtain ⟨⟨a0, a1⟩, ⟨b0, b1⟩⟩ := NU.out.cells; have AUh := hid AU; have GU := hid (GD.out.trans (hBu.mono GD.out.size)); clear AU hBu) | (go_at_call 22; refine (TM2.out _ _ _ _ NU.out.2 AUh.out).mono ?_; rintro e wt ⟨neg, pt, ot, VT, rfl, AT, hzt, vt0, hBt⟩; have NT := hid (NU.out.on hBt); obtain ⟨⟨c0, c1⟩, ⟨d0, d1⟩⟩ := NT.out.cells; have ATh := hid (And.intro AT (And.intro hzt vt0)); have GT := hid (GU.out.trans (hBt.mono GU.out.size)); simp only [numOf]; clear AT hBt hzt vt0) | (go_at_call 47; refine (AP2.out _ _ _ _ _ _ NT.out.2 ATh.out.1 ATh.out.2.1 ATh.out.2.2).mono ?_; rintro e wa ⟨pa, oa, rfl, AA, hBa⟩; have FA := hid (And.intro (And.intro AA (GT.out.trans (hBa.mono GT.out.size))) (NT.out.on hBa)); clear AA hBa))
      all_goals (go_wp2_with fail; go_meet; exact ⟨_, _, rfl, ⟨_, FA.out.1.1⟩, FA.out.1.2, FA.out.2⟩)
    case rest =>
      obtain ⟨p5, o5, rfl, F2⟩ := hcut
      rename_i wc1
      have N2 := hid F2.out.2.2
      have A4 : Hid (∃ B, Ans B wc p4 o4 H) := by
        obtain ⟨B, h⟩ := F1.out.1
        exact ⟨B, h.below F2.out.2.1 (Nat.le_refl _)⟩
      have A5 := hid F2.out.1
      clear e0 e1 e2 e3 US2 TM2 AP2 ND GD N1 F1 F2 UP
      obtain ⟨⟨e0, e1⟩, ⟨e2, e3⟩⟩ := N2.out.cells
      go_upto_region 5 with fail
      have ND := hid N2.out.drew
      have GD := hid (drew_refl wc)
      go_cut [9] from 28 to 34 (fun a wx => ∃ (p : Option Addr) (os : List Int), a = .slice p os.length os.length ∧ Hid ((∃ B, Ans B wx p os Y) ∧ Below (wc).heap.size (wc) wx ∧ NB2 w wx (.bool n1) (.slice p1 o1.length o1.length) (.bool n3) (.slice p3 o3.length o3.length)))
      case first =>
        go_region_with (first | (go_at_call 48; refine (DN.out _).mono ?_; rintro e wz ⟨rfl, rfl⟩) | (go_at_call 17; refine (US3.out _).mono ?_; rintro e wu ⟨pu, ou, rfl, AU, hBu⟩; have NU := hid (ND.out.on hBu); obtain ⟨⟨a0, a1⟩, ⟨b0, b1⟩⟩ := NU.out.cells; have AUh := hid AU; have GU := hid (GD.out.trans (hBu.mono GD.out.size)); clear AU hBu) | (go_at_call 22; refine (TM3.out _ _ _ _ NU.out.2 AUh.out).mono ?_; rintro e wt ⟨neg, pt, ot, VT, rfl, AT, hzt, vt0, hBt⟩; have NT := hid (NU.out.on hBt); obtain ⟨⟨c0, c1⟩, ⟨d0, d1⟩⟩ := NT.out.cells; have ATh := hid (And.intro AT (And.intro hzt vt0)); have GT := hid (GU.out.trans (hBt.mono GU.out.size)); simp only [numOf]; clear AT hBt hzt vt0) | (go_at_call 47; refine (AP3.out _ _ _ _ _ _ NT.out.2 ATh.out.1 ATh.out.2.1 ATh.out.2.2).mono ?_; rintro e wa ⟨pa, oa, rfl, AA, hBa⟩; have FA := hid (And.intro (And.intro AA (GT.out.trans (hBa.mono GT.out.size))) (NT.out.on hBa)); clear AA hBa))
        all_goals (go_wp2_with fail; go_meet; exact ⟨_, _, rfl, ⟨_, FA.out.1.1⟩, FA.out.1.2, FA.out.2⟩)
      case rest =>
        obtain ⟨p6, o6, rfl, F3⟩ := hcut
        have A4' : Hid (∃ B, Ans B wc p4 o4 H) := by
          obtain ⟨B, h⟩ := A4.out
          exact ⟨B, h.below F3.out.2.1 (Nat.le_refl _)⟩
        have A5' : Hid (∃ B, Ans B wc p5 o5 X) := by
          obtain ⟨B, h⟩ := A5.out
          exact ⟨B, h.below F3.out.2.1 (Nat.le_refl _)⟩
        have A6 := hid F3.out.1
        have HB := hid F3.out.2.2.2
        clear e0 e1 e2 e3 US3 TM3 AP3 ND GD N2 F3 DN A4 A5
        obtain ⟨B4, h4⟩ := A4'.out
        obtain ⟨B5, h5⟩ := A5'.out
        obtain ⟨B6, h6⟩ := A6.out
        have K1 := hid (CM1.out wc p4 p5 o4 o5 B4 B5 h4 h5)
        have K2 : Hid (∀ wx : World, Below wc.heap.size wc wx → Calls Tryd.prog 43 #[.slice p4 o4.length o4.length, .slice p6 o6.length o6.length] wx fun e w' => e = .returned (.int .i64 c') ∧ Below wx.heap.size wx w') := fun wx hx => CM2.out wx p4 p6 o4 o6 B4 B6 (h4.below hx (Nat.le_refl _)) (h6.below hx (Nat.le_refl _))
        clear h4 h5 h6 A4' A5' A6 CM1 CM2
        rcases hc1 with rfl | ⟨rfl, he⟩ <;> rcases hc1' with rfl | ⟨rfl, he'⟩
        · skip
          go_wp2_with fail
          refine K1.out.mono ?_
          rintro e wd ⟨rfl, hBd⟩
          have K3 := hid (K2.out wd hBd)
          have HBd := hid (HB.out.trans (hBd.mono HB.out.size))
          clear hBd K1 K2
          go_wp2_with fail
          refine K3.out.mono ?_
          rintro e we ⟨rfl, hBe⟩
          have HBe := hid (HBd.out.trans (hBe.mono HBd.out.size))
          clear hBe K3
          go_wp2_with fail
          go_ret
          exact ⟨rfl, HBe.out⟩
        · subst he'
          go_wp2_with fail
          refine K1.out.mono ?_
          rintro e wd ⟨rfl, hBd⟩
          have K3 := hid (K2.out wd hBd)
          have HBd := hid (HB.out.trans (hBd.mono HB.out.size))
          clear hBd K1 K2
          go_wp2_with fail
          refine K3.out.mono ?_
          rintro e we ⟨rfl, hBe⟩
          have HBe := hid (HBd.out.trans (hBe.mono HBd.out.size))
          clear hBe K3
          go_wp2_with fail
          go_ret
          exact ⟨rfl, HBe.out⟩
        · subst he
          go_wp2_with fail
          refine K1.out.mono ?_
          rintro e wd ⟨rfl, hBd⟩
          have K3 := hid (K2.out wd hBd)
          have HBd := hid (HB.out.trans (hBd.mono HB.out.size))
          clear hBd K1 K2
          go_wp2_with fail
          refine K3.out.mono ?_
          rintro e we ⟨rfl, hBe⟩
          have HBe := hid (HBd.out.trans (hBe.mono HBd.out.size))
          clear hBe K3
          go_wp2_with fail
          go_ret
          exact ⟨rfl, HBe.out⟩
        · subst he
          clear he'
          go_wp2_with fail
          refine K1.out.mono ?_
          rintro e wd ⟨rfl, hBd⟩
          have K3 := hid (K2.out wd hBd)
          have HBd := hid (HB.out.trans (hBd.mono HB.out.size))
          clear hBd K1 K2
          go_wp2_with fail
          refine K3.out.mono ?_
          rintro e we ⟨rfl, hBe⟩
          have HBe := hid (HBd.out.trans (hBe.mono HBd.out.size))
          clear hBe K3
          go_wp2_with fail
          go_ret
          exact ⟨rfl, HBe.out⟩
end Go.Proofs.YtjebdobopechfaaDoor
