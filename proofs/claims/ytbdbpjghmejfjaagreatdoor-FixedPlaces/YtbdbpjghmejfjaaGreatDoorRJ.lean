/-
  Texts put together: FRPlaces, OpenList, OpenAsks.
-/
import Derived.Test.YtbdbpjghmejfjaaGreatDoorRG
import Derived.Test.YtbdbpjghmejfjaaGreatDoorRH
import Derived.Test.YtbdbpjghmejfjaaGreatDoorRI
import Derived.BigQuiet
import Derived.Test.YtbdbpjghmejfjaaGreatDoorMem
import Derived.SizedLaws
import Derived.ProofKit
namespace Go.Proofs.YtbdbpjghmejfjaaGreatDoor
open Go Go.RowKit Go.Deep
namespace Fx
theorem W_zero {d : Int} (hf : Ie.fnt d = true) (hz : Ie.dm d = 0) (n : Nat) : W d n = List.replicate (n + 1) 48 := by
  obtain ⟨a, b⟩ := X_zero hf hz
  have e : kp [48] (([48] : List Int).length + 0 + n) = List.replicate (n + 1) 48 := by
    have := kp_full (xs := [48]) (c := n + 1) (by simp)
    rw [show (([48] : List Int).length : Int) + 0 + n = ((n + 1 : Nat) : Int) by simp; omega, this]
    simp [List.replicate_succ]
  unfold W
  rw [a, b, e]
  simp
theorem X_not0 {d : Int} (hf : Ie.fnt d = true) (hm : 0 < Ie.dm d) : X d ≠ [48] := by
  intro c
  have := ((X_ex hf).nml hm).head
  rw [c] at this
  simp at this
end Fx

set_option maxRecDepth 100000 in
set_option maxHeartbeats 8000000 in
theorem rplaces_any (d n : Int) (w : World) (h0 : 0 ≤ d) (h1 : d < 18446744073709551616) (n0 : -9223372036854775808 ≤ n) (n1 : n ≤ 9223372036854775807) :
    Calls Tryz.prog 23 #[.int .u64 d, .int .i64 n] w fun e w' => PlacesTold d n w e w' := by
  have RA := hid (rall_any d w h0 h1)
  unfold AllTold at RA
  by_cases hf : Ie.fnt d = true
  · rw [Fx.aS, Fx.aE, Fx.aR, if_pos hf, if_pos hf, if_pos hf] at RA
    generalize hsn : Fx.aN d = sn at *
    clear hsn
    by_cases hn : n < 0 ∨ 4200 < n
    · have R : Fx.rf d n 0 = 1 := by rw [Fx.rf, if_pos hf, if_pos hn]
      have F : Hid (∀ w', Below w.heap.size w w' → PlacesTold d n w (.returned (.tuple #[.string ⟨#[]⟩, .string ⟨#[]⟩, .int .i64 1])) w') := fun w' hB => ⟨_, _, by rw [R], by rw [Fx.pA, if_neg (by omega)]; rfl, by rw [Fx.pB, if_neg (by omega)]; rfl, hB⟩
      generalize Fx.P d = P at *
      clear R h0 h1 hf
      rcases (show n < 0 ∨ (0 ≤ n ∧ 4200 < n) by omega) with hn | ⟨hn, hn2⟩
      all_goals
        go_enter Tryz.func23, Tryz.ntmps23
        go_wp2_with fail
        refine RA.out.mono ?_
        rintro e w1 ⟨s, rfl, hs, B1⟩
        have HS := hid hs
        go_upto_region 2 with fail
        have B2 := B1.trans ((alloc_b w1 (.cells #[.bool sn, .string s, .int .i64 P] 48)).mono B1.size)
        have Z := FR3.new w1 (.bool sn) (.string s) (.int .i64 P)
        obtain ⟨SS, KS, CS, BS, MS⟩ := state (fun w' => w'.cell? ⟨w1.heap.size, 1, none⟩ = some (.string s) ∧ w'.cell? ⟨w1.heap.size, 2, none⟩ = some (.int .i64 P)) w ((Stays.cell _ _).and (Stays.cell _ _))
        have S1 := hid (MS.out _ ⟨Z.cells.1.2.1, Z.cells.1.2.2⟩ B2)
        clear hs B1 B2 Z MS RA
        generalize w1.alloc (.cells #[.bool sn, .string s, .int .i64 P] 48) = wA at *
        generalize w1.heap.size = b at *
        obtain ⟨c1, c2⟩ := CS.out _ S1.out
        go_wp2_with fail
        go_ret3
        exact F.out _ (BS.out _ S1.out)
    · obtain ⟨k, rfl⟩ := Int.eq_ofNat_of_zero_le (show 0 ≤ n by omega)
      have hk : k ≤ 4200 := by omega
      have hr : Fx.rf d k 0 = 0 := Fx.rf_zero.2 ⟨hf, by omega, by omega⟩
      have G : Hid (∀ (w' : World) (ab : ByteArray), Str ab (Fx.W d k) → Below w.heap.size w w' → k ≤ ab.size ∧ ab.size ≤ 12000 ∧ PlacesTold d k w (.returned (.tuple #[.string (ab.extract 0 (ab.size - k)), .string (ab.extract (ab.size - k) ab.size), .int .i64 0])) w') := by
        intro w' ab hab hB
        have hz := hab.size
        have hwl := Fx.W_len d k
        have hwr := Fx.dv_W_room hf hk
        have e1 := hab.extract 0 (ab.size - k)
        have e2 := hab.extract (ab.size - k) ab.size
        rw [List.drop_zero, Nat.sub_zero] at e1
        rw [List.take_of_length_le (by rw [List.length_drop, hz]; omega)] at e2
        rw [hz] at e1 e2
        refine ⟨by omega, by omega, ⟨_, _, by rw [hr], ?_, ?_, hB⟩⟩
        · rw [Fx.pA, if_pos hr, Int.toNat_natCast, hz]; exact e1
        · rw [Fx.pB, if_pos hr, Int.toNat_natCast, hz]; exact e2
      obtain ⟨r1, r2, r3, r4, r5⟩ := Fx.X_room hf
      have kb : (k : Int) ≤ 4200 := by omega
      by_cases hm : Ie.dm d = 0
      · obtain ⟨x1, x2⟩ := Fx.X_zero hf hm
        rw [x1, x2] at RA
        have SI : Hid (∀ s : ByteArray, Str s [48] → s = ⟨#[48]⟩) := fun s h => h.inj rfl
        have W0 : Hid (∀ (t : ByteArray) (z : Nat), z = k + 1 → Str t (List.replicate z 48) → Str (t ++ (⟨#[]⟩ : ByteArray)) (Fx.W d k)) := fun t z hz ht => by
          rw [Fx.W_zero hf hm, ← hz]
          have := ht.app (show Str (⟨#[]⟩ : ByteArray) [] from rfl)
          rw [List.append_nil] at this
          exact this
        generalize Fx.W d k = WD at *
        obtain ⟨P, hP⟩ : ∃ P : Int, 0 = P := ⟨_, rfl⟩
        rw [hP] at RA
        clear h0 h1 hf hr r1 r2 r3 r4 r5 x1 x2 hm hn n0 n1
        go_enter Tryz.func23, Tryz.ntmps23
        go_wp2_with fail
        refine RA.out.mono ?_
        rintro e w1 ⟨s, rfl, hs, B1⟩
        have HS := hid hs
        go_upto_region 2 with fail
        have B2 := B1.trans ((alloc_b w1 (.cells #[.bool sn, .string s, .int .i64 P] 48)).mono B1.size)
        have Z := FR3.new w1 (.bool sn) (.string s) (.int .i64 P)
        obtain ⟨SS, KS, CS, BS, MS⟩ := state (fun w' => w'.cell? ⟨w1.heap.size, 1, none⟩ = some (.string s) ∧ w'.cell? ⟨w1.heap.size, 2, none⟩ = some (.int .i64 P)) w ((Stays.cell _ _).and (Stays.cell _ _))
        have S1 := hid (MS.out _ ⟨Z.cells.1.2.1, Z.cells.1.2.2⟩ B2)
        clear hs B1 B2 Z MS RA
        generalize w1.alloc (.cells #[.bool sn, .string s, .int .i64 P] 48) = wA at *
        generalize w1.heap.size = b at *
        obtain ⟨c1, c2⟩ := CS.out _ S1.out
        obtain rfl := SI.out s HS.out
        clear SI HS
        subst hP
        obtain ⟨z, hz⟩ : ∃ z : Nat, (k : Int) + 1 = (z : Int) := ⟨k + 1, by omega⟩
        have Z6 := hid (fun wx : World => rzeros_any z wx (by omega))
        have FS : Hid (∀ t : ByteArray, Str t (List.replicate z 48) → Str (t ++ (⟨#[]⟩ : ByteArray)) WD ∧ (t.size : Int) ≤ 10000) := fun t ht => ⟨W0.out t z (by omega) ht, by rw [ht.size, List.length_replicate]; omega⟩
        go_wp2_with fail
        refine (Z6.out _).mono ?_
        rintro e w10 ⟨t, rfl, ht, B10⟩
        obtain ⟨hab, tz⟩ := FS.out t ht
        have HAB := hid hab
        have S10 := hid (KS.out _ _ S1.out B10)
        clear B10 ht hab FS Z6 c1 c2
        obtain ⟨g1, g2, -⟩ := G.out _ (t ++ (⟨#[]⟩ : ByteArray)) HAB.out (BS.out _ S10.out)
        have HG := hid (fun q : Nat => (G.out _ (t ++ (⟨#[]⟩ : ByteArray)) HAB.out (below_drewN (BS.out _ S10.out) q)).2.2)
        go_upto_region 17 with fail
        generalize (t ++ (⟨#[]⟩ : ByteArray)) = ab at *
        (try clear z2)
        obtain ⟨N, hN⟩ : ∃ N, ab.size = N := ⟨_, rfl⟩
        rw [hN] at HG g1 g2
        obtain ⟨j9, hj9⟩ : ∃ j9, N - k = j9 := ⟨_, rfl⟩
        rw [hj9] at HG
        have nj : (N : Int) - (k : Int) = (j9 : Int) := by omega
        have jN : (j9 : Int) ≤ (N : Int) := by omega
        have nb : (N : Int) ≤ 12000 := by omega
        clear hj9 HAB
        go_quiet (fail)
        go_wp2_with fail
        go_ret3
        exact HG.out _
      · have mp : 0 < Ie.dm d := by have := (Ie.fdec d (of_decide_eq_true hf)).1; omega
        have xn := Fx.X_not0 hf mp
        have nm := (Fx.X_ex hf).nml mp
        obtain ⟨c, hc⟩ : ∃ c, (Fx.X d).length + Fx.P d + (k : Int) = c := ⟨_, rfl⟩
        have WW : Hid (∀ z, z = k + 1 - (Fx.kp (Fx.X d) c).length → Fx.W d k = List.replicate z 48 ++ Fx.kp (Fx.X d) c) := by
          intro z hz
          unfold Fx.W
          rw [hc, hz]
        have VB : (Fx.kp (Fx.X d) c).length ≤ 6000 := by
          have := Fx.kp_len_le (xs := Fx.X d) (c := c) (m := 5999) (by omega) (by omega)
          omega
        have W0 : Hid (c < 0 → ∀ (t : ByteArray) (z : Nat), z = k + 1 → Str t (List.replicate z 48) → Str (t ++ (⟨#[]⟩ : ByteArray)) (Fx.W d k)) := fun h t z hz ht => by
          rw [WW.out z (by rw [Fx.kp_neg h]; simp; exact hz), Fx.kp_neg h]
          exact ht.app rfl
        have KF : Hid (∀ (j : Nat) (s t : ByteArray), Fx.P d + (k : Int) = (j : Int) → Str s (Fx.X d) → Str t (List.replicate j 48) → Str (s ++ t) (Fx.kp (Fx.X d) c)) := by
          intro j s t hj hs ht
          rw [show c = (((Fx.X d).length + j : Nat) : Int) by omega, Fx.kp_full (by omega), Nat.add_sub_cancel_left]
          exact hs.app ht
        have KC : Hid (∀ (wx : World) (s : ByteArray) (j : Nat), c = (j : Int) → j < (Fx.X d).length → Str s (Fx.X d) → Calls Tryz.prog 45 #[.string s, .int .i64 (j : Int)] wx fun e w' => ∃ s', e = .returned (.string s') ∧ Str s' (Fx.kp (Fx.X d) c) ∧ Below wx.heap.size wx w') := by
          intro wx s j hj hl hs
          rw [hj, Fx.kp_cut hl]
          exact rcut_any s _ j wx hs nm.digs (by omega) (by omega) nm.last
        obtain ⟨L, hL⟩ : ∃ L, (Fx.X d).length = L := ⟨_, rfl⟩
        have SX : Hid (∀ s : ByteArray, Str s (Fx.X d) → s.size = L ∧ (s.toList == [48]) = false) := fun s hs => by
          refine ⟨by rw [hs.size, hL], ?_⟩
          have := hs.eq (show Str (⟨#[48]⟩ : ByteArray) [48] from rfl)
          rw [show (⟨#[48]⟩ : ByteArray).toList = [48] by rw [ByteArray.toList_eq]] at this
          rw [this]
          exact decide_eq_false xn
        rw [hL] at r1 r2 r4 r5 hc KC
        obtain ⟨v2, hv2⟩ : ∃ v2, (Fx.kp (Fx.X d) c).length = v2 := ⟨_, rfl⟩
        have SV2 : Hid (∀ s : ByteArray, Str s (Fx.kp (Fx.X d) c) → s.size = v2) := fun s hs => by rw [hs.size, hv2]
        have VL : Hid ((Fx.kp (Fx.X d) c).length = v2) := hv2
        rw [hv2] at VB
        clear h0 h1 hf hr hL hv2 xn nm mp hm hn n0 n1
        generalize Fx.W d k = WD at *
        generalize Fx.kp (Fx.X d) c = V2 at *
        generalize Fx.X d = X at *
        generalize Fx.P d = P at *
        have v2b : (v2 : Int) ≤ 6000 := by omega
        obtain ⟨mv, hmv⟩ : ∃ mv, P + (k : Int) = mv := ⟨_, rfl⟩
        have hcm : (L : Int) + mv = c := by omega
        have lb : (L : Int) ≤ 1383 := by omega
        have mb1 : -1074 ≤ mv := by omega
        have mb2 : mv ≤ 4600 := by omega
        rcases (show 0 ≤ mv ∨ (mv < 0 ∧ (L : Int) < -mv) ∨ (mv < 0 ∧ -mv ≤ (L : Int)) by omega) with hq | ⟨hq, hq2⟩ | ⟨hq, hq2⟩
        · obtain ⟨j, hj⟩ := Int.eq_ofNat_of_zero_le hq
          have Z8 := hid (fun wx : World => rzeros_any j wx (by omega))
          clear W0 KC
          have hmj := hmv.trans hj
          have HMJ := hid hmj
          clear hmj
          subst hj
          go_enter Tryz.func23, Tryz.ntmps23
          go_wp2_with fail
          refine RA.out.mono ?_
          rintro e w1 ⟨s, rfl, hs, B1⟩
          have HS := hid hs
          go_upto_region 2 with fail
          have B2 := B1.trans ((alloc_b w1 (.cells #[.bool sn, .string s, .int .i64 P] 48)).mono B1.size)
          have Z := FR3.new w1 (.bool sn) (.string s) (.int .i64 P)
          obtain ⟨SS, KS, CS, BS, MS⟩ := state (fun w' => w'.cell? ⟨w1.heap.size, 1, none⟩ = some (.string s) ∧ w'.cell? ⟨w1.heap.size, 2, none⟩ = some (.int .i64 P)) w ((Stays.cell _ _).and (Stays.cell _ _))
          have S1 := hid (MS.out _ ⟨Z.cells.1.2.1, Z.cells.1.2.2⟩ B2)
          clear hs B1 B2 Z MS RA
          generalize w1.alloc (.cells #[.bool sn, .string s, .int .i64 P] 48) = wA at *
          generalize w1.heap.size = b at *
          obtain ⟨c1, c2⟩ := CS.out _ S1.out
          obtain ⟨sz, sne⟩ := SX.out s HS.out
          clear SX
          go_wp2_with fail
          refine (Z8.out _).mono ?_
          rintro e w9 ⟨t9, rfl, ht9, B9⟩
          have S9 := hid (KS.out _ _ S1.out B9)
          have HW2 := hid (KF.out j s t9 HMJ.out HS.out ht9)
          have z2 := SV2.out _ HW2.out
          have t9s : (t9.size : Int) ≤ 6000 := by rw [ht9.size, List.length_replicate]; omega
          clear ht9 B9 S1 Z8 KF SV2 c1 c2 HS
          obtain ⟨c1, c2⟩ := CS.out _ S9.out
          go_upto_region 15 with fail
          generalize s ++ t9 = wt2 at *
          by_cases hv : v2 ≤ k
          · obtain ⟨z, hz⟩ : ∃ z : Nat, (k : Int) + 1 - (v2 : Int) = (z : Int) := ⟨k + 1 - v2, by omega⟩
            have Z6 := hid (fun wx : World => rzeros_any z wx (by omega))
            have hvi : (v2 : Int) ≤ (k : Int) := by omega
            have FS : Hid (∀ t : ByteArray, Str t (List.replicate z 48) → Str (t ++ wt2) WD ∧ (t.size : Int) ≤ 10000) := fun t ht => ⟨by rw [WW.out z (by have := VL.out; omega)]; exact ht.app HW2.out, by rw [ht.size, List.length_replicate]; omega⟩
            go_wp2_with fail
            refine (Z6.out _).mono ?_
            rintro e w10 ⟨t, rfl, ht, B10⟩
            obtain ⟨hab, tz⟩ := FS.out t ht
            have HAB := hid hab
            have S10 := hid (KS.out _ _ S9.out B10)
            clear B10 ht hab FS Z6 c1 c2
            obtain ⟨g1, g2, -⟩ := G.out _ (t ++ wt2) HAB.out (BS.out _ S10.out)
            have HG := hid (fun q : Nat => (G.out _ (t ++ wt2) HAB.out (below_drewN (BS.out _ S10.out) q)).2.2)
            go_upto_region 17 with fail
            generalize (t ++ wt2) = ab at *
            (try clear z2)
            obtain ⟨N, hN⟩ : ∃ N, ab.size = N := ⟨_, rfl⟩
            rw [hN] at HG g1 g2
            obtain ⟨j9, hj9⟩ : ∃ j9, N - k = j9 := ⟨_, rfl⟩
            rw [hj9] at HG
            have nj : (N : Int) - (k : Int) = (j9 : Int) := by omega
            have jN : (j9 : Int) ≤ (N : Int) := by omega
            have nb : (N : Int) ≤ 12000 := by omega
            clear hj9 HAB
            go_quiet (fail)
            go_wp2_with fail
            go_ret3
            exact HG.out _
          · have hvi : ¬ (v2 : Int) ≤ (k : Int) := by omega
            have HAB : Hid (Str wt2 WD) := by
              show Str _ _
              rw [WW.out 0 (by have := VL.out; omega)]
              exact HW2.out
            clear c1 c2
            obtain ⟨g1, g2, -⟩ := G.out _ wt2 HAB.out (BS.out _ S9.out)
            have HG := hid (fun q : Nat => (G.out _ wt2 HAB.out (below_drewN (BS.out _ S9.out) q)).2.2)
            go_upto_region 17 with fail
            generalize wt2 = ab at *
            (try clear z2)
            obtain ⟨N, hN⟩ : ∃ N, ab.size = N := ⟨_, rfl⟩
            rw [hN] at HG g1 g2
            obtain ⟨j9, hj9⟩ : ∃ j9, N - k = j9 := ⟨_, rfl⟩
            rw [hj9] at HG
            have nj : (N : Int) - (k : Int) = (j9 : Int) := by omega
            have jN : (j9 : Int) ≤ (N : Int) := by omega
            have nb : (N : Int) ≤ 12000 := by omega
            clear hj9 HAB
            go_quiet (fail)
            go_wp2_with fail
            go_ret3
            exact HG.out _
        · have W1 := hid (W0.out (by omega))
          clear W0 KC KF SV2 WW VL VB v2b
          have W0 := W1
          clear W1
          have hq3 : ¬ 0 ≤ mv := by omega
          go_enter Tryz.func23, Tryz.ntmps23
          go_wp2_with fail
          refine RA.out.mono ?_
          rintro e w1 ⟨s, rfl, hs, B1⟩
          have HS := hid hs
          go_upto_region 2 with fail
          have B2 := B1.trans ((alloc_b w1 (.cells #[.bool sn, .string s, .int .i64 P] 48)).mono B1.size)
          have Z := FR3.new w1 (.bool sn) (.string s) (.int .i64 P)
          obtain ⟨SS, KS, CS, BS, MS⟩ := state (fun w' => w'.cell? ⟨w1.heap.size, 1, none⟩ = some (.string s) ∧ w'.cell? ⟨w1.heap.size, 2, none⟩ = some (.int .i64 P)) w ((Stays.cell _ _).and (Stays.cell _ _))
          have S1 := hid (MS.out _ ⟨Z.cells.1.2.1, Z.cells.1.2.2⟩ B2)
          clear hs B1 B2 Z MS RA
          generalize w1.alloc (.cells #[.bool sn, .string s, .int .i64 P] 48) = wA at *
          generalize w1.heap.size = b at *
          obtain ⟨c1, c2⟩ := CS.out _ S1.out
          obtain ⟨sz, sne⟩ := SX.out s HS.out
          clear SX HS
          obtain ⟨z, hz⟩ : ∃ z : Nat, (k : Int) + 1 = (z : Int) := ⟨k + 1, by omega⟩
          have Z6 := hid (fun wx : World => rzeros_any z wx (by omega))
          have FS : Hid (∀ t : ByteArray, Str t (List.replicate z 48) → Str (t ++ (⟨#[]⟩ : ByteArray)) WD ∧ (t.size : Int) ≤ 10000) := fun t ht => ⟨W0.out t z (by omega) ht, by rw [ht.size, List.length_replicate]; omega⟩
          go_wp2_with fail
          refine (Z6.out _).mono ?_
          rintro e w10 ⟨t, rfl, ht, B10⟩
          obtain ⟨hab, tz⟩ := FS.out t ht
          have HAB := hid hab
          have S10 := hid (KS.out _ _ S1.out B10)
          clear B10 ht hab FS Z6 c1 c2
          obtain ⟨g1, g2, -⟩ := G.out _ (t ++ (⟨#[]⟩ : ByteArray)) HAB.out (BS.out _ S10.out)
          have HG := hid (fun q : Nat => (G.out _ (t ++ (⟨#[]⟩ : ByteArray)) HAB.out (below_drewN (BS.out _ S10.out) q)).2.2)
          go_upto_region 17 with fail
          generalize (t ++ (⟨#[]⟩ : ByteArray)) = ab at *
          (try clear z2)
          obtain ⟨N, hN⟩ : ∃ N, ab.size = N := ⟨_, rfl⟩
          rw [hN] at HG g1 g2
          obtain ⟨j9, hj9⟩ : ∃ j9, N - k = j9 := ⟨_, rfl⟩
          rw [hj9] at HG
          have nj : (N : Int) - (k : Int) = (j9 : Int) := by omega
          have jN : (j9 : Int) ≤ (N : Int) := by omega
          have nb : (N : Int) ≤ 12000 := by omega
          clear hj9 HAB
          go_quiet (fail)
          go_wp2_with fail
          go_ret3
          exact HG.out _
        · obtain ⟨j, hj⟩ : ∃ j : Nat, (L : Int) + mv = (j : Int) := ⟨((L : Int) + mv).toNat, by omega⟩
          have hq3 : ¬ 0 ≤ mv := by omega
          have hq4 : ¬ (L : Int) < -mv := by omega
          have KC2 : Hid (∀ (wx : World) (s : ByteArray), Str s X → Calls Tryz.prog 45 #[.string s, .int .i64 (j : Int)] wx fun e w' => ∃ s', e = .returned (.string s') ∧ Str s' V2 ∧ Below wx.heap.size wx w') := fun wx s hs => KC.out wx s j (by omega) (by omega) hs
          clear W0 KC KF hcm hc
          go_enter Tryz.func23, Tryz.ntmps23
          go_wp2_with fail
          refine RA.out.mono ?_
          rintro e w1 ⟨s, rfl, hs, B1⟩
          have HS := hid hs
          go_upto_region 2 with fail
          have B2 := B1.trans ((alloc_b w1 (.cells #[.bool sn, .string s, .int .i64 P] 48)).mono B1.size)
          have Z := FR3.new w1 (.bool sn) (.string s) (.int .i64 P)
          obtain ⟨SS, KS, CS, BS, MS⟩ := state (fun w' => w'.cell? ⟨w1.heap.size, 1, none⟩ = some (.string s) ∧ w'.cell? ⟨w1.heap.size, 2, none⟩ = some (.int .i64 P)) w ((Stays.cell _ _).and (Stays.cell _ _))
          have S1 := hid (MS.out _ ⟨Z.cells.1.2.1, Z.cells.1.2.2⟩ B2)
          clear hs B1 B2 Z MS RA
          generalize w1.alloc (.cells #[.bool sn, .string s, .int .i64 P] 48) = wA at *
          generalize w1.heap.size = b at *
          obtain ⟨c1, c2⟩ := CS.out _ S1.out
          obtain ⟨sz, sne⟩ := SX.out s HS.out
          clear SX
          have C8 := hid (KC2.out wA s HS.out)
          clear KC2
          go_wp2_with fail
          refine C8.out.mono ?_
          rintro e w9 ⟨wt2, rfl, hw2, B9⟩
          have S9 := hid (KS.out _ _ S1.out B9)
          have z2 := SV2.out wt2 hw2
          have HW2 := hid hw2
          clear hw2 B9 S1 C8 SV2 c1 c2 HS
          obtain ⟨c1, c2⟩ := CS.out _ S9.out
          by_cases hv : v2 ≤ k
          · obtain ⟨z, hz⟩ : ∃ z : Nat, (k : Int) + 1 - (v2 : Int) = (z : Int) := ⟨k + 1 - v2, by omega⟩
            have Z6 := hid (fun wx : World => rzeros_any z wx (by omega))
            have hvi : (v2 : Int) ≤ (k : Int) := by omega
            have FS : Hid (∀ t : ByteArray, Str t (List.replicate z 48) → Str (t ++ wt2) WD ∧ (t.size : Int) ≤ 10000) := fun t ht => ⟨by rw [WW.out z (by have := VL.out; omega)]; exact ht.app HW2.out, by rw [ht.size, List.length_replicate]; omega⟩
            go_wp2_with fail
            refine (Z6.out _).mono ?_
            rintro e w10 ⟨t, rfl, ht, B10⟩
            obtain ⟨hab, tz⟩ := FS.out t ht
            have HAB := hid hab
            have S10 := hid (KS.out _ _ S9.out B10)
            clear B10 ht hab FS Z6 c1 c2
            obtain ⟨g1, g2, -⟩ := G.out _ (t ++ wt2) HAB.out (BS.out _ S10.out)
            have HG := hid (fun q : Nat => (G.out _ (t ++ wt2) HAB.out (below_drewN (BS.out _ S10.out) q)).2.2)
            go_upto_region 17 with fail
            generalize (t ++ wt2) = ab at *
            (try clear z2)
            obtain ⟨N, hN⟩ : ∃ N, ab.size = N := ⟨_, rfl⟩
            rw [hN] at HG g1 g2
            obtain ⟨j9, hj9⟩ : ∃ j9, N - k = j9 := ⟨_, rfl⟩
            rw [hj9] at HG
            have nj : (N : Int) - (k : Int) = (j9 : Int) := by omega
            have jN : (j9 : Int) ≤ (N : Int) := by omega
            have nb : (N : Int) ≤ 12000 := by omega
            clear hj9 HAB
            go_quiet (fail)
            go_wp2_with fail
            go_ret3
            exact HG.out _
          · have hvi : ¬ (v2 : Int) ≤ (k : Int) := by omega
            have HAB : Hid (Str wt2 WD) := by
              show Str _ _
              rw [WW.out 0 (by have := VL.out; omega)]
              exact HW2.out
            clear c1 c2
            obtain ⟨g1, g2, -⟩ := G.out _ wt2 HAB.out (BS.out _ S9.out)
            have HG := hid (fun q : Nat => (G.out _ wt2 HAB.out (below_drewN (BS.out _ S9.out) q)).2.2)
            go_upto_region 17 with fail
            generalize wt2 = ab at *
            (try clear z2)
            obtain ⟨N, hN⟩ : ∃ N, ab.size = N := ⟨_, rfl⟩
            rw [hN] at HG g1 g2
            obtain ⟨j9, hj9⟩ : ∃ j9, N - k = j9 := ⟨_, rfl⟩
            rw [hj9] at HG
            have nj : (N : Int) - (k : Int) = (j9 : Int) := by omega
            have jN : (j9 : Int) ≤ (N : Int) := by omega
            have nb : (N : Int) ≤ 12000 := by omega
            clear hj9 HAB
            go_quiet (fail)
            go_wp2_with fail
            go_ret3
            exact HG.out _
  · have hf' : Ie.fnt d = false := by simpa using hf
    have R : Fx.rf d n 0 = 5 := by rw [Fx.rf, if_neg hf]
    have F : Hid (∀ w', Below w.heap.size w w' → PlacesTold d n w (.returned (.tuple #[.string ⟨#[]⟩, .string ⟨#[]⟩, .int .i64 5])) w') := fun w' hB => ⟨_, _, by rw [R], by rw [Fx.pA, if_neg (by omega)]; rfl, by rw [Fx.pB, if_neg (by omega)]; rfl, hB⟩
    rw [Fx.aS, Fx.aE, Fx.aR, if_neg hf, if_neg hf, if_neg hf] at RA
    generalize Fx.aN d = sn at *
    obtain ⟨P, hP⟩ : ∃ P : Int, 0 = P := ⟨_, rfl⟩
    rw [hP] at RA
    clear R h0 h1 hf hf' hP
    go_enter Tryz.func23, Tryz.ntmps23
    go_wp2_with fail
    refine RA.out.mono ?_
    rintro e w1 ⟨s, rfl, hs, B1⟩
    have HS := hid hs
    go_upto_region 2 with fail
    have B2 := B1.trans ((alloc_b w1 (.cells #[.bool sn, .string s, .int .i64 P] 48)).mono B1.size)
    have Z := FR3.new w1 (.bool sn) (.string s) (.int .i64 P)
    obtain ⟨SS, KS, CS, BS, MS⟩ := state (fun w' => w'.cell? ⟨w1.heap.size, 1, none⟩ = some (.string s) ∧ w'.cell? ⟨w1.heap.size, 2, none⟩ = some (.int .i64 P)) w ((Stays.cell _ _).and (Stays.cell _ _))
    have S1 := hid (MS.out _ ⟨Z.cells.1.2.1, Z.cells.1.2.2⟩ B2)
    clear hs B1 B2 Z MS RA
    generalize w1.alloc (.cells #[.bool sn, .string s, .int .i64 P] 48) = wA at *
    generalize w1.heap.size = b at *
    obtain ⟨c1, c2⟩ := CS.out _ S1.out
    go_wp2_with fail
    go_ret3
    exact F.out _ (BS.out _ S1.out)

set_option maxRecDepth 100000 in
set_option maxHeartbeats 8000000 in
theorem rfigures_any (d n : Int) (w : World) (h0 : 0 ≤ d) (h1 : d < 18446744073709551616) (n0 : -9223372036854775808 ≤ n) (n1 : n ≤ 9223372036854775807) :
    Calls Tryz.prog 24 #[.int .u64 d, .int .i64 n] w fun e w' => FiguresTold d n w e w' := by
  have RA := hid (rall_any d w h0 h1)
  unfold AllTold at RA
  by_cases hf : Ie.fnt d = true
  · rw [Fx.aS, Fx.aE, Fx.aR, if_pos hf, if_pos hf, if_pos hf] at RA
    generalize hsn : Fx.aN d = sn at *
    clear hsn
    by_cases hn : n < 1 ∨ 4200 < n
    · have R : Fx.rf d n 1 = 1 := by rw [Fx.rf, if_pos hf, if_pos hn]
      have F : Hid (∀ w', Below w.heap.size w w' → FiguresTold d n w (.returned (.tuple #[.string ⟨#[]⟩, .int .i64 0, .int .i64 1])) w') := fun w' hB => ⟨_, by rw [Fx.gK, if_neg (by omega), R], by rw [Fx.gS, if_neg (by omega)]; rfl, hB⟩
      generalize Fx.P d = P at *
      clear R h0 h1 hf
      rcases (show n < 1 ∨ (1 ≤ n ∧ 4200 < n) by omega) with hn | ⟨hn, hn2⟩
      all_goals
        go_enter Tryz.func24, Tryz.ntmps24
        go_wp2_with fail
        refine RA.out.mono ?_
        rintro e w1 ⟨s, rfl, hs, B1⟩
        have HS := hid hs
        go_upto_region 2 with fail
        have B2 := B1.trans ((alloc_b w1 (.cells #[.bool sn, .string s, .int .i64 P] 48)).mono B1.size)
        have Z := FR3.new w1 (.bool sn) (.string s) (.int .i64 P)
        obtain ⟨SS, KS, CS, BS, MS⟩ := state (fun w' => w'.cell? ⟨w1.heap.size, 1, none⟩ = some (.string s) ∧ w'.cell? ⟨w1.heap.size, 2, none⟩ = some (.int .i64 P)) w ((Stays.cell _ _).and (Stays.cell _ _))
        have S1 := hid (MS.out _ ⟨Z.cells.1.2.1, Z.cells.1.2.2⟩ B2)
        clear hs B1 B2 Z MS RA
        generalize w1.alloc (.cells #[.bool sn, .string s, .int .i64 P] 48) = wA at *
        generalize w1.heap.size = b at *
        obtain ⟨c1, c2⟩ := CS.out _ S1.out
        go_wp2_with fail
        go_ret3
        exact F.out _ (BS.out _ S1.out)
    · obtain ⟨k, rfl⟩ := Int.eq_ofNat_of_zero_le (show 0 ≤ n by omega)
      have hk : k ≤ 4200 := by omega
      have hk1 : 1 ≤ k := by omega
      have hr : Fx.rf d k 1 = 0 := Fx.rf_zero.2 ⟨hf, by omega, by omega⟩
      obtain ⟨r1, r2, r3, r4, r5⟩ := Fx.X_room hf
      have kb : (k : Int) ≤ 4200 := by omega
      have kb1 : (1 : Int) ≤ (k : Int) := by omega
      by_cases hm : Ie.dm d = 0
      · obtain ⟨x1, x2⟩ := Fx.X_zero hf hm
        obtain ⟨y1, y2⟩ := Fx.fig_zero hf hm hk1 hk
        rw [x1, x2] at RA
        have SI : Hid (∀ s : ByteArray, Str s [48] → s = ⟨#[48]⟩) := fun s h => h.inj rfl
        have ZR := hid (fun wx : World => rzeros_any k wx (by omega))
        have F : Hid (∀ (w' : World) (t : ByteArray), Str t (List.replicate k 48) → Below w.heap.size w w' → FiguresTold d k w (.returned (.tuple #[.string t, .int .i64 0, .int .i64 0])) w') := fun w' t ht hB => ⟨t, by rw [y2, hr], by rw [y1]; exact ht, hB⟩
        obtain ⟨P, hP⟩ : ∃ P : Int, 0 = P := ⟨_, rfl⟩
        rw [hP] at RA
        clear h0 h1 hf hr r1 r2 r3 r4 r5 x1 x2 hm hn n0 n1 y1 y2
        go_enter Tryz.func24, Tryz.ntmps24
        go_wp2_with fail
        refine RA.out.mono ?_
        rintro e w1 ⟨s, rfl, hs, B1⟩
        have HS := hid hs
        go_upto_region 2 with fail
        have B2 := B1.trans ((alloc_b w1 (.cells #[.bool sn, .string s, .int .i64 P] 48)).mono B1.size)
        have Z := FR3.new w1 (.bool sn) (.string s) (.int .i64 P)
        obtain ⟨SS, KS, CS, BS, MS⟩ := state (fun w' => w'.cell? ⟨w1.heap.size, 1, none⟩ = some (.string s) ∧ w'.cell? ⟨w1.heap.size, 2, none⟩ = some (.int .i64 P)) w ((Stays.cell _ _).and (Stays.cell _ _))
        have S1 := hid (MS.out _ ⟨Z.cells.1.2.1, Z.cells.1.2.2⟩ B2)
        clear hs B1 B2 Z MS RA
        generalize w1.alloc (.cells #[.bool sn, .string s, .int .i64 P] 48) = wA at *
        generalize w1.heap.size = b at *
        obtain ⟨c1, c2⟩ := CS.out _ S1.out
        obtain rfl := SI.out s HS.out
        clear SI HS
        subst hP
        go_wp2_with fail
        refine (ZR.out _).mono ?_
        rintro e w2 ⟨t, rfl, ht, B2⟩
        have K := hid (F.out w2 t ht ((BS.out _ S1.out).trans (B2.mono (BS.out _ S1.out).size)))
        clear ht B2 ZR F c1 c2
        go_wp2_with fail
        go_ret3
        exact K.out
      · have mp : 0 < Ie.dm d := by have := (Ie.fdec d (of_decide_eq_true hf)).1; omega
        have xn := Fx.X_not0 hf mp
        have nm := (Fx.X_ex hf).nml mp
        obtain ⟨f1, f2, f3, f4⟩ := Fx.fig_cut hf hk1 hk
        have KC : Hid (∀ (wx : World) (s : ByteArray), k < (Fx.X d).length → Str s (Fx.X d) → Calls Tryz.prog 45 #[.string s, .int .i64 (k : Int)] wx fun e w' => ∃ s', e = .returned (.string s') ∧ Str s' (Fx.kp (Fx.X d) k) ∧ Below wx.heap.size wx w') := by
          intro wx s hl hs
          rw [Fx.kp_cut hl]
          exact rcut_any s _ k wx hs nm.digs (by omega) (by omega) nm.last
        have KF : Hid (∀ (j : Nat) (s t : ByteArray), k = (Fx.X d).length + j → Str s (Fx.X d) → Str t (List.replicate j 48) → Str (s ++ t) (Fx.kp (Fx.X d) k)) := by
          intro j s t hj hs ht
          rw [Fx.kp_full (by omega), show k - (Fx.X d).length = j by omega]
          exact hs.app ht
        have KL : (Fx.X d).length ≤ k → (Fx.kp (Fx.X d) k).length = k := fun h => by rw [Fx.kp_full h, List.length_append, List.length_replicate]; omega
        have F : Hid (∀ (w' : World) (t : ByteArray) (y : Int), Str t ((Fx.kp (Fx.X d) k).take k) → y = (Fx.X d).length - 1 + Fx.P d + (Fx.kp (Fx.X d) k).length - k → Below w.heap.size w w' → FiguresTold d k w (.returned (.tuple #[.string t, .int .i64 y, .int .i64 0])) w') := fun w' t y ht hy hB => ⟨t, by rw [f2, hr, hy], by rw [f1]; exact ht, hB⟩
        obtain ⟨L, hL⟩ : ∃ L, (Fx.X d).length = L := ⟨_, rfl⟩
        have SX : Hid (∀ s : ByteArray, Str s (Fx.X d) → s.size = L ∧ (s.toList == [48]) = false) := fun s hs => by
          refine ⟨by rw [hs.size, hL], ?_⟩
          have := hs.eq (show Str (⟨#[48]⟩ : ByteArray) [48] from rfl)
          rw [show (⟨#[48]⟩ : ByteArray).toList = [48] by rw [ByteArray.toList_eq]] at this
          rw [this]
          exact decide_eq_false xn
        rw [hL] at r1 r2 r4 r5 KC KF KL F
        obtain ⟨v2, hv2⟩ : ∃ v2, (Fx.kp (Fx.X d) k).length = v2 := ⟨_, rfl⟩
        have SV2 : Hid (∀ s : ByteArray, Str s (Fx.kp (Fx.X d) k) → s.size = v2 ∧ Str (s.extract 0 k) ((Fx.kp (Fx.X d) k).take k)) := fun s hs => ⟨by rw [hs.size, hv2], by
          have e := hs.extract 0 k
          rw [List.drop_zero, Nat.sub_zero] at e
          exact e⟩
        have TK : Hid (v2 = k → (Fx.kp (Fx.X d) k).take k = Fx.kp (Fx.X d) k) := fun h => List.take_of_length_le (by omega)
        rw [hv2] at F KL f3 f4
        clear h0 h1 hf hr hL hv2 xn nm mp hm hn n0 n1 f1 f2
        generalize Fx.kp (Fx.X d) k = V2 at *
        generalize Fx.X d = X at *
        generalize Fx.P d = P at *
        have v2b : (v2 : Int) ≤ 6000 := by omega
        have lb : (L : Int) ≤ 1383 := by omega
        obtain ⟨y, hy⟩ : ∃ y, P + (L : Int) - 1 = y := ⟨_, rfl⟩
        by_cases hlk : L ≤ k
        · obtain ⟨j, hj⟩ : ∃ j : Nat, (k : Int) - (L : Int) = (j : Int) := ⟨k - L, by omega⟩
          have Z8 := hid (fun wx : World => rzeros_any j wx (by omega))
          have hlki : (L : Int) ≤ (k : Int) := by omega
          have vk := KL hlk
          have TK2 := TK.out vk
          rw [TK2] at F
          have F2 : Hid (∀ (w' : World) (s t : ByteArray), Str s X → Str t (List.replicate j 48) → Below w.heap.size w w' → FiguresTold d k w (.returned (.tuple #[.string (s ++ t), .int .i64 y, .int .i64 0])) w') := fun w' s t hs ht hB => F.out w' _ y (KF.out j s t (by omega) hs ht) (by omega) hB
          clear F KF KC KL TK TK2 SV2 vk
          go_enter Tryz.func24, Tryz.ntmps24
          go_wp2_with fail
          refine RA.out.mono ?_
          rintro e w1 ⟨s, rfl, hs, B1⟩
          have HS := hid hs
          go_upto_region 2 with fail
          have B2 := B1.trans ((alloc_b w1 (.cells #[.bool sn, .string s, .int .i64 P] 48)).mono B1.size)
          have Z := FR3.new w1 (.bool sn) (.string s) (.int .i64 P)
          obtain ⟨SS, KS, CS, BS, MS⟩ := state (fun w' => w'.cell? ⟨w1.heap.size, 1, none⟩ = some (.string s) ∧ w'.cell? ⟨w1.heap.size, 2, none⟩ = some (.int .i64 P)) w ((Stays.cell _ _).and (Stays.cell _ _))
          have S1 := hid (MS.out _ ⟨Z.cells.1.2.1, Z.cells.1.2.2⟩ B2)
          clear hs B1 B2 Z MS RA
          generalize w1.alloc (.cells #[.bool sn, .string s, .int .i64 P] 48) = wA at *
          generalize w1.heap.size = b at *
          obtain ⟨c1, c2⟩ := CS.out _ S1.out
          obtain ⟨sz, sne⟩ := SX.out s HS.out
          clear SX
          go_wp2_with fail
          refine (Z8.out _).mono ?_
          rintro e w9 ⟨t9, rfl, ht9, B9⟩
          have K := hid (F2.out w9 s t9 HS.out ht9 ((BS.out _ S1.out).trans (B9.mono (BS.out _ S1.out).size)))
          have t9s : (t9.size : Int) ≤ 6000 := by rw [ht9.size, List.length_replicate]; omega
          clear ht9 B9 Z8 F2 HS c1 c2
          go_wp2_with fail
          go_ret3
          exact K.out
        · have hlki : ¬ (L : Int) ≤ (k : Int) := by omega
          have KC2 : Hid (∀ (wx : World) (s : ByteArray), Str s X → Calls Tryz.prog 45 #[.string s, .int .i64 (k : Int)] wx fun e w' => ∃ s', e = .returned (.string s') ∧ Str s' V2 ∧ Below wx.heap.size wx w') := fun wx s hs => KC.out wx s (by omega) hs
          have FA : Hid (v2 = k + 1 → ∀ (w' : World) (s : ByteArray), Str s V2 → Below w.heap.size w w' → FiguresTold d k w (.returned (.tuple #[.string (s.extract 0 k), .int .i64 (y + 1), .int .i64 0])) w') := fun h w' s hs hB => F.out w' _ (y + 1) (SV2.out s hs).2 (by omega) hB
          have FB : Hid (v2 = k → ∀ (w' : World) (s : ByteArray), Str s V2 → Below w.heap.size w w' → FiguresTold d k w (.returned (.tuple #[.string s, .int .i64 y, .int .i64 0])) w') := fun h w' s hs hB => F.out w' _ y (by rw [TK.out h]; exact hs) (by omega) hB
          have SV : Hid (∀ s : ByteArray, Str s V2 → s.size = v2) := fun s hs => (SV2.out s hs).1
          clear F KF KC KL TK SV2
          go_enter Tryz.func24, Tryz.ntmps24
          go_wp2_with fail
          refine RA.out.mono ?_
          rintro e w1 ⟨s, rfl, hs, B1⟩
          have HS := hid hs
          go_upto_region 2 with fail
          have B2 := B1.trans ((alloc_b w1 (.cells #[.bool sn, .string s, .int .i64 P] 48)).mono B1.size)
          have Z := FR3.new w1 (.bool sn) (.string s) (.int .i64 P)
          obtain ⟨SS, KS, CS, BS, MS⟩ := state (fun w' => w'.cell? ⟨w1.heap.size, 1, none⟩ = some (.string s) ∧ w'.cell? ⟨w1.heap.size, 2, none⟩ = some (.int .i64 P)) w ((Stays.cell _ _).and (Stays.cell _ _))
          have S1 := hid (MS.out _ ⟨Z.cells.1.2.1, Z.cells.1.2.2⟩ B2)
          clear hs B1 B2 Z MS RA
          generalize w1.alloc (.cells #[.bool sn, .string s, .int .i64 P] 48) = wA at *
          generalize w1.heap.size = b at *
          obtain ⟨c1, c2⟩ := CS.out _ S1.out
          obtain ⟨sz, sne⟩ := SX.out s HS.out
          clear SX
          have C8 := hid (KC2.out wA s HS.out)
          clear KC2
          go_wp2_with fail
          refine C8.out.mono ?_
          rintro e w9 ⟨wt, rfl, hw, B9⟩
          have HB9 := (BS.out _ S1.out).trans (B9.mono (BS.out _ S1.out).size)
          have z2 := SV.out wt hw
          rcases (show v2 = k + 1 ∨ v2 = k by omega) with hv | hv
          · have K := hid (FA.out hv w9 wt hw HB9)
            have hvi : (k : Int) < (v2 : Int) := by omega
            clear hw B9 HB9 C8 FA FB SV HS c1 c2 hv
            go_wp2_with fail
            go_ret3
            exact K.out
          · have K := hid (FB.out hv w9 wt hw HB9)
            have hvi : ¬ (k : Int) < (v2 : Int) := by omega
            clear hw B9 HB9 C8 FA FB SV HS c1 c2 hv
            go_wp2_with fail
            go_ret3
            exact K.out
  · have hf' : Ie.fnt d = false := by simpa using hf
    have R : Fx.rf d n 1 = 5 := by rw [Fx.rf, if_neg hf]
    have F : Hid (∀ w', Below w.heap.size w w' → FiguresTold d n w (.returned (.tuple #[.string ⟨#[]⟩, .int .i64 0, .int .i64 5])) w') := fun w' hB => ⟨_, by rw [Fx.gK, if_neg (by omega), R], by rw [Fx.gS, if_neg (by omega)]; rfl, hB⟩
    rw [Fx.aS, Fx.aE, Fx.aR, if_neg hf, if_neg hf, if_neg hf] at RA
    generalize Fx.aN d = sn at *
    obtain ⟨P, hP⟩ : ∃ P : Int, 0 = P := ⟨_, rfl⟩
    rw [hP] at RA
    clear R h0 h1 hf hf' hP
    go_enter Tryz.func24, Tryz.ntmps24
    go_wp2_with fail
    refine RA.out.mono ?_
    rintro e w1 ⟨s, rfl, hs, B1⟩
    have HS := hid hs
    go_upto_region 2 with fail
    have B2 := B1.trans ((alloc_b w1 (.cells #[.bool sn, .string s, .int .i64 P] 48)).mono B1.size)
    have Z := FR3.new w1 (.bool sn) (.string s) (.int .i64 P)
    obtain ⟨SS, KS, CS, BS, MS⟩ := state (fun w' => w'.cell? ⟨w1.heap.size, 1, none⟩ = some (.string s) ∧ w'.cell? ⟨w1.heap.size, 2, none⟩ = some (.int .i64 P)) w ((Stays.cell _ _).and (Stays.cell _ _))
    have S1 := hid (MS.out _ ⟨Z.cells.1.2.1, Z.cells.1.2.2⟩ B2)
    clear hs B1 B2 Z MS RA
    generalize w1.alloc (.cells #[.bool sn, .string s, .int .i64 P] 48) = wA at *
    generalize w1.heap.size = b at *
    obtain ⟨c1, c2⟩ := CS.out _ S1.out
    go_wp2_with fail
    go_ret3
    exact F.out _ (BS.out _ S1.out)
end Go.Proofs.YtbdbpjghmejfjaaGreatDoor

namespace Go.Proofs.YtbdbpjghmejfjaaGreatDoor
open Go.RowKit Go.Deep Go.ChangeShapes Go.WideShapes Go.ChangeAt

/-- A list of limbs that was read, wherever it stands. -/
theorem open_list {H : Type} {enc : TypeId × Value → H} {W : World} {fuel : Nat} {c : Value} {y : DataW H × List MemPlace} (hf : DataW.trod enc Tryz.prog W 0 (fun _ => true) true fuel 34 [c] = some y)
    (hsz : ∀ n ∈ y.1.weights Tryz.prog 34, n ≤ reachBytes) : ∃ p n cap zs, c = .slice p n cap ∧ Arg W p n cap zs ∧ cap ≤ 17592186043904 := by
  rcases open_ints Tryz.underlying34 Tryz.underlying24 (by kernel_rfl) hf with ⟨hcs, _⟩ | ⟨x, l, cp, zs, hcs, _, hl, hm, hz, hx, hcell, hwz⟩
  · simp only [List.cons.injEq, and_true] at hcs
    exact ⟨none, 0, 0, [], hcs, ⟨rfl, Nat.le_refl _, by omega, Lies.nil _ _, Nm.Limbs.nil⟩, by omega⟩
  · simp only [List.cons.injEq, and_true] at hcs
    have hz' : zs.length = cp := by simpa using hz
    have hr := hsz (((lits (H := H) .u64 (zs.take l)).length + (lits (H := H) .u64 (zs.drop l)).length) * Tryz.prog.bytesOf 24) (by rw [hx]; simp [DataW.weights, Tryz.underlying34])
    rw [show Tryz.prog.bytesOf 24 = 8 by kernel_rfl] at hr
    simp only [lits, List.length_map, List.length_take, List.length_drop, reachBytes] at hr
    have hb : cp ≤ 17592186043904 := by omega
    exact ⟨some x, l, cp, _, hcs, arg_open hl hz' hb hcell hwz, hb⟩

theorem all_mem {H : Type} {P : Program} {e : TypeId} : ∀ {l : List (DataW H)} {d : DataW H}, d ∈ l → ∀ n ∈ d.weights P e, n ∈ DataW.weightsAll P e l
  | [], _, h, _, _ => by simp at h
  | x :: r, d, h, n, hn => by
    simp only [DataW.weightsAll, List.mem_append]
    rcases List.mem_cons.1 h with rfl | h
    · exact .inl hn
    · exact .inr (all_mem h n hn)

/-- What can be told of each place can be told of a list. -/
theorem list_of_each {α : Type} {Q : Nat → α → Prop} : ∀ n, (∀ i, i < n → ∃ x, Q i x) → ∃ l : List α, l.length = n ∧ ∀ i x, l[i]? = some x → Q i x
  | 0, _ => ⟨[], rfl, by simp⟩
  | n + 1, h => by
    obtain ⟨l, h1, h2⟩ := list_of_each n (fun i hi => h i (by omega))
    obtain ⟨x, hx⟩ := h n (by omega)
    refine ⟨l ++ [x], by simp [h1], fun i y hy => ?_⟩
    by_cases hi : i < l.length
    · rw [List.getElem?_append_left hi] at hy
      exact h2 i y hy
    · have hlt := (List.getElem?_eq_some_iff.1 hy).1
      simp only [List.length_append, List.length_cons, List.length_nil] at hlt
      obtain rfl : i = n := by omega
      rw [List.getElem?_append_right (by omega), h1, Nat.sub_self] at hy
      simp at hy
      subst hy
      exact hx
end Go.Proofs.YtbdbpjghmejfjaaGreatDoor

namespace Go.Proofs.YtbdbpjghmejfjaaGreatDoor
open Go.RowKit Go.Deep Go.ChangeShapes Go.WideShapes Go.ChangeAt

/-- A call that was read. -/
structure Ak where
  A : Int
  B : Int

/-- Its two cells stand there. -/
def Ak.Cells (w : World) (b o : Nat) (it : Ak) : Prop :=
  w.cell? ⟨b, o, none⟩ = some (.int .u64 it.A) ∧ w.cell? ⟨b, o + 1, none⟩ = some (.int .i64 it.B)

def Ak.Bd (it : Ak) : Prop := (0 ≤ it.A ∧ it.A < 18446744073709551616) ∧ (-9223372036854775808 ≤ it.B ∧ it.B ≤ 9223372036854775807)

def Ak.Holds (w : World) (a : Option Addr) (its : List Ak) : Prop := its = [] ∨ ∃ b off, a = some ⟨b, off, none⟩ ∧ ∀ i it, its[i]? = some it → Ak.Cells w b (off + i * 2) it

theorem list2o {α : Type} {l : List α} (h : l.length = 2) : ∃ c0 c1, l = [c0, c1] := by
  match l, h with
  | [c0, c1], _ => exact ⟨c0, c1, rfl⟩

theorem open_ask1 {H : Type} {enc : TypeId × Value → H} {W : World} {fuel : Nat} {a0 a1 : Value} {y : DataW H × List MemPlace} (hf : DataW.trod enc Tryz.prog W 0 (fun _ => true) true fuel 26 [a0, a1] = some y) :
    ∃ it : Ak, a0 = .int .u64 it.A ∧ a1 = .int .i64 it.B ∧ it.Bd := by
  obtain ⟨xs, n, _, hx, _, hlen, hfs⟩ := DataW.trod_struct Tryz.underlying26 hf
  obtain ⟨y0, y1, rfl⟩ := list2o hlen
  have cu : Tryz.prog.cellsOf 24 = 1 := by kernel_rfl
  have ci : Tryz.prog.cellsOf 3 = 1 := by kernel_rfl
  have f0 : DataW.trod enc Tryz.prog W 0 (fun _ => true) true n 24 [a0] = some y0 := by simpa [cu] using hfs 0 _ rfl
  have f1 : DataW.trod enc Tryz.prog W 0 (fun _ => true) true n 3 [a1] = some y1 := by simpa [cu, ci] using hfs 1 _ rfl
  obtain ⟨X, e0, _, w0⟩ := DataW.trod_int Tryz.underlying24 f0
  obtain ⟨Y, e1, _, w1⟩ := DataW.trod_int Tryz.underlying3 f1
  have b0 := bounds_u64 w0
  have b1 := bounds_i64 w1
  have bX : 0 ≤ X ∧ X < 18446744073709551616 := by omega
  have bY : -9223372036854775808 ≤ Y ∧ Y ≤ 9223372036854775807 := by omega
  exact ⟨⟨X, Y⟩, (List.cons.inj e0).1, (List.cons.inj e1).1, bX, bY⟩

theorem open_asks {H : Type} {enc : TypeId × Value → H} {W : World} {a : Option Addr} {len cap : Nat} {d : DataW H} {p : List MemPlace} (h : DataW.Trod enc Tryz.prog W 0 (fun _ => true) true 22 (.slice a len cap) d p)
    (hsz : ∀ n ∈ d.weights Tryz.prog 22, n ≤ reachBytes) : ∃ its : List Ak, its.length = len ∧ len ≤ cap ∧ cap ≤ 17592186044416 ∧ Ak.Holds W a its ∧ ∀ it ∈ its, Ak.Bd it := by
  obtain ⟨fuel, hf⟩ := h
  rcases DataW.trod_slice Tryz.underlying22 hf with ⟨hcs, _⟩ | ⟨x, l, c, elems, rest, n, _, hcs, hx, _, hl, hm, he, hel, hsp, _⟩
  · simp [Value.cells] at hcs
    obtain ⟨rfl, rfl, rfl⟩ := hcs
    exact ⟨[], rfl, Nat.le_refl _, by omega, .inl rfl, by intro it h; simp at h⟩
  · simp [Value.cells] at hcs
    obtain ⟨rfl, rfl, rfl⟩ := hcs
    have hd : d = .slice (elems.map (·.1)) (rest.map (·.1)) := (Prod.mk.inj hx).1
    have hw : ∀ n ∈ (DataW.slice (elems.map (·.1)) (rest.map (·.1)) : DataW H).weights Tryz.prog 22, n ≤ reachBytes := by rw [← hd]; exact hsz
    simp only [DataW.weights, Tryz.underlying22] at hw
    have hr := hw _ List.mem_cons_self
    rw [show Tryz.prog.bytesOf 26 = 16 by kernel_rfl] at hr
    have hrl := (hsp rfl).1
    simp only [List.length_map, reachBytes] at hr
    have hcap : cap ≤ 17592186044416 := by omega
    rw [show Tryz.prog.cellsOf 26 = 2 by kernel_rfl] at hel
    obtain ⟨its, i1, i2⟩ := list_of_each (Q := fun i (it : Ak) => (W.cell? (x.add (i * 2)) = some (.int .u64 it.A) ∧ W.cell? ((x.add (i * 2)).add 1) = some (.int .i64 it.B)) ∧ it.Bd) len (fun i hi => by
      have h1 := hel i hi
      have h2 : elems[i]? = some elems[i] := List.getElem?_eq_getElem (by omega)
      rw [h2] at h1
      obtain ⟨cs, h3, h4⟩ := Option.bind_eq_some_iff.1 h1
      obtain ⟨_, h5, h6⟩ := World.cells?_some h3
      obtain ⟨v0, v1, rfl⟩ := list2o h5
      have e0 := h6 0 (by omega)
      have e1 := h6 1 (by omega)
      have h8 : (x.add (i * 2)).add 0 = x.add (i * 2) := by simp [Addr.add]
      rw [h8] at e0
      obtain ⟨it, q0, q1, hA⟩ := open_ask1 h4
      subst q0
      subst q1
      exact ⟨it, ⟨e0, e1⟩, hA⟩)
    refine ⟨its, i1, hl, hcap, ?_, ?_⟩
    · rcases Nat.eq_zero_or_pos its.length with h0 | h0
      · exact .inl (List.eq_nil_of_length_eq_zero h0)
      · obtain ⟨b, off, spot⟩ := x
        have hspot : spot = none := by simpa [Addr.add] using World.cell?_spot (i2 0 _ (List.getElem?_eq_getElem h0)).1.1
        subst hspot
        refine .inr ⟨b, off, rfl, fun i it hi => ?_⟩
        obtain ⟨⟨q0, q1⟩, _⟩ := i2 i it hi
        rw [Go.WideShapes.add_plain] at q0 q1
        rw [Go.WideShapes.add_plain] at q1
        exact ⟨q0, q1⟩
    · intro it hit
      obtain ⟨i, hi⟩ := List.getElem?_of_mem hit
      exact (i2 i it hi).2
end Go.Proofs.YtbdbpjghmejfjaaGreatDoor
