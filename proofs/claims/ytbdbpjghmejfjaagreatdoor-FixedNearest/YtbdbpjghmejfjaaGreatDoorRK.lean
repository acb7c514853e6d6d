/-
  Texts put together: FNearest, FTab.
-/
import Derived.Test.YtbdbpjghmejfjaaGreatDoorRJ
import Derived.Test.YtbdbpjghmejfjaaGreatDoorRG
import Derived.Lib.LaidTab
namespace Go.Proofs.YtbdbpjghmejfjaaGreatDoor
open Go Go.RowKit Go.Deep

theorem Str.is {s t : ByteArray} {xs ys : List Int} (h : Str s xs) (k : Str t ys) (e : xs = ys) : s = t := by subst e; exact h.inj k

theorem Str.neE {s : ByteArray} {xs : List Int} (h : Str s xs) (hx : xs ≠ []) : (s.toList == []) = false ∧ s.toList.isEmpty = false := by
  have e1 : s.toList ≠ [] := by
    intro c
    apply hx
    rw [ByteArray.toList_eq] at c
    rw [← h, c]
    rfl
  exact ⟨by rw [beq_eq_false_iff_ne]; exact e1, by rw [List.isEmpty_eq_false_iff]; exact e1⟩

/-- What the calls ahead of the look tell. -/
def PlIs (s t : ByteArray) (d n : Int) : Prop := Str s (Fx.pA d n) ∧ Str t (Fx.pB d n)

set_option maxRecDepth 100000 in
set_option maxHeartbeats 8000000 in
theorem nearest_law (d n : Int) (w : World) (hT : Tab w) (h0 : 0 ≤ d) (h1 : d < 18446744073709551616) (n0 : -9223372036854775808 ≤ n) (n1 : n ≤ 9223372036854775807) :
    Calls Tryz.prog 4 #[.int .u64 d, .int .i64 n] w fun e w' => e = .returned (.bool true) ∧ Below w.heap.size w w' := by
  have PC : Hid (Calls Tryz.prog 9 #[.int .u64 4593671619917905920, .int .i64 2] w fun e w' => e = .returned (.tuple #[.string ⟨#[48]⟩, .string ⟨#[49, 50]⟩, .int .i64 0]) ∧ Below w.heap.size w w') := by
    refine (places_any 4593671619917905920 2 w hT (by omega) (by omega)).mono ?_
    rintro e w' ⟨s, t, rfl, hs, ht, hB⟩
    obtain ⟨r, a, b⟩ := Fx.pl125
    rw [a] at hs
    rw [b] at ht
    have e1 : s = ⟨#[48]⟩ := hs.inj rfl
    have e2 : t = ⟨#[49, 50]⟩ := ht.inj rfl
    rw [r, e1, e2]
    exact ⟨rfl, hB⟩
  have WO := hid lworks_any
  have PL : Hid (∀ wx : World, Below w.heap.size w wx → Calls Tryz.prog 9 #[.int .u64 d, .int .i64 n] wx fun e w' => PlacesTold d n wx e w') := fun wx hB => places_any d n wx (hT.below hB) h0 h1
  have FI := hid (fun wx : World => lfinite_any d wx h0 h1)
  by_cases hf : Ie.fnt d = true
  · rw [hf] at FI
    by_cases hn : n < 0 ∨ 4200 < n
    · have R : Fx.rf d n 0 = 1 := by rw [Fx.rf, if_pos hf, if_pos hn]
      have PL2 : Hid (∀ wx : World, Below w.heap.size w wx → Calls Tryz.prog 9 #[.int .u64 d, .int .i64 n] wx fun e w' => e = .returned (.tuple #[.string ⟨#[]⟩, .string ⟨#[]⟩, .int .i64 1]) ∧ Below wx.heap.size wx w') := by
        intro wx hB
        refine (PL.out wx hB).mono ?_
        rintro e w' ⟨s, t, rfl, hs, ht, hB⟩
        rw [Fx.pA, if_neg (by omega)] at hs
        rw [Fx.pB, if_neg (by omega)] at ht
        have e1 : s = ⟨#[]⟩ := hs.inj rfl
        have e2 : t = ⟨#[]⟩ := ht.inj rfl
        rw [R, e1, e2]
        exact ⟨rfl, hB⟩
      clear PL R hT h0 h1 hf
      rcases (show n < 0 ∨ (0 ≤ n ∧ 4200 < n) by omega) with hn | ⟨hn, hn2⟩
      all_goals
        go_enter Tryz.func4, Tryz.ntmps4
        go_wp2_with fail
        refine PC.out.mono ?_
        rintro e w1 ⟨rfl, B1⟩
        have HB1 := hid B1
        clear B1 PC
        go_wp2_with fail
        refine (WO.out _).mono ?_
        rintro e w2 ⟨rfl, B2⟩
        have HB2 := hid (HB1.out.trans (B2.mono HB1.out.size))
        clear B2 WO HB1
        go_wp2_with fail
        refine (PL2.out _ HB2.out).mono ?_
        rintro e w3 ⟨rfl, B3⟩
        have HB3 := hid (HB2.out.trans (B3.mono HB2.out.size))
        clear B3 PL2 HB2
        go_wp2_with fail
        refine (FI.out _).mono ?_
        rintro e wz ⟨rfl, hz⟩
        replace hz := hz.symm
        subst hz
        go_wp2_with fail
        go_ret
        exact ⟨rfl, HB3.out⟩
    · obtain ⟨k, rfl⟩ := Int.eq_ofNat_of_zero_le (show 0 ≤ n by omega)
      have hk : k ≤ 4200 := by omega
      obtain ⟨f1, f2, f3, f4, f5, f6, f7⟩ := Fx.pA_facts hf hk
      have R : Fx.rf d k 0 = 0 := Fx.rf_zero.2 ⟨hf, by omega, by omega⟩
      have NR := Fx.near_W hf k
      have v0 := (dv_bd (Fx.W_digs hf k)).1
      have vr : dv (Fx.W d k) < 10 ^ 6000 := Int.lt_of_lt_of_le (dv_bd (Fx.W_digs hf k)).2 (Fx.p_le (Fx.dv_W_room hf hk))
      have RD : Hid (∀ (wx : World) (s t : ByteArray), PlIs s t d k → Calls Tryz.prog 13 #[.string (s ++ t)] wx fun e w' => ∃ r os, e = .returned (.tuple #[.slice r (List.length os) (List.length os), .int .i64 0, .int .i64 0]) ∧ Nn w' r os (dv (Fx.W d k)) ∧ Below wx.heap.size wx w') := by
        intro wx s t h
        have hs : Str (s ++ t) (Fx.W d k) := by rw [← f1]; exact h.1.app h.2
        exact nread_any wx hs (by have := Fx.dv_W_room hf hk; omega) (Fx.W_digs hf k) (by intro c; have := Fx.W_len d k; rw [c] at this; simp at this)
      have DA : Hid (∀ (wx : World) (s t : ByteArray), PlIs s t d k → Calls Tryz.prog 12 #[.string s] wx fun e w' => e = .returned (.bool true) ∧ w' = wx) := fun wx s t h => ldigits_any s _ wx h.1 f4 (by omega)
      have DB : Hid (∀ (wx : World) (s t : ByteArray), PlIs s t d k → Calls Tryz.prog 12 #[.string t] wx fun e w' => e = .returned (.bool true) ∧ w' = wx) := fun wx s t h => ldigits_any t _ wx h.2 f5 (by omega)
      have SF : Hid (∀ (s t : ByteArray), PlIs s t d k → t.size = k ∧ (s.toList == []) = false ∧ s.toList.isEmpty = false ∧ (s.size : Int) ≤ 6000 ∧ ∃ x : Int, (∀ h : 0 < s.size, ((s[0]'h).toNat : Int) = x) ∧ 0 < s.size ∧ (1 < (s.size : Int) → (x == 48) = false)) := by
        intro s t h
        have z := h.1.size
        refine ⟨by rw [h.2.size, f2], (h.1.neE f3).1, (h.1.neE f3).2, by omega, (Fx.pA d k).getD 0 0, fun g => h.1.at 0 g, ?_, fun g => ?_⟩
        · rw [z]; exact List.length_pos_iff.2 f3
        · rw [beq_eq_false_iff_ne]; exact f7 (by omega)
      have SC := hid (fun wx : World => scaled_any d k wx h0 h1 hf (by omega))
      have PL2 : Hid (∀ wx : World, Below w.heap.size w wx → Calls Tryz.prog 9 #[.int .u64 d, .int .i64 (k : Int)] wx fun e w' => ∃ s t, e = .returned (.tuple #[.string s, .string t, .int .i64 0]) ∧ PlIs s t d k ∧ Below wx.heap.size wx w') := by
        intro wx hB
        refine (PL.out wx hB).mono ?_
        rintro e w' ⟨s, t, rfl, hs, ht, hB⟩
        exact ⟨s, t, by rw [R], ⟨hs, ht⟩, hB⟩
      unfold ScaledTold at SC
      obtain ⟨m0, m1, e0, e1, _⟩ := Ie.fdec d (of_decide_eq_true hf)
      have dnb : Fx.dn d ≤ 1074 := by unfold Fx.dn; omega
      have A0 : 0 ≤ Fx.top d k := by
        unfold Fx.top
        exact Int.mul_nonneg (Int.mul_nonneg m0 (Int.le_of_lt (Fx.p_pos k))) (Int.le_of_lt (Int.pow_pos (by omega)))
      have D0 : (0 : Int) < 2 ^ Fx.dn d := Int.pow_pos (by omega)
      have room : dv (Fx.W d k) * 2 ^ Fx.dn d < 10 ^ (6000 + Fx.dn d) := by
        rw [Int.pow_add]
        have a1 := Int.mul_lt_mul_of_pos_right vr D0
        have a2 := Int.mul_le_mul_of_nonneg_left (f2_10 (Fx.dn d)) (Int.le_of_lt (Fx.p_pos 6000))
        exact Int.lt_of_lt_of_le a1 a2
      have fitN : dv (Fx.W d k) * 2 ^ Fx.dn d < Nm.pw 4096 := Int.lt_trans room (fp10_pw (by omega))
      have fitD : (2 : Int) ^ Fx.dn d < Nm.pw 4096 := Int.lt_of_le_of_lt (f2_10 _) (fp10_pw (by omega))
      have dni : (Fx.dn d : Int) ≤ 1074 := by omega
      clear PL R hT h0 h1 hf f1 f2 f3 f4 f5 f6 f7 vr room m0 m1 e0 e1 dnb
      generalize dv (Fx.W d k) = V at *
      generalize Fx.top d k = A at *
      generalize hDn : Fx.dn d = j at *
      clear hDn
      have SN : Hid (∀ (wx : World) (p : Option Addr) (os : List Int), Nn wx p os V → Calls Tryz.prog 15 #[.slice p (List.length os) (List.length os), .int .i64 (j : Int)] wx fun e w' => NnTold (V * 2 ^ j) wx e w') := fun wx p os h => nshl_any h rfl fitN
      have SO : Hid (∀ (wx : World), Calls Tryz.prog 15 #[.slice (some ⟨wx.heap.size, 0, none⟩) 1 1, .int .i64 (j : Int)] (wx.alloc (.cells #[.int .u64 1] 24)) fun e w' => NnTold (2 ^ j) wx e w') := by
        intro wx
        refine (nshl_any (nlit wx (x := 1) (by omega) (by omega)) (n := j) rfl (by rw [Int.one_mul]; exact fitD)).mono ?_
        rintro e w' ⟨r, os, rfl, h, hB⟩
        rw [Int.one_mul] at h
        exact ⟨r, os, rfl, h, (alloc_b wx _).trans (hB.mono (alloc_b wx _).size)⟩
      have TW : Hid (∀ (wx : World) (p : Option Addr) (os : List Int) (g : Int), 2 * g ≤ 2 ^ j → Nn wx p os g → Calls Tryz.prog 15 #[.slice p (List.length os) (List.length os), .int .i64 1] wx fun e w' => NnTold (2 * g) wx e w') := by
        intro wx p os g hg h
        have := nshl_any h (n := 1) rfl (by rw [Int.pow_succ, Int.pow_zero, Int.one_mul, Int.mul_comm]; omega)
        rw [show g * 2 ^ 1 = 2 * g by rw [Int.pow_succ, Int.pow_zero, Int.one_mul, Int.mul_comm]] at this
        exact this
      have HN := hid NR
      have HN0 : Hid (0 ≤ V * 2 ^ j) := Int.mul_nonneg v0 (Int.le_of_lt D0)
      have HV := hid v0
      have HA := hid A0
      have FN := hid fitN
      clear NR v0 A0 fitN fitD
      have NRX : Hid (∀ g, (g = V * 2 ^ j - A ∨ g = A - V * 2 ^ j) → 2 * g ≤ 2 ^ j ∧ (2 * g = 2 ^ j → V % 2 = 0)) := by
        rintro g (rfl | rfl)
        · exact ⟨HN.out.1, fun c => HN.out.2.2 (.inl c)⟩
        · exact ⟨HN.out.2.1, fun c => HN.out.2.2 (.inr c)⟩
      have hki : (k : Int) ≤ 4200 := by omega
      generalize (2 : Int) ^ j = D at *
      generalize V * D = N at *
      go_enter Tryz.func4, Tryz.ntmps4
      go_wp2_with fail
      refine PC.out.mono ?_
      rintro e w1 ⟨rfl, B1⟩
      have HB1 := hid B1
      clear B1 PC
      go_wp2_with fail
      refine (WO.out _).mono ?_
      rintro e w2 ⟨rfl, B2⟩
      have HB2 := hid (HB1.out.trans (B2.mono HB1.out.size))
      clear B2 WO HB1
      go_wp2_with fail
      refine (PL2.out _ HB2.out).mono ?_
      rintro e w3 ⟨s, t, rfl, P3, B3⟩
      have HB3 := hid (HB2.out.trans (B3.mono HB2.out.size))
      have HP := hid P3
      obtain ⟨g1, g2, g3, g4, x, g5, g6, g7⟩ := SF.out s t P3
      clear B3 PL2 HB2 P3 SF
      go_wp2_with fail
      refine (FI.out _).mono ?_
      rintro e wz ⟨rfl, hz⟩
      replace hz := hz.symm
      subst hz
      go_wp2_with fail
      refine (DA.out _ s t HP.out).mono ?_
      rintro e wz ⟨rfl, hz⟩
      replace hz := hz.symm
      subst hz
      go_wp2_with fail
      refine (DB.out _ s t HP.out).mono ?_
      rintro e wz ⟨rfl, hz⟩
      replace hz := hz.symm
      subst hz
      clear FI DA DB
      by_cases hs1 : 1 < (s.size : Int)
      all_goals
        (try have g8 := g7 hs1)
        clear g7
        go_wp2_with fail
        clear g1 g2 g3 g4 g5 g6
        refine (RD.out _ s t HP.out).mono ?_
        rintro e w4 ⟨pv, ov, rfl, A4, B4⟩
        have HB4 := hid (HB3.out.trans (B4.mono HB3.out.size))
        have HA4 := hid A4
        clear A4 B4 RD HP HB3
        go_wp2_with fail
        refine (SC.out _).mono ?_
        rintro e w5 ⟨pa, oa, rfl, A5, B5⟩
        have HB5 := hid (HB4.out.trans (B5.mono HB4.out.size))
        have HV5 := hid (HA4.out.on B5)
        have HA5 := hid A5
        have N5 := hid (SN.out w5 pv ov (HA4.out.on B5))
        clear A5 B5 SC HA4 HB4 SN
        go_wp2_with fail
        refine N5.out.mono ?_
        rintro e w6 ⟨pn, on, rfl, A6, B6⟩
        obtain ⟨SS, KS, CS, BS, MS⟩ := state (fun w' => Nn w' pv ov V ∧ Nn w' pa oa A ∧ Nn w' pn on N) w (fun _ _ h hB => ⟨h.1.on hB, h.2.1.on hB, h.2.2.on hB⟩)
        have S6 := hid (MS.out _ ⟨HV5.out.on B6, HA5.out.on B6, A6⟩ (HB5.out.trans (B6.mono HB5.out.size)))
        clear A6 B6 HV5 HA5 HB5 N5 MS
        have HNN : 0 ≤ N := HN0.out
        by_cases hle : A ≤ N
        · have G6 := hid (nsub_any (CS.out _ S6.out).2.2 (CS.out _ S6.out).2.1 HA.out hle)
          obtain ⟨g, hg⟩ : ∃ g, N - A = g := ⟨_, rfl⟩
          have NX := NRX.out g (.inl hg.symm)
          rw [hg] at G6
          clear hg hle HNN NRX
          go_wp2_with fail
          refine G6.out.mono ?_
          rintro e w7 ⟨rg, og, rfl, A7, B7⟩
          have S7 := hid (KS.out _ _ S6.out B7)
          have T7 := hid (TW.out w7 rg og _ NX.1 A7)
          clear A7 B7 S6 G6 TW
          go_wp2_with fail
          refine T7.out.mono ?_
          rintro e w8 ⟨rt, ot, rfl, A8, B8⟩
          have S8 := hid (KS.out _ _ S7.out B8)
          have HA8 := hid A8
          clear A8 B8 S7 T7
          go_wp2_with fail
          refine (SO.out _).mono ?_
          rintro e w9 ⟨ro, oo, rfl, A9, B9⟩
          have S9 := hid (KS.out _ _ S8.out B9)
          have C9 := hid (ncmp_any (HA8.out.on B9) A9)
          clear A9 B9 S8 HA8 SO
          go_wp2_with fail
          refine C9.out.mono ?_
          rintro e w10 ⟨rfl, B10⟩
          have S10 := hid (KS.out _ _ S9.out B10)
          have BB := hid (nbit_any (CS.out _ S10.out).1)
          clear B10 S9 C9
          rcases (show 2 * g < D ∨ 2 * g = D by have := NX.1; omega) with hc | hc
          · rw [cmpI_lt hc]
            clear NX hc BB
            go_wp2_with fail
            go_ret
            exact ⟨rfl, BS.out _ S10.out⟩
          · rw [cmpI_eq hc]
            rw [NX.2 hc] at BB
            clear NX hc
            go_wp2_with fail
            refine BB.out.mono ?_
            rintro e wz ⟨rfl, hz⟩
            replace hz := hz.symm
            subst hz
            go_wp2_with fail
            go_ret
            exact ⟨rfl, BS.out _ S10.out⟩
        · have L6 := hid (nsub_low (CS.out _ S6.out).2.2 (CS.out _ S6.out).2.1 (show N < A by omega))
          go_wp2_with fail
          refine L6.out.mono ?_
          rintro e w6b ⟨rfl, B6b⟩
          have S6b := hid (KS.out _ _ S6.out B6b)
          clear S6 L6 B6b
          have S6 := S6b
          clear S6b
          have G6 := hid (nsub_any (CS.out _ S6.out).2.1 (CS.out _ S6.out).2.2 HNN (show N ≤ A by omega))
          obtain ⟨g, hg⟩ : ∃ g, A - N = g := ⟨_, rfl⟩
          have NX := NRX.out g (.inr hg.symm)
          rw [hg] at G6
          clear hg hle HNN NRX
          go_wp2_with fail
          refine G6.out.mono ?_
          rintro e w7 ⟨rg, og, rfl, A7, B7⟩
          have S7 := hid (KS.out _ _ S6.out B7)
          have T7 := hid (TW.out w7 rg og _ NX.1 A7)
          clear A7 B7 S6 G6 TW
          go_wp2_with fail
          refine T7.out.mono ?_
          rintro e w8 ⟨rt, ot, rfl, A8, B8⟩
          have S8 := hid (KS.out _ _ S7.out B8)
          have HA8 := hid A8
          clear A8 B8 S7 T7
          go_wp2_with fail
          refine (SO.out _).mono ?_
          rintro e w9 ⟨ro, oo, rfl, A9, B9⟩
          have S9 := hid (KS.out _ _ S8.out B9)
          have C9 := hid (ncmp_any (HA8.out.on B9) A9)
          clear A9 B9 S8 HA8 SO
          go_wp2_with fail
          refine C9.out.mono ?_
          rintro e w10 ⟨rfl, B10⟩
          have S10 := hid (KS.out _ _ S9.out B10)
          have BB := hid (nbit_any (CS.out _ S10.out).1)
          clear B10 S9 C9
          rcases (show 2 * g < D ∨ 2 * g = D by have := NX.1; omega) with hc | hc
          · rw [cmpI_lt hc]
            clear NX hc BB
            go_wp2_with fail
            go_ret
            exact ⟨rfl, BS.out _ S10.out⟩
          · rw [cmpI_eq hc]
            rw [NX.2 hc] at BB
            clear NX hc
            go_wp2_with fail
            refine BB.out.mono ?_
            rintro e wz ⟨rfl, hz⟩
            replace hz := hz.symm
            subst hz
            go_wp2_with fail
            go_ret
            exact ⟨rfl, BS.out _ S10.out⟩
  · have hf' : Ie.fnt d = false := by simpa using hf
    rw [hf'] at FI
    have R : Fx.rf d n 0 = 5 := by rw [Fx.rf, if_neg hf]
    have PL2 : Hid (∀ wx : World, Below w.heap.size w wx → Calls Tryz.prog 9 #[.int .u64 d, .int .i64 n] wx fun e w' => e = .returned (.tuple #[.string ⟨#[]⟩, .string ⟨#[]⟩, .int .i64 5]) ∧ Below wx.heap.size wx w') := by
      intro wx hB
      refine (PL.out wx hB).mono ?_
      rintro e w' ⟨s, t, rfl, hs, ht, hB⟩
      rw [Fx.pA, if_neg (by omega)] at hs
      rw [Fx.pB, if_neg (by omega)] at ht
      have e1 : s = ⟨#[]⟩ := hs.inj rfl
      have e2 : t = ⟨#[]⟩ := ht.inj rfl
      rw [R, e1, e2]
      exact ⟨rfl, hB⟩
    clear PL R hT h0 h1 hf hf'
    go_enter Tryz.func4, Tryz.ntmps4
    go_wp2_with fail
    refine PC.out.mono ?_
    rintro e w1 ⟨rfl, B1⟩
    have HB1 := hid B1
    clear B1 PC
    go_wp2_with fail
    refine (WO.out _).mono ?_
    rintro e w2 ⟨rfl, B2⟩
    have HB2 := hid (HB1.out.trans (B2.mono HB1.out.size))
    clear B2 WO HB1
    go_wp2_with fail
    refine (PL2.out _ HB2.out).mono ?_
    rintro e w3 ⟨rfl, B3⟩
    have HB3 := hid (HB2.out.trans (B3.mono HB2.out.size))
    clear B3 PL2 HB2
    go_wp2_with fail
    refine (FI.out _).mono ?_
    rintro e wz ⟨rfl, hz⟩
    replace hz := hz.symm
    subst hz
    go_wp2_with fail
    go_ret
    exact ⟨rfl, HB3.out⟩
end Go.Proofs.YtbdbpjghmejfjaaGreatDoor

namespace Go.Proofs.YtbdbpjghmejfjaaGreatDoor
open Go Go.RowKit Go.Deep

theorem tab_laid : (Rows.laid_math_bits_deBruijn64tab : DataW Unit) = Lib.tabData .u8 (List.map Int.ofNat Lib.deBruijn64tab) := by kernel_rfl

theorem tab_of {W : World} {rest : List (String × DataW Unit)} (h : laidMet Tryz.prog (("math/bits.deBruijn64tab", Rows.laid_math_bits_deBruijn64tab) :: rest) W) : Tab W := by
  rw [tab_laid] at h
  have ht := Lib.tabIs_of_head (g := 0) (t := 99) (e := 5) (n := 64) (k := .u8) (zs := List.map Int.ofNat Lib.deBruijn64tab) (by kernel_rfl) (by kernel_rfl) Tryz.underlying99 Tryz.underlying5 (by kernel_rfl) (by kernel_rfl) h
  intro j hj
  have hl : (List.map Int.ofNat Lib.deBruijn64tab).length = Lib.deBruijn64tab.length := by simp
  rw [ht.cell (g := 0) (by kernel_rfl) j (by omega)]
  simp [List.getD, hj]

end Go.Proofs.YtbdbpjghmejfjaaGreatDoor
