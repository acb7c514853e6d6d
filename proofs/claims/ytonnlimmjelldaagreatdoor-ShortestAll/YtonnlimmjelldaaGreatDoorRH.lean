/-
  Texts put together: TnH, TnI, TnK, TnL, QRPow5, TnM, LApi, LNmN, LHoldA, VRIsDec.
-/
import Derived.Test.YtonnlimmjelldaaGreatDoorRG
import Derived.Test.YtonnlimmjelldaaGreatDoorRC
import Derived.BigQuiet
import Derived.Test.YtonnlimmjelldaaGreatDoorVOrd
import Derived.Test.YtonnlimmjelldaaGreatDoorRF
import Derived.Deep.LoopGhost
namespace Go.Proofs.YtonnlimmjelldaaGreatDoor
open Go Go.RowKit Go.Deep

theorem Str.two {s : ByteArray} {xs : List Int} (h : Str s xs) (n : Nat) (hn : n ≤ s.size) : Str (s.extract 0 n) (xs.take n) ∧ Str (s.extract n s.size) (xs.drop n) ∧ (s.extract 0 n).size = n ∧ (s.extract n s.size).size = s.size - n := by
  have a := Str.extract h 0 n
  have b := Str.extract h n s.size
  rw [List.drop_zero, Nat.sub_zero] at a
  rw [List.take_of_length_le (by rw [List.length_drop, h.size]; omega)] at b
  refine ⟨a, b, ?_, ?_⟩
  · rw [a.size, List.length_take, ← h.size]; omega
  · rw [b.size, List.length_drop, ← h.size]

set_option maxRecDepth 100000 in
set_option maxHeartbeats 8000000 in
theorem zlaid_any (s : ByteArray) (xs : List Int) (p : Int) (w : World) (hS : Str s xs) (h1 : 1 ≤ s.size) (h2 : s.size ≤ 1000) (p0 : -5000 ≤ p) (p1 : p ≤ 5000) (ht : Tab10 w) :
    Calls Tryz.prog 27 #[.string s, .int .i64 p] w fun e w' => TxTold (Tn.lay xs p) w e w' := by
  have HL := hS.size
  have hsi : (s.size : Int) ≤ 1000 := by omega
  have hs1 : (1 : Int) ≤ (s.size : Int) := by omega
  by_cases c1 : 0 < p ∧ p ≤ 21
  · obtain ⟨c1a, c1b⟩ := c1
    by_cases c2 : (s.size : Int) ≤ p
    · have E : Hid (Tn.lay xs p = xs ++ List.replicate (p - (s.size : Int)).toNat 48) := by show _ = _; rw [Tn.lay, if_pos ⟨c1a, c1b⟩, HL, if_pos (by omega)]
      have ZR := hid (zzeros_any (p - (s.size : Int)).toNat w (by omega))
      rw [show (((p - (s.size : Int)).toNat : Nat) : Int) = p - (s.size : Int) by omega] at ZR
      have zl : (p - (s.size : Int)).toNat ≤ 21 := by omega
      have HS := hid hS
      clear hS HL ht
      generalize (p - (s.size : Int)).toNat = k at *
      go_enter Tryz.func27, Tryz.ntmps27
      go_wp2_with fail
      refine ZR.out.mono ?_
      rintro e w1 ⟨t, rfl, ht, hB⟩
      have tz : t.size ≤ 1000 := by rw [ht.out.size, List.length_replicate]; omega
      have G : Hid (TxTold (Tn.lay xs p) w (.returned (.string (s ++ t))) w1) := ⟨_, rfl, by rw [E.out]; exact HS.out.tcat ht.out, hB⟩
      clear ht hB ZR
      go_wp2_with fail
      go_ret
      exact G.out
    · have E : Hid (Tn.lay xs p = xs.take p.toNat ++ ([46] ++ xs.drop p.toNat)) := by show _ = _; rw [Tn.lay, if_pos ⟨c1a, c1b⟩, if_neg (by rw [← HL]; exact c2)]
      obtain ⟨q, hq⟩ : ∃ q : Nat, p = (q : Int) := ⟨p.toNat, by omega⟩
      subst hq
      have qs : q ≤ s.size := by omega
      obtain ⟨S1, S2, z1, z2⟩ := hS.two q qs
      rw [show ((q : Int)).toNat = q by omega] at E
      have F : Hid (∀ w' : World, Below w.heap.size w w' → TxTold (Tn.lay xs (q : Int)) w (.returned (.string ((s.extract 0 q ++ ⟨#[46]⟩) ++ s.extract q s.size))) w') := fun w' hb => ⟨_, rfl, by rw [E.out, ← List.append_assoc]; exact (S1.tcat (b := ⟨#[46]⟩) (ys := [46]) rfl).tcat S2, hb⟩
      have qi : (q : Int) ≤ (s.size : Int) := by omega
      have y1 : (s.extract 0 q).size ≤ 1000 := by omega
      have y2 : (s.extract q s.size).size ≤ 1000 := by omega
      have y3 : (s.extract 0 q ++ ⟨#[46]⟩ : ByteArray).size ≤ 1001 := by rw [ByteArray.size_append]; show (s.extract 0 q).size + 1 ≤ 1001; omega
      clear S1 S2 z1 z2 hS HL ht
      go_enter Tryz.func27, Tryz.ntmps27
      go_wp2_with fail
      go_quiet (fail)
      go_wp2_with fail
      go_ret
      exact F.out _ (below_drewN (Below.refl _ _) _)
  · by_cases c3 : -6 < p ∧ p ≤ 0
    · obtain ⟨c3a, c3b⟩ := c3
      have E : Hid (Tn.lay xs p = [48, 46] ++ (List.replicate (-p).toNat 48 ++ xs)) := by show _ = _; rw [Tn.lay, if_neg c1, if_pos ⟨c3a, c3b⟩]
      have ZR := hid (zzeros_any (-p).toNat w (by omega))
      rw [show (((-p).toNat : Nat) : Int) = -p by omega] at ZR
      have zl : (-p).toNat ≤ 21 := by omega
      have c1a : ¬ 0 < p := by omega
      have HS := hid hS
      clear hS HL ht c1
      generalize (-p).toNat = k at *
      go_enter Tryz.func27, Tryz.ntmps27
      go_wp2_with fail
      refine ZR.out.mono ?_
      rintro e w1 ⟨t, rfl, ht, hB⟩
      have tz : t.size ≤ 1000 := by rw [ht.out.size, List.length_replicate]; omega
      have tz2 : (⟨#[48, 46]⟩ ++ t : ByteArray).size ≤ 1002 := by rw [ByteArray.size_append]; show 2 + t.size ≤ 1002; omega
      have G : Hid (TxTold (Tn.lay xs p) w (.returned (.string ((⟨#[48, 46]⟩ ++ t) ++ s))) w1) := ⟨_, rfl, by rw [E.out, ← List.append_assoc]; exact (Str.tcat (a := ⟨#[48, 46]⟩) (xs := [48, 46]) rfl ht.out).tcat HS.out, hB⟩
      clear ht hB ZR
      go_wp2_with fail
      go_ret
      exact G.out

    · have E : Hid (Tn.lay xs p = xs.take 1 ++ ((if 1 < s.size then [46] ++ xs.drop 1 else []) ++ Tn.pw (p - 1))) := by show _ = _; rw [Tn.lay, if_neg c1, if_neg c3, HL]
      have PW := hid (zpower_any (p - 1) w (by omega) (by omega) ht)
      obtain ⟨S1, S2, z1, z2⟩ := hS.two 1 h1
      have y1 : (s.extract 0 1).size ≤ 1000 := by omega
      have y2 : (s.extract 1 s.size).size ≤ 1000 := by omega
      have HS1 := hid S1
      have HS2 := hid S2
      clear hS HL ht S1 S2 z1 z2
      by_cases g : 1 < s.size
      · have gi : (1 : Int) < (s.size : Int) := by omega
        rw [if_pos g] at E
        have y3 : (s.extract 0 1 ++ (⟨#[46]⟩ ++ s.extract 1 s.size) : ByteArray).size ≤ 3000 := by rw [ByteArray.size_append, ByteArray.size_append]; show (s.extract 0 1).size + (1 + (s.extract 1 s.size).size) ≤ 3000; omega
        have y4 : (⟨#[46]⟩ ++ s.extract 1 s.size : ByteArray).size ≤ 3000 := by rw [ByteArray.size_append]; show 1 + (s.extract 1 s.size).size ≤ 3000; omega
        have c5 : ¬ (0 < p ∧ p ≤ 21) ∧ ¬ (-6 < p ∧ p ≤ 0) := ⟨c1, c3⟩
        have F : Hid (∀ (t : ByteArray) (w1 : World), Str t (Tn.pw (p - 1)) → Below w.heap.size w w1 → TxTold (Tn.lay xs p) w (.returned (.string ((s.extract 0 1 ++ (⟨#[46]⟩ ++ s.extract 1 s.size)) ++ t))) w1) := fun t w1 h hb => ⟨_, rfl, by rw [E.out, ← List.append_assoc]; exact (HS1.out.tcat (Str.tcat (a := ⟨#[46]⟩) (xs := [46]) rfl HS2.out)).tcat h, hb⟩
        have PL : Hid (∀ (t : ByteArray), Str t (Tn.pw (p - 1)) → t.size ≤ 1000) := fun t h => by rw [h.size]; exact Tn.pw_len (by omega) (by omega)
        by_cases k0 : 0 < p
        · have k1 : ¬ p ≤ 21 := by omega
          have k2 : ¬ p ≤ 0 := by omega
          have k3 : (-6 : Int) < p := by omega
          clear c1 c3
          go_enter Tryz.func27, Tryz.ntmps27
          go_wp2_with fail
          refine PW.out.mono ?_
          rintro e w1 ⟨t, rfl, ht, hB⟩
          have G := hid (F.out t w1 ht.out hB)
          have tz := PL.out t ht.out
          clear ht hB PW F PL
          go_wp2_with fail
          go_ret
          exact G.out
        · have k1 : ¬ (-6 : Int) < p := by omega
          clear c1 c3
          go_enter Tryz.func27, Tryz.ntmps27
          go_wp2_with fail
          refine PW.out.mono ?_
          rintro e w1 ⟨t, rfl, ht, hB⟩
          have G := hid (F.out t w1 ht.out hB)
          have tz := PL.out t ht.out
          clear ht hB PW F PL
          go_wp2_with fail
          go_ret
          exact G.out
      · have gi : ¬ (1 : Int) < (s.size : Int) := by omega
        rw [if_neg g, List.nil_append] at E
        have F : Hid (∀ (t : ByteArray) (w1 : World), Str t (Tn.pw (p - 1)) → Below w.heap.size w w1 → TxTold (Tn.lay xs p) w (.returned (.string (s.extract 0 1 ++ t))) w1) := fun t w1 h hb => ⟨_, rfl, by rw [E.out]; exact HS1.out.tcat h, hb⟩
        have PL : Hid (∀ (t : ByteArray), Str t (Tn.pw (p - 1)) → t.size ≤ 1000) := fun t h => by rw [h.size]; exact Tn.pw_len (by omega) (by omega)
        by_cases k0 : 0 < p
        · have k1 : ¬ p ≤ 21 := by omega
          have k2 : ¬ p ≤ 0 := by omega
          have k3 : (-6 : Int) < p := by omega
          clear c1 c3
          go_enter Tryz.func27, Tryz.ntmps27
          go_wp2_with fail
          refine PW.out.mono ?_
          rintro e w1 ⟨t, rfl, ht, hB⟩
          have G := hid (F.out t w1 ht.out hB)
          have tz := PL.out t ht.out
          clear ht hB PW F PL
          go_wp2_with fail
          go_ret
          exact G.out
        · have k1 : ¬ (-6 : Int) < p := by omega
          clear c1 c3
          go_enter Tryz.func27, Tryz.ntmps27
          go_wp2_with fail
          refine PW.out.mono ?_
          rintro e w1 ⟨t, rfl, ht, hB⟩
          have G := hid (F.out t w1 ht.out hB)
          have tz := PL.out t ht.out
          clear ht hB PW F PL
          go_wp2_with fail
          go_ret
          exact G.out
set_option maxRecDepth 100000 in
set_option maxHeartbeats 8000000 in
theorem xlayout_any (s : ByteArray) (xs : List Int) (p : Int) (w : World) (hS : Str s xs) (h1 : 1 ≤ s.size) (h2 : s.size ≤ 1000) (p0 : -5000 ≤ p) (p1 : p ≤ 5000) (ht : Tab10 w) :
    Calls Tryz.prog 38 #[.string s, .int .i64 p] w fun e w' => TxTold (Tn.lay xs p) w e w' := by
  have HL := hS.size
  have hsi : (s.size : Int) ≤ 1000 := by omega
  have hs1 : (1 : Int) ≤ (s.size : Int) := by omega
  by_cases c1 : 0 < p ∧ p ≤ 21
  · obtain ⟨c1a, c1b⟩ := c1
    by_cases c2 : (s.size : Int) ≤ p
    · have E : Hid (Tn.lay xs p = xs ++ List.replicate (p - (s.size : Int)).toNat 48) := by show _ = _; rw [Tn.lay, if_pos ⟨c1a, c1b⟩, HL, if_pos (by omega)]
      have ZR := hid (xzer_any (p - (s.size : Int)).toNat w (by omega))
      rw [show (((p - (s.size : Int)).toNat : Nat) : Int) = p - (s.size : Int) by omega] at ZR
      have zl : (p - (s.size : Int)).toNat ≤ 21 := by omega
      have HS := hid hS
      clear hS HL ht
      generalize (p - (s.size : Int)).toNat = k at *
      go_enter Tryz.func38, Tryz.ntmps38
      go_wp2_with fail
      refine ZR.out.mono ?_
      rintro e w1 ⟨t, rfl, ht, hB⟩
      have tz : t.size ≤ 1000 := by rw [ht.out.size, List.length_replicate]; omega
      have G : Hid (TxTold (Tn.lay xs p) w (.returned (.string (s ++ t))) w1) := ⟨_, rfl, by rw [E.out]; exact HS.out.tcat ht.out, hB⟩
      clear ht hB ZR
      go_wp2_with fail
      go_ret
      exact G.out
    · have E : Hid (Tn.lay xs p = xs.take p.toNat ++ ([46] ++ xs.drop p.toNat)) := by show _ = _; rw [Tn.lay, if_pos ⟨c1a, c1b⟩, if_neg (by rw [← HL]; exact c2)]
      obtain ⟨q, hq⟩ : ∃ q : Nat, p = (q : Int) := ⟨p.toNat, by omega⟩
      subst hq
      have qs : q ≤ s.size := by omega
      obtain ⟨S1, S2, z1, z2⟩ := hS.two q qs
      rw [show ((q : Int)).toNat = q by omega] at E
      have F : Hid (∀ w' : World, Below w.heap.size w w' → TxTold (Tn.lay xs (q : Int)) w (.returned (.string ((s.extract 0 q ++ ⟨#[46]⟩) ++ s.extract q s.size))) w') := fun w' hb => ⟨_, rfl, by rw [E.out, ← List.append_assoc]; exact (S1.tcat (b := ⟨#[46]⟩) (ys := [46]) rfl).tcat S2, hb⟩
      have qi : (q : Int) ≤ (s.size : Int) := by omega
      have y1 : (s.extract 0 q).size ≤ 1000 := by omega
      have y2 : (s.extract q s.size).size ≤ 1000 := by omega
      have y3 : (s.extract 0 q ++ ⟨#[46]⟩ : ByteArray).size ≤ 1001 := by rw [ByteArray.size_append]; show (s.extract 0 q).size + 1 ≤ 1001; omega
      clear S1 S2 z1 z2 hS HL ht
      go_enter Tryz.func38, Tryz.ntmps38
      go_wp2_with fail
      go_quiet (fail)
      go_wp2_with fail
      go_ret
      exact F.out _ (below_drewN (Below.refl _ _) _)
  · by_cases c3 : -6 < p ∧ p ≤ 0
    · obtain ⟨c3a, c3b⟩ := c3
      have E : Hid (Tn.lay xs p = [48, 46] ++ (List.replicate (-p).toNat 48 ++ xs)) := by show _ = _; rw [Tn.lay, if_neg c1, if_pos ⟨c3a, c3b⟩]
      have ZR := hid (xzer_any (-p).toNat w (by omega))
      rw [show (((-p).toNat : Nat) : Int) = -p by omega] at ZR
      have zl : (-p).toNat ≤ 21 := by omega
      have c1a : ¬ 0 < p := by omega
      have HS := hid hS
      clear hS HL ht c1
      generalize (-p).toNat = k at *
      go_enter Tryz.func38, Tryz.ntmps38
      go_wp2_with fail
      refine ZR.out.mono ?_
      rintro e w1 ⟨t, rfl, ht, hB⟩
      have tz : t.size ≤ 1000 := by rw [ht.out.size, List.length_replicate]; omega
      have tz2 : (⟨#[48, 46]⟩ ++ t : ByteArray).size ≤ 1002 := by rw [ByteArray.size_append]; show 2 + t.size ≤ 1002; omega
      have G : Hid (TxTold (Tn.lay xs p) w (.returned (.string ((⟨#[48, 46]⟩ ++ t) ++ s))) w1) := ⟨_, rfl, by rw [E.out, ← List.append_assoc]; exact (Str.tcat (a := ⟨#[48, 46]⟩) (xs := [48, 46]) rfl ht.out).tcat HS.out, hB⟩
      clear ht hB ZR
      go_wp2_with fail
      go_ret
      exact G.out

    · have E : Hid (Tn.lay xs p = xs.take 1 ++ ((if 1 < s.size then [46] ++ xs.drop 1 else []) ++ Tn.pw (p - 1))) := by show _ = _; rw [Tn.lay, if_neg c1, if_neg c3, HL]
      obtain ⟨S1, S2, z1, z2⟩ := hS.two 1 h1
      have y1 : (s.extract 0 1).size ≤ 1000 := by omega
      have y2 : (s.extract 1 s.size).size ≤ 1000 := by omega
      have HS1 := hid S1
      have HS2 := hid S2
      have TB := hid ht
      clear hS HL S1 S2 z1 z2 ht
      by_cases g : 1 < s.size
      · have gi : (1 : Int) < (s.size : Int) := by omega
        obtain ⟨T, hTT, hTs, hTz⟩ : ∃ T : ByteArray, T = (s.extract 0 1 ++ ⟨#[46]⟩) ++ s.extract 1 s.size ∧ Str T (xs.take 1 ++ ([46] ++ xs.drop 1)) ∧ T.size ≤ 3000 := ⟨_, rfl, by rw [← List.append_assoc]; exact (HS1.out.tcat (b := ⟨#[46]⟩) (ys := [46]) rfl).tcat HS2.out, by rw [ByteArray.size_append, ByteArray.size_append]; show (s.extract 0 1).size + 1 + (s.extract 1 s.size).size ≤ 3000; omega⟩
        have HTS := hid hTs
        rw [if_pos g] at E
        clear hTs
        have y3 : (s.extract 0 1 ++ ⟨#[46]⟩ : ByteArray).size ≤ 1001 := by rw [ByteArray.size_append]; show (s.extract 0 1).size + 1 ≤ 1001; omega
        by_cases k0 : 0 < p
        · have k1 : ¬ p ≤ 21 := by omega
          have k2 : ¬ p ≤ 0 := by omega
          have k3 : (-6 : Int) < p := by omega
          have k4 : ¬ p - 1 < 0 := by omega
          have k5 : ¬ p - 1 < 10 := by omega
          have I := hid (itoa_any (p - 1) w (by omega) (by omega) TB.out)
          have hq := Tn.itl_len (x := p - 1) (by omega) (by omega)
          have EP : Hid (Tn.pw (p - 1) = [101, 43] ++ Tn.itl (p - 1)) := by show _ = _; rw [Tn.pw, if_neg k4, if_neg k4, if_neg k5, List.nil_append]
          have ST := hid (Tn.itl_str (p - 1))
          generalize (⟨(Lib.itoa (p - 1)).toArray⟩ : ByteArray) = it at *
          have F : Hid (∀ w' : World, Below w.heap.size w w' → TxTold (Tn.lay xs p) w (.returned (.string (((T ++ ⟨#[101]⟩) ++ ⟨#[43]⟩) ++ it))) w') := fun w' hb => ⟨_, rfl, by
            show Str _ _
            rw [E.out, EP.out]
            exact by have z := ((HTS.out.tcat (b := ⟨#[101]⟩) (ys := [101]) rfl).tcat (b := ⟨#[43]⟩) (ys := [43]) rfl).tcat ST.out; simpa [List.append_assoc] using z, hb⟩
          have v1 : (T ++ ⟨#[101]⟩ : ByteArray).size ≤ 3001 := by rw [ByteArray.size_append]; show T.size + 1 ≤ 3001; omega
          have v2 : ((T ++ ⟨#[101]⟩) ++ ⟨#[43]⟩ : ByteArray).size ≤ 3002 := by rw [ByteArray.size_append]; show (T ++ ⟨#[101]⟩ : ByteArray).size + 1 ≤ 3002; omega
          clear c1 c3 E EP
          rw [hTT] at F v1 v2 hTz
          go_enter Tryz.func38, Tryz.ntmps38
          go_wp2_with fail
          refine I.out.mono ?_
          rintro e w1 ⟨rfl, hB⟩
          have G := hid (F.out w1 hB)
          clear hB F I
          go_wp2_with fail
          go_ret
          exact G.out
        · have k1 : ¬ (-6 : Int) < p := by omega
          have k4 : p - 1 < 0 := by omega
          have I := hid (itoa_any (-(p - 1)) w (by omega) (by omega) TB.out)
          have hq := Tn.itl_len (x := -(p - 1)) (by omega) (by omega)
          have ST := hid (Tn.itl_str (-(p - 1)))
          have EP : Hid (Tn.pw (p - 1) = [101, 45] ++ ((if -(p - 1) < 10 then [48] else []) ++ Tn.itl (-(p - 1)))) := by show _ = _; rw [Tn.pw, if_pos k4, if_pos k4]
          generalize (⟨(Lib.itoa (-(p - 1))).toArray⟩ : ByteArray) = it at *
          by_cases k5 : -(p - 1) < 10
          · rw [if_pos k5] at EP
            have F : Hid (∀ w' : World, Below w.heap.size w w' → TxTold (Tn.lay xs p) w (.returned (.string ((((T ++ ⟨#[101]⟩) ++ ⟨#[45]⟩) ++ ⟨#[48]⟩) ++ it))) w') := fun w' hb => ⟨_, rfl, by
              show Str _ _
              rw [E.out, EP.out]
              have z := (((HTS.out.tcat (b := ⟨#[101]⟩) (ys := [101]) rfl).tcat (b := ⟨#[45]⟩) (ys := [45]) rfl).tcat (b := ⟨#[48]⟩) (ys := [48]) rfl).tcat ST.out
              simpa [List.append_assoc] using z, hb⟩
            have v1 : (T ++ ⟨#[101]⟩ : ByteArray).size ≤ 3001 := by rw [ByteArray.size_append]; show T.size + 1 ≤ 3001; omega
            have v2 : ((T ++ ⟨#[101]⟩) ++ ⟨#[45]⟩ : ByteArray).size ≤ 3002 := by rw [ByteArray.size_append]; show (T ++ ⟨#[101]⟩ : ByteArray).size + 1 ≤ 3002; omega
            have v3 : (((T ++ ⟨#[101]⟩) ++ ⟨#[45]⟩) ++ ⟨#[48]⟩ : ByteArray).size ≤ 3003 := by rw [ByteArray.size_append]; show ((T ++ ⟨#[101]⟩) ++ ⟨#[45]⟩ : ByteArray).size + 1 ≤ 3003; omega
            clear c1 c3 E EP
            rw [hTT] at F v1 v2 v3 hTz
            go_enter Tryz.func38, Tryz.ntmps38
            go_wp2_with fail
            refine I.out.mono ?_
            rintro e w1 ⟨rfl, hB⟩
            have G := hid (F.out w1 hB)
            clear hB F I
            go_wp2_with fail
            go_ret
            exact G.out
          · rw [if_neg k5, List.nil_append] at EP
            have F : Hid (∀ w' : World, Below w.heap.size w w' → TxTold (Tn.lay xs p) w (.returned (.string (((T ++ ⟨#[101]⟩) ++ ⟨#[45]⟩) ++ it))) w') := fun w' hb => ⟨_, rfl, by
              show Str _ _
              rw [E.out, EP.out]
              have z := ((HTS.out.tcat (b := ⟨#[101]⟩) (ys := [101]) rfl).tcat (b := ⟨#[45]⟩) (ys := [45]) rfl).tcat ST.out
              simpa [List.append_assoc] using z, hb⟩
            have v1 : (T ++ ⟨#[101]⟩ : ByteArray).size ≤ 3001 := by rw [ByteArray.size_append]; show T.size + 1 ≤ 3001; omega
            have v2 : ((T ++ ⟨#[101]⟩) ++ ⟨#[45]⟩ : ByteArray).size ≤ 3002 := by rw [ByteArray.size_append]; show (T ++ ⟨#[101]⟩ : ByteArray).size + 1 ≤ 3002; omega
            clear c1 c3 E EP
            rw [hTT] at F v1 v2 hTz
            go_enter Tryz.func38, Tryz.ntmps38
            go_wp2_with fail
            refine I.out.mono ?_
            rintro e w1 ⟨rfl, hB⟩
            have G := hid (F.out w1 hB)
            clear hB F I
            go_wp2_with fail
            go_ret
            exact G.out
      · have gi : ¬ (1 : Int) < (s.size : Int) := by omega
        obtain ⟨T, hTT, hTs, hTz⟩ : ∃ T : ByteArray, T = s.extract 0 1 ∧ Str T (xs.take 1) ∧ T.size ≤ 3000 := ⟨_, rfl, HS1.out, by omega⟩
        have HTS := hid hTs
        rw [if_neg g, List.nil_append] at E
        clear hTs
        by_cases k0 : 0 < p
        · have k1 : ¬ p ≤ 21 := by omega
          have k2 : ¬ p ≤ 0 := by omega
          have k3 : (-6 : Int) < p := by omega
          have k4 : ¬ p - 1 < 0 := by omega
          have k5 : ¬ p - 1 < 10 := by omega
          have I := hid (itoa_any (p - 1) w (by omega) (by omega) TB.out)
          have hq := Tn.itl_len (x := p - 1) (by omega) (by omega)
          have EP : Hid (Tn.pw (p - 1) = [101, 43] ++ Tn.itl (p - 1)) := by show _ = _; rw [Tn.pw, if_neg k4, if_neg k4, if_neg k5, List.nil_append]
          have ST := hid (Tn.itl_str (p - 1))
          generalize (⟨(Lib.itoa (p - 1)).toArray⟩ : ByteArray) = it at *
          have F : Hid (∀ w' : World, Below w.heap.size w w' → TxTold (Tn.lay xs p) w (.returned (.string (((T ++ ⟨#[101]⟩) ++ ⟨#[43]⟩) ++ it))) w') := fun w' hb => ⟨_, rfl, by
            show Str _ _
            rw [E.out, EP.out]
            exact by have z := ((HTS.out.tcat (b := ⟨#[101]⟩) (ys := [101]) rfl).tcat (b := ⟨#[43]⟩) (ys := [43]) rfl).tcat ST.out; simpa [List.append_assoc] using z, hb⟩
          have v1 : (T ++ ⟨#[101]⟩ : ByteArray).size ≤ 3001 := by rw [ByteArray.size_append]; show T.size + 1 ≤ 3001; omega
          have v2 : ((T ++ ⟨#[101]⟩) ++ ⟨#[43]⟩ : ByteArray).size ≤ 3002 := by rw [ByteArray.size_append]; show (T ++ ⟨#[101]⟩ : ByteArray).size + 1 ≤ 3002; omega
          clear c1 c3 E EP
          rw [hTT] at F v1 v2 hTz
          go_enter Tryz.func38, Tryz.ntmps38
          go_wp2_with fail
          refine I.out.mono ?_
          rintro e w1 ⟨rfl, hB⟩
          have G := hid (F.out w1 hB)
          clear hB F I
          go_wp2_with fail
          go_ret
          exact G.out
        · have k1 : ¬ (-6 : Int) < p := by omega
          have k4 : p - 1 < 0 := by omega
          have I := hid (itoa_any (-(p - 1)) w (by omega) (by omega) TB.out)
          have hq := Tn.itl_len (x := -(p - 1)) (by omega) (by omega)
          have ST := hid (Tn.itl_str (-(p - 1)))
          have EP : Hid (Tn.pw (p - 1) = [101, 45] ++ ((if -(p - 1) < 10 then [48] else []) ++ Tn.itl (-(p - 1)))) := by show _ = _; rw [Tn.pw, if_pos k4, if_pos k4]
          generalize (⟨(Lib.itoa (-(p - 1))).toArray⟩ : ByteArray) = it at *
          by_cases k5 : -(p - 1) < 10
          · rw [if_pos k5] at EP
            have F : Hid (∀ w' : World, Below w.heap.size w w' → TxTold (Tn.lay xs p) w (.returned (.string ((((T ++ ⟨#[101]⟩) ++ ⟨#[45]⟩) ++ ⟨#[48]⟩) ++ it))) w') := fun w' hb => ⟨_, rfl, by
              show Str _ _
              rw [E.out, EP.out]
              have z := (((HTS.out.tcat (b := ⟨#[101]⟩) (ys := [101]) rfl).tcat (b := ⟨#[45]⟩) (ys := [45]) rfl).tcat (b := ⟨#[48]⟩) (ys := [48]) rfl).tcat ST.out
              simpa [List.append_assoc] using z, hb⟩
            have v1 : (T ++ ⟨#[101]⟩ : ByteArray).size ≤ 3001 := by rw [ByteArray.size_append]; show T.size + 1 ≤ 3001; omega
            have v2 : ((T ++ ⟨#[101]⟩) ++ ⟨#[45]⟩ : ByteArray).size ≤ 3002 := by rw [ByteArray.size_append]; show (T ++ ⟨#[101]⟩ : ByteArray).size + 1 ≤ 3002; omega
            have v3 : (((T ++ ⟨#[101]⟩) ++ ⟨#[45]⟩) ++ ⟨#[48]⟩ : ByteArray).size ≤ 3003 := by rw [ByteArray.size_append]; show ((T ++ ⟨#[101]⟩) ++ ⟨#[45]⟩ : ByteArray).size + 1 ≤ 3003; omega
            clear c1 c3 E EP
            rw [hTT] at F v1 v2 v3 hTz
            go_enter Tryz.func38, Tryz.ntmps38
            go_wp2_with fail
            refine I.out.mono ?_
            rintro e w1 ⟨rfl, hB⟩
            have G := hid (F.out w1 hB)
            clear hB F I
            go_wp2_with fail
            go_ret
            exact G.out
          · rw [if_neg k5, List.nil_append] at EP
            have F : Hid (∀ w' : World, Below w.heap.size w w' → TxTold (Tn.lay xs p) w (.returned (.string (((T ++ ⟨#[101]⟩) ++ ⟨#[45]⟩) ++ it))) w') := fun w' hb => ⟨_, rfl, by
              show Str _ _
              rw [E.out, EP.out]
              have z := ((HTS.out.tcat (b := ⟨#[101]⟩) (ys := [101]) rfl).tcat (b := ⟨#[45]⟩) (ys := [45]) rfl).tcat ST.out
              simpa [List.append_assoc] using z, hb⟩
            have v1 : (T ++ ⟨#[101]⟩ : ByteArray).size ≤ 3001 := by rw [ByteArray.size_append]; show T.size + 1 ≤ 3001; omega
            have v2 : ((T ++ ⟨#[101]⟩) ++ ⟨#[45]⟩ : ByteArray).size ≤ 3002 := by rw [ByteArray.size_append]; show (T ++ ⟨#[101]⟩ : ByteArray).size + 1 ≤ 3002; omega
            clear c1 c3 E EP
            rw [hTT] at F v1 v2 hTz
            go_enter Tryz.func38, Tryz.ntmps38
            go_wp2_with fail
            refine I.out.mono ?_
            rintro e w1 ⟨rfl, hB⟩
            have G := hid (F.out w1 hB)
            clear hB F I
            go_wp2_with fail
            go_ret
            exact G.out
end Go.Proofs.YtonnlimmjelldaaGreatDoor

namespace Go.Proofs.YtonnlimmjelldaaGreatDoor
open Go Go.RowKit Go.Deep

namespace Tn
open Sh
theorem room {a : Int} (h0 : 0 < a) (h1 : a < 9218868437227405312) : 1 ≤ (dd (Sh.dgt a)).ds.length ∧ (dd (Sh.dgt a)).ds.length ≤ 17 ∧ -400 ≤ (dd (Sh.dgt a)).e ∧ (dd (Sh.dgt a)).e ≤ 400 := by
  have w := wn_dgt (Int.le_of_lt h0)
  have n := n0_le a
  obtain ⟨r1, r2, r3, r4⟩ := wn_room h0 (by omega) w
  obtain ⟨v1, v2⟩ := V_place h0 h1
  obtain ⟨k, hk⟩ := r1.len
  omega
theorem lay_len {xs : List Int} {p : Int} (hx : xs.length ≤ 17) (h0 : -1000 ≤ p) (h1 : p ≤ 1000) : (lay xs p).length ≤ 2000 := by
  have q := pw_len (p := p - 1) (by omega) (by omega)
  unfold lay
  split
  · split
    · rw [List.length_append, List.length_replicate]; omega
    · rw [List.length_append, List.length_append, List.length_take, List.length_drop, List.length_singleton]; omega
  · split
    · rw [List.length_append, List.length_append, List.length_replicate]
      have : ([48, 46] : List Int).length = 2 := rfl
      omega
    · rw [List.length_append, List.length_append, List.length_take]
      have : (if 1 < xs.length then [46] ++ xs.drop 1 else [] : List Int).length ≤ 18 := by
        split
        · rw [List.length_append, List.length_drop, List.length_singleton]; omega
        · simp
      omega
/-- A number's text. -/
noncomputable def txt (a : Int) : List Int := if a = 0 then [48] else lay (dd (Sh.dgt a)).ds ((dd (Sh.dgt a)).e + ((dd (Sh.dgt a)).ds.length : Int))
end Tn
set_option maxRecDepth 100000 in
set_option maxHeartbeats 2000000 in
theorem xcls_any (d : Int) (w : World) (h0 : 0 ≤ d) (h1 : d < 18446744073709551616) :
    Calls Tryz.prog 37 #[.int .u64 d] w fun e w' => e = .returned (.int .i64 (Ie.cls d)) ∧ Below w.heap.size w w' := by
  have D := hid (zdecode_any d w h0 h1)
  generalize decide (9223372036854775808 ≤ d) = neg at D
  generalize Ie.cls d = c at *
  generalize Ie.dm d = m at D
  generalize Ie.de d = x at D
  simp only [partsOf] at D
  go_enter Tryz.func37, Tryz.ntmps37
  go_wp2_with fail
  refine D.out.mono ?_
  rintro e w1 ⟨rfl, hB⟩
  have HB := hid hB
  clear hB D
  go_wp2_with fail
  go_ret
  exact ⟨rfl, Below.alloc HB.out HB.out.size _⟩

set_option maxRecDepth 100000 in
set_option maxHeartbeats 4000000 in
theorem ztext_any (a : Int) (w : World) (h0 : 0 ≤ a) (h1 : a < 9218868437227405312) (ht : Tab10 w) :
    Calls Tryz.prog 11 #[.int .u64 a] w fun e w' => TxTold (Tn.txt a) w e w' := by
  have NG := hid (fun wx : World => znegative_any a wx h0 (by omega))
  have CL := hid (fun wx : World => class_any a wx h0 (by omega))
  rw [show Sh.ng a = false from decide_eq_false (by omega)] at NG
  have hm : a % 9223372036854775808 = a := by omega
  by_cases hz : a = 0
  · have F : Hid (TxTold (Tn.txt a) w (.returned (.string ⟨#[48]⟩)) w) := ⟨_, rfl, by rw [Tn.txt, if_pos hz]; rfl, Below.refl _ _⟩
    rw [show Ie.cls a = 0 by rw [hz]; decide] at CL
    clear ht h0 h1 hm hz
    go_enter Tryz.func11, Tryz.ntmps11
    go_wp2_with fail
    refine (NG.out _).mono ?_
    rintro e w1 ⟨rfl, hw⟩
    rw [hw]
    clear hw
    go_wp2_with fail
    refine (CL.out _).mono ?_
    rintro e w1 ⟨rfl, hw⟩
    rw [hw]
    clear hw
    go_wp2_with fail
    go_ret
    exact F.out
  · have hp : 0 < a := by omega
    obtain ⟨l1, l2, e1, e2⟩ := Tn.room hp h1
    have hc : Ie.cls a = 1 ∨ Ie.cls a = 2 := by
      rcases Ie.dec_kinds a a hm with c | c | c | c | c
      · omega
      · exact .inl c.1
      · exact .inr c.1
      · omega
      · omega
    have ET : Hid (Tn.txt a = Tn.lay (Sh.dd (Sh.dgt a)).ds ((Sh.dd (Sh.dgt a)).e + ((Sh.dd (Sh.dgt a)).ds.length : Int))) := by show _ = _; rw [Tn.txt, if_neg hz]
    have DG := hid (zdig_any a w h0 (by omega) ht)
    have ez : Sh.zD a = ⟨Sh.ng a, (Sh.dd (Sh.dgt a)).ds, (Sh.dd (Sh.dgt a)).e⟩ := by rw [Sh.zD, if_pos (by rw [Sh.fnt_iff, hm]; exact decide_eq_true h1), hm]
    unfold DigTold at DG
    rw [ez] at DG
    generalize Sh.dd (Sh.dgt a) = DD at *
    generalize Sh.ng a = sg at *
    generalize Sh.zR a = zr at *
    have TB := hid ht
    clear ht h0 h1 hm hz hp ez
    have k4 : (Ie.cls a == 4) = false := beq_eq_false_iff_ne.2 (by omega)
    have k3 : (Ie.cls a == 3) = false := beq_eq_false_iff_ne.2 (by omega)
    have k0 : (Ie.cls a == 0) = false := beq_eq_false_iff_ne.2 (by omega)
    clear hc
    generalize Ie.cls a = c at *
    go_enter Tryz.func11, Tryz.ntmps11
    go_wp2_with fail
    refine (NG.out _).mono ?_
    rintro e w1 ⟨rfl, hw⟩
    rw [hw]
    clear hw
    go_wp2_with fail
    refine (CL.out _).mono ?_
    rintro e w1 ⟨rfl, hw⟩
    rw [hw]
    clear hw
    go_wp2_with fail
    refine DG.out.mono ?_
    rintro e w2 ⟨t, rfl, ht, b2⟩
    have sz : t.size = DD.ds.length := ht.out.size
    have b3 := alloc_b w2 (.cells #[.bool sg, .string t, .int .i64 DD.e] 28)
    have B3 := hid (b2.trans (b3.mono b2.size))
    have T3 := hid (tab10_below TB.out B3.out)
    have LY := hid (zlaid_any t DD.ds (DD.e + (DD.ds.length : Int)) _ ht.out (by omega) (by omega) (by omega) (by omega) T3.out)
    have q1 : (t.size : Int) ≤ 17 := by omega
    have q2 : Hid ((t.size : Int) + DD.e = DD.e + (DD.ds.length : Int)) := by show _ = _; omega
    clear b2 b3 DG NG CL TB ht sz
    go_wp2_with fail
    rw [q2.out]
    with_reducible refine LY.out.mono ?_
    rintro e w4 ⟨u, rfl, hu, b4⟩
    have uz : u.size ≤ 2000 := by rw [hu.out.size]; exact Tn.lay_len l2 (by omega) (by omega)
    have G : Hid (TxTold (Tn.txt a) w (.returned (.string (⟨#[]⟩ ++ u))) w4) := ⟨_, rfl, by rw [ET.out]; exact Str.tcat (a := ⟨#[]⟩) (xs := []) rfl hu.out, below_on B3.out b4⟩
    clear hu b4 LY
    go_wp2_with fail
    go_ret
    exact G.out
set_option maxRecDepth 100000 in
set_option maxHeartbeats 4000000 in
theorem xtext_any (a : Int) (w : World) (h0 : 0 ≤ a) (h1 : a < 9218868437227405312) (ht : Tab10 w) :
    Calls Tryz.prog 17 #[.int .u64 a] w fun e w' => TxTold (Tn.txt a) w e w' := by
  have CL := hid (fun wx : World => xcls_any a wx h0 (by omega))
  have ns : ¬ (9223372036854775808 : Int) ≤ a := by omega
  have hm : a % 9223372036854775808 = a := by omega
  by_cases hz : a = 0
  · have F : Hid (∀ w' : World, Below w.heap.size w w' → TxTold (Tn.txt a) w (.returned (.string ⟨#[48]⟩)) w') := fun w' hb => ⟨_, rfl, by rw [Tn.txt, if_pos hz]; rfl, hb⟩
    rw [show Ie.cls a = 0 by rw [hz]; decide] at CL
    clear ht h0 h1 hm hz
    go_enter Tryz.func17, Tryz.ntmps17
    go_wp2_with fail
    refine (CL.out _).mono ?_
    rintro e w1 ⟨rfl, hB⟩
    have G := hid (F.out w1 hB)
    clear hB F CL
    go_wp2_with fail
    go_ret
    exact G.out
  · have hp : 0 < a := by omega
    obtain ⟨l1, l2, e1, e2⟩ := Tn.room hp h1
    have hc : Ie.cls a = 1 ∨ Ie.cls a = 2 := by
      rcases Ie.dec_kinds a a hm with c | c | c | c | c
      · omega
      · exact .inl c.1
      · exact .inr c.1
      · omega
      · omega
    have ET : Hid (Tn.txt a = Tn.lay (Sh.dd (Sh.dgt a)).ds ((Sh.dd (Sh.dgt a)).e + ((Sh.dd (Sh.dgt a)).ds.length : Int))) := by show _ = _; rw [Tn.txt, if_neg hz]
    have DG := hid (fun wx : World => xdig_any a a wx h0 (by omega) hm h1)
    have ez : Sh.zD a = ⟨Sh.ng a, (Sh.dd (Sh.dgt a)).ds, (Sh.dd (Sh.dgt a)).e⟩ := by rw [Sh.zD, if_pos (by rw [Sh.fnt_iff, hm]; exact decide_eq_true h1), hm]
    unfold DigTold at DG
    rw [ez] at DG
    generalize Sh.dd (Sh.dgt a) = DD at *
    generalize Sh.ng a = sg at *
    generalize Sh.zR a = zr at *
    have TB := hid ht
    clear ht h0 h1 hm hz hp ez
    have k4 : (Ie.cls a == 4) = false := beq_eq_false_iff_ne.2 (by omega)
    have k3 : (Ie.cls a == 3) = false := beq_eq_false_iff_ne.2 (by omega)
    have k0 : (Ie.cls a == 0) = false := beq_eq_false_iff_ne.2 (by omega)
    clear hc
    generalize Ie.cls a = c at *
    go_enter Tryz.func17, Tryz.ntmps17
    go_wp2_with fail
    refine (CL.out _).mono ?_
    rintro e w1 ⟨rfl, hB⟩
    have B1 := hid hB
    clear hB
    go_wp2_with fail
    refine (DG.out w1).mono ?_
    rintro e w2 ⟨t, rfl, ht, b2'⟩
    have b2 := B1.out.trans (b2'.mono B1.out.size)
    clear b2' B1
    have sz : t.size = DD.ds.length := ht.out.size
    have b3 := alloc_b w2 (.cells #[.bool sg, .string t, .int .i64 DD.e] 28)
    have B3 := hid (b2.trans (b3.mono b2.size))
    have T3 := hid (tab10_below TB.out B3.out)
    have LY := hid (xlayout_any t DD.ds (DD.e + (DD.ds.length : Int)) _ ht.out (by omega) (by omega) (by omega) (by omega) T3.out)
    have q1 : (t.size : Int) ≤ 17 := by omega
    have q2 : Hid (DD.e + (t.size : Int) = DD.e + (DD.ds.length : Int)) := by show _ = _; omega
    clear b2 b3 DG CL TB ht sz
    go_wp2_with fail
    rw [q2.out]
    with_reducible refine LY.out.mono ?_
    rintro e w4 ⟨u, rfl, hu, b4⟩
    have uz : u.size ≤ 2000 := by rw [hu.out.size]; exact Tn.lay_len l2 (by omega) (by omega)
    have G : Hid (TxTold (Tn.txt a) w (.returned (.string (⟨#[]⟩ ++ u))) w4) := ⟨_, rfl, by rw [ET.out]; exact Str.tcat (a := ⟨#[]⟩) (xs := []) rfl hu.out, below_on B3.out b4⟩
    clear hu b4 LY
    go_wp2_with fail
    go_ret
    exact G.out
end Go.Proofs.YtonnlimmjelldaaGreatDoor

namespace Go.Proofs.YtonnlimmjelldaaGreatDoor
open Go Go.RowKit Go.Deep

namespace Tn
open Sh
/-- A double's text. -/
noncomputable def txg (d : Int) : List Int :=
  (if 9223372036854775808 ≤ d then [45] else []) ++ (if Ie.cls d = 4 then [110, 97, 110] else if Ie.cls d = 3 then [105, 110, 102] else if Ie.cls d = 0 then [48] else
    lay (dd (Sh.dgt (d % 9223372036854775808))).ds ((dd (Sh.dgt (d % 9223372036854775808))).e + ((dd (Sh.dgt (d % 9223372036854775808))).ds.length : Int)))
theorem cls_fin {d : Int} (h4 : ¬ Ie.cls d = 4) (h3 : ¬ Ie.cls d = 3) (h0 : ¬ Ie.cls d = 0) : 0 < d % 9223372036854775808 ∧ d % 9223372036854775808 < 9218868437227405312 := by
  rcases Ie.dec_kinds d _ rfl with c | c | c | c | c
  · exact absurd c.1 h0
  · omega
  · omega
  · exact absurd c.1 h3
  · exact absurd c.1 h4
end Tn

set_option maxRecDepth 100000 in
set_option maxHeartbeats 8000000 in
theorem ztexg_any (d : Int) (w : World) (h0 : 0 ≤ d) (h1 : d < 18446744073709551616) (ht : Tab10 w) :
    Calls Tryz.prog 11 #[.int .u64 d] w fun e w' => TxTold (Tn.txg d) w e w' := by
  have NG := hid (fun wx : World => znegative_any d wx h0 h1)
  have CL := hid (fun wx : World => class_any d wx h0 h1)
  obtain ⟨sg, gs, hsg, hss, hsz, hsd⟩ : ∃ (sg : ByteArray) (gs : List Int), Str sg gs ∧ gs = (if 9223372036854775808 ≤ d then [45] else []) ∧ sg.size ≤ 1 ∧ ((9223372036854775808 ≤ d ∧ sg = ⟨#[45]⟩) ∨ (¬ 9223372036854775808 ≤ d ∧ sg = ⟨#[]⟩)) := by
    by_cases c : 9223372036854775808 ≤ d
    · exact ⟨⟨#[45]⟩, [45], rfl, by rw [if_pos c], by decide, .inl ⟨c, rfl⟩⟩
    · exact ⟨⟨#[]⟩, [], rfl, by rw [if_neg c], by decide, .inr ⟨c, rfl⟩⟩
  have ngd : Sh.ng d = decide (9223372036854775808 ≤ d) := rfl
  rw [ngd] at NG
  clear ngd
  by_cases c : Ie.cls d = 4
  · have E : Hid (Tn.txg d = gs ++ [110, 97, 110]) := by show _ = _; rw [Tn.txg, ← hss, if_pos c]
    rw [c] at CL
    have F : Hid (∀ w' : World, Below w.heap.size w w' → TxTold (Tn.txg d) w (.returned (.string (sg ++ ⟨#[110, 97, 110]⟩))) w') := fun w' hb => ⟨_, rfl, by rw [E.out]; exact hsg.tcat (b := ⟨#[110, 97, 110]⟩) (ys := [110, 97, 110]) rfl, hb⟩
    clear ht h0 h1 hss hsg E c
    rcases hsd with ⟨sd, rfl⟩ | ⟨sd, rfl⟩
    · rw [decide_eq_true sd] at NG
      go_enter Tryz.func11, Tryz.ntmps11
      go_wp2_with fail
      refine (NG.out _).mono ?_
      rintro e w1 ⟨rfl, hw⟩
      rw [hw]
      clear hw
      go_wp2_with fail
      refine (CL.out _).mono ?_
      rintro e w1 ⟨rfl, hw⟩
      rw [hw]
      clear hw
      have G := hid (F.out w (Below.refl _ _))
      clear F CL
      go_wp2_with fail
      go_ret
      exact G.out
    · rw [decide_eq_false sd] at NG
      go_enter Tryz.func11, Tryz.ntmps11
      go_wp2_with fail
      refine (NG.out _).mono ?_
      rintro e w1 ⟨rfl, hw⟩
      rw [hw]
      clear hw
      go_wp2_with fail
      refine (CL.out _).mono ?_
      rintro e w1 ⟨rfl, hw⟩
      rw [hw]
      clear hw
      have G := hid (F.out w (Below.refl _ _))
      clear F CL
      go_wp2_with fail
      go_ret
      exact G.out
  have c4 := c
  clear c
  by_cases c : Ie.cls d = 3
  · have E : Hid (Tn.txg d = gs ++ [105, 110, 102]) := by show _ = _; rw [Tn.txg, ← hss, if_neg c4, if_pos c]
    rw [c] at CL
    have F : Hid (∀ w' : World, Below w.heap.size w w' → TxTold (Tn.txg d) w (.returned (.string (sg ++ ⟨#[105, 110, 102]⟩))) w') := fun w' hb => ⟨_, rfl, by rw [E.out]; exact hsg.tcat (b := ⟨#[105, 110, 102]⟩) (ys := [105, 110, 102]) rfl, hb⟩
    clear ht h0 h1 hss hsg E c
    rcases hsd with ⟨sd, rfl⟩ | ⟨sd, rfl⟩
    · rw [decide_eq_true sd] at NG
      go_enter Tryz.func11, Tryz.ntmps11
      go_wp2_with fail
      refine (NG.out _).mono ?_
      rintro e w1 ⟨rfl, hw⟩
      rw [hw]
      clear hw
      go_wp2_with fail
      refine (CL.out _).mono ?_
      rintro e w1 ⟨rfl, hw⟩
      rw [hw]
      clear hw
      have G := hid (F.out w (Below.refl _ _))
      clear F CL
      go_wp2_with fail
      go_ret
      exact G.out
    · rw [decide_eq_false sd] at NG
      go_enter Tryz.func11, Tryz.ntmps11
      go_wp2_with fail
      refine (NG.out _).mono ?_
      rintro e w1 ⟨rfl, hw⟩
      rw [hw]
      clear hw
      go_wp2_with fail
      refine (CL.out _).mono ?_
      rintro e w1 ⟨rfl, hw⟩
      rw [hw]
      clear hw
      have G := hid (F.out w (Below.refl _ _))
      clear F CL
      go_wp2_with fail
      go_ret
      exact G.out
  have c3 := c
  clear c
  by_cases c : Ie.cls d = 0
  · have E : Hid (Tn.txg d = gs ++ [48]) := by show _ = _; rw [Tn.txg, ← hss, if_neg c4, if_neg c3, if_pos c]
    rw [c] at CL
    have F : Hid (∀ w' : World, Below w.heap.size w w' → TxTold (Tn.txg d) w (.returned (.string (sg ++ ⟨#[48]⟩))) w') := fun w' hb => ⟨_, rfl, by rw [E.out]; exact hsg.tcat (b := ⟨#[48]⟩) (ys := [48]) rfl, hb⟩
    clear ht h0 h1 hss hsg E c
    rcases hsd with ⟨sd, rfl⟩ | ⟨sd, rfl⟩
    · rw [decide_eq_true sd] at NG
      go_enter Tryz.func11, Tryz.ntmps11
      go_wp2_with fail
      refine (NG.out _).mono ?_
      rintro e w1 ⟨rfl, hw⟩
      rw [hw]
      clear hw
      go_wp2_with fail
      refine (CL.out _).mono ?_
      rintro e w1 ⟨rfl, hw⟩
      rw [hw]
      clear hw
      have G := hid (F.out w (Below.refl _ _))
      clear F CL
      go_wp2_with fail
      go_ret
      exact G.out
    · rw [decide_eq_false sd] at NG
      go_enter Tryz.func11, Tryz.ntmps11
      go_wp2_with fail
      refine (NG.out _).mono ?_
      rintro e w1 ⟨rfl, hw⟩
      rw [hw]
      clear hw
      go_wp2_with fail
      refine (CL.out _).mono ?_
      rintro e w1 ⟨rfl, hw⟩
      rw [hw]
      clear hw
      have G := hid (F.out w (Below.refl _ _))
      clear F CL
      go_wp2_with fail
      go_ret
      exact G.out
  have c0 := c
  clear c
  obtain ⟨a0, a1⟩ := Tn.cls_fin c4 c3 c0
  obtain ⟨l1, l2, e1, e2⟩ := Tn.room a0 a1
  have k4 : (Ie.cls d == 4) = false := beq_eq_false_iff_ne.2 c4
  have k3 : (Ie.cls d == 3) = false := beq_eq_false_iff_ne.2 c3
  have k0 : (Ie.cls d == 0) = false := beq_eq_false_iff_ne.2 c0
  have ET : Hid (Tn.txg d = gs ++ Tn.lay (Sh.dd (Sh.dgt (d % 9223372036854775808))).ds ((Sh.dd (Sh.dgt (d % 9223372036854775808))).e + ((Sh.dd (Sh.dgt (d % 9223372036854775808))).ds.length : Int))) := by show _ = _; rw [Tn.txg, ← hss, if_neg c4, if_neg c3, if_neg c0]
  have DG := hid (fun (wx : World) (h : Tab10 wx) => zdig_any d wx h0 h1 h)
  have ez : Sh.zD d = ⟨Sh.ng d, (Sh.dd (Sh.dgt (d % 9223372036854775808))).ds, (Sh.dd (Sh.dgt (d % 9223372036854775808))).e⟩ := by rw [Sh.zD, if_pos (by rw [Sh.fnt_iff]; exact decide_eq_true a1)]
  unfold DigTold at DG
  rw [ez] at DG
  generalize Sh.dd (Sh.dgt (d % 9223372036854775808)) = DD at *
  generalize Sh.ng d = ngs at *
  generalize Sh.zR d = zr at *
  generalize Ie.cls d = c at *
  have TB := hid ht
  have HG := hid hsg
  clear ht h0 h1 ez hss hsg c4 c3 c0 a0 a1
  rcases hsd with ⟨sd, rfl⟩ | ⟨sd, rfl⟩
  · rw [decide_eq_true sd] at NG
    go_enter Tryz.func11, Tryz.ntmps11
    go_wp2_with fail
    refine (NG.out _).mono ?_
    rintro e w1 ⟨rfl, hw⟩
    rw [hw]
    clear hw
    go_wp2_with fail
    refine (CL.out _).mono ?_
    rintro e w1 ⟨rfl, hw⟩
    rw [hw]
    clear hw
    go_wp2_with fail
    refine (DG.out w TB.out).mono ?_
    rintro e w2 ⟨t, rfl, ht, b2⟩
    have sz : t.size = DD.ds.length := ht.out.size
    have b3 := alloc_b w2 (.cells #[.bool ngs, .string t, .int .i64 DD.e] 28)
    have B3 := hid (b2.trans (b3.mono b2.size))
    have T3 := hid (tab10_below TB.out B3.out)
    have LY := hid (zlaid_any t DD.ds (DD.e + (DD.ds.length : Int)) _ ht.out (by omega) (by omega) (by omega) (by omega) T3.out)
    have q1 : (t.size : Int) ≤ 17 := by omega
    have q2 : Hid ((t.size : Int) + DD.e = DD.e + (DD.ds.length : Int)) := by show _ = _; omega
    clear b2 b3 DG CL TB ht sz
    go_wp2_with fail
    rw [q2.out]
    with_reducible refine LY.out.mono ?_
    rintro e w4 ⟨u, rfl, hu, b4⟩
    have uz : u.size ≤ 2000 := by rw [hu.out.size]; exact Tn.lay_len l2 (by omega) (by omega)
    have G : Hid (TxTold (Tn.txg d) w (.returned (.string (⟨#[45]⟩ ++ u))) w4) := ⟨_, rfl, by rw [ET.out]; exact HG.out.tcat hu.out, below_on B3.out b4⟩
    clear hu b4 LY
    go_wp2_with fail
    go_ret
    exact G.out
  · rw [decide_eq_false sd] at NG
    go_enter Tryz.func11, Tryz.ntmps11
    go_wp2_with fail
    refine (NG.out _).mono ?_
    rintro e w1 ⟨rfl, hw⟩
    rw [hw]
    clear hw
    go_wp2_with fail
    refine (CL.out _).mono ?_
    rintro e w1 ⟨rfl, hw⟩
    rw [hw]
    clear hw
    go_wp2_with fail
    refine (DG.out w TB.out).mono ?_
    rintro e w2 ⟨t, rfl, ht, b2⟩
    have sz : t.size = DD.ds.length := ht.out.size
    have b3 := alloc_b w2 (.cells #[.bool ngs, .string t, .int .i64 DD.e] 28)
    have B3 := hid (b2.trans (b3.mono b2.size))
    have T3 := hid (tab10_below TB.out B3.out)
    have LY := hid (zlaid_any t DD.ds (DD.e + (DD.ds.length : Int)) _ ht.out (by omega) (by omega) (by omega) (by omega) T3.out)
    have q1 : (t.size : Int) ≤ 17 := by omega
    have q2 : Hid ((t.size : Int) + DD.e = DD.e + (DD.ds.length : Int)) := by show _ = _; omega
    clear b2 b3 DG CL TB ht sz
    go_wp2_with fail
    rw [q2.out]
    with_reducible refine LY.out.mono ?_
    rintro e w4 ⟨u, rfl, hu, b4⟩
    have uz : u.size ≤ 2000 := by rw [hu.out.size]; exact Tn.lay_len l2 (by omega) (by omega)
    have G : Hid (TxTold (Tn.txg d) w (.returned (.string (⟨#[]⟩ ++ u))) w4) := ⟨_, rfl, by rw [ET.out]; exact HG.out.tcat hu.out, below_on B3.out b4⟩
    clear hu b4 LY
    go_wp2_with fail
    go_ret
    exact G.out
set_option maxRecDepth 100000 in
set_option maxHeartbeats 8000000 in
theorem xtexg_any (d : Int) (w : World) (h0 : 0 ≤ d) (h1 : d < 18446744073709551616) (ht : Tab10 w) :
    Calls Tryz.prog 17 #[.int .u64 d] w fun e w' => TxTold (Tn.txg d) w e w' := by
  have CL := hid (fun wx : World => xcls_any d wx h0 h1)
  obtain ⟨sg, gs, hsg, hss, hsz, hsd⟩ : ∃ (sg : ByteArray) (gs : List Int), Str sg gs ∧ gs = (if 9223372036854775808 ≤ d then [45] else []) ∧ sg.size ≤ 1 ∧ ((9223372036854775808 ≤ d ∧ sg = ⟨#[45]⟩) ∨ (¬ 9223372036854775808 ≤ d ∧ sg = ⟨#[]⟩)) := by
    by_cases c : 9223372036854775808 ≤ d
    · exact ⟨⟨#[45]⟩, [45], rfl, by rw [if_pos c], by decide, .inl ⟨c, rfl⟩⟩
    · exact ⟨⟨#[]⟩, [], rfl, by rw [if_neg c], by decide, .inr ⟨c, rfl⟩⟩
  by_cases c : Ie.cls d = 4
  · have E : Hid (Tn.txg d = gs ++ [110, 97, 110]) := by show _ = _; rw [Tn.txg, ← hss, if_pos c]
    rw [c] at CL
    have F : Hid (∀ w' : World, Below w.heap.size w w' → TxTold (Tn.txg d) w (.returned (.string (sg ++ ⟨#[110, 97, 110]⟩))) w') := fun w' hb => ⟨_, rfl, by rw [E.out]; exact hsg.tcat (b := ⟨#[110, 97, 110]⟩) (ys := [110, 97, 110]) rfl, hb⟩
    clear ht h0 h1 hss hsg E c
    rcases hsd with ⟨sd, rfl⟩ | ⟨sd, rfl⟩
    · go_enter Tryz.func17, Tryz.ntmps17
      go_wp2_with fail
      refine (CL.out _).mono ?_
      rintro e w1 ⟨rfl, hB⟩
      have G := hid (F.out w1 hB)
      clear hB
      clear F CL
      go_wp2_with fail
      go_ret
      exact G.out
    · go_enter Tryz.func17, Tryz.ntmps17
      go_wp2_with fail
      refine (CL.out _).mono ?_
      rintro e w1 ⟨rfl, hB⟩
      have G := hid (F.out w1 hB)
      clear hB
      clear F CL
      go_wp2_with fail
      go_ret
      exact G.out
  have c4 := c
  clear c
  by_cases c : Ie.cls d = 3
  · have E : Hid (Tn.txg d = gs ++ [105, 110, 102]) := by show _ = _; rw [Tn.txg, ← hss, if_neg c4, if_pos c]
    rw [c] at CL
    have F : Hid (∀ w' : World, Below w.heap.size w w' → TxTold (Tn.txg d) w (.returned (.string (sg ++ ⟨#[105, 110, 102]⟩))) w') := fun w' hb => ⟨_, rfl, by rw [E.out]; exact hsg.tcat (b := ⟨#[105, 110, 102]⟩) (ys := [105, 110, 102]) rfl, hb⟩
    clear ht h0 h1 hss hsg E c
    rcases hsd with ⟨sd, rfl⟩ | ⟨sd, rfl⟩
    · go_enter Tryz.func17, Tryz.ntmps17
      go_wp2_with fail
      refine (CL.out _).mono ?_
      rintro e w1 ⟨rfl, hB⟩
      have G := hid (F.out w1 hB)
      clear hB
      clear F CL
      go_wp2_with fail
      go_ret
      exact G.out
    · go_enter Tryz.func17, Tryz.ntmps17
      go_wp2_with fail
      refine (CL.out _).mono ?_
      rintro e w1 ⟨rfl, hB⟩
      have G := hid (F.out w1 hB)
      clear hB
      clear F CL
      go_wp2_with fail
      go_ret
      exact G.out
  have c3 := c
  clear c
  by_cases c : Ie.cls d = 0
  · have E : Hid (Tn.txg d = gs ++ [48]) := by show _ = _; rw [Tn.txg, ← hss, if_neg c4, if_neg c3, if_pos c]
    rw [c] at CL
    have F : Hid (∀ w' : World, Below w.heap.size w w' → TxTold (Tn.txg d) w (.returned (.string (sg ++ ⟨#[48]⟩))) w') := fun w' hb => ⟨_, rfl, by rw [E.out]; exact hsg.tcat (b := ⟨#[48]⟩) (ys := [48]) rfl, hb⟩
    clear ht h0 h1 hss hsg E c
    rcases hsd with ⟨sd, rfl⟩ | ⟨sd, rfl⟩
    · go_enter Tryz.func17, Tryz.ntmps17
      go_wp2_with fail
      refine (CL.out _).mono ?_
      rintro e w1 ⟨rfl, hB⟩
      have G := hid (F.out w1 hB)
      clear hB
      clear F CL
      go_wp2_with fail
      go_ret
      exact G.out
    · go_enter Tryz.func17, Tryz.ntmps17
      go_wp2_with fail
      refine (CL.out _).mono ?_
      rintro e w1 ⟨rfl, hB⟩
      have G := hid (F.out w1 hB)
      clear hB
      clear F CL
      go_wp2_with fail
      go_ret
      exact G.out
  have c0 := c
  clear c
  obtain ⟨a0, a1⟩ := Tn.cls_fin c4 c3 c0
  obtain ⟨l1, l2, e1, e2⟩ := Tn.room a0 a1
  have k4 : (Ie.cls d == 4) = false := beq_eq_false_iff_ne.2 c4
  have k3 : (Ie.cls d == 3) = false := beq_eq_false_iff_ne.2 c3
  have k0 : (Ie.cls d == 0) = false := beq_eq_false_iff_ne.2 c0
  have ET : Hid (Tn.txg d = gs ++ Tn.lay (Sh.dd (Sh.dgt (d % 9223372036854775808))).ds ((Sh.dd (Sh.dgt (d % 9223372036854775808))).e + ((Sh.dd (Sh.dgt (d % 9223372036854775808))).ds.length : Int))) := by show _ = _; rw [Tn.txg, ← hss, if_neg c4, if_neg c3, if_neg c0]
  have DG := hid (fun wx : World => xdig_any d _ wx h0 h1 rfl a1)
  have ez : Sh.zD d = ⟨Sh.ng d, (Sh.dd (Sh.dgt (d % 9223372036854775808))).ds, (Sh.dd (Sh.dgt (d % 9223372036854775808))).e⟩ := by rw [Sh.zD, if_pos (by rw [Sh.fnt_iff]; exact decide_eq_true a1)]
  unfold DigTold at DG
  rw [ez] at DG
  generalize Sh.dd (Sh.dgt (d % 9223372036854775808)) = DD at *
  generalize Sh.ng d = ngs at *
  generalize Sh.zR d = zr at *
  generalize Ie.cls d = c at *
  have TB := hid ht
  have HG := hid hsg
  clear ht h0 h1 ez hss hsg c4 c3 c0 a0 a1
  rcases hsd with ⟨sd, rfl⟩ | ⟨sd, rfl⟩
  · go_enter Tryz.func17, Tryz.ntmps17
    go_wp2_with fail
    refine (CL.out _).mono ?_
    rintro e w1 ⟨rfl, hB⟩
    have B1 := hid hB
    clear hB
    go_wp2_with fail
    refine (DG.out w1).mono ?_
    rintro e w2 ⟨t, rfl, ht, b2'⟩
    have b2 := B1.out.trans (b2'.mono B1.out.size)
    clear b2' B1
    have sz : t.size = DD.ds.length := ht.out.size
    have b3 := alloc_b w2 (.cells #[.bool ngs, .string t, .int .i64 DD.e] 28)
    have B3 := hid (b2.trans (b3.mono b2.size))
    have T3 := hid (tab10_below TB.out B3.out)
    have LY := hid (xlayout_any t DD.ds (DD.e + (DD.ds.length : Int)) _ ht.out (by omega) (by omega) (by omega) (by omega) T3.out)
    have q1 : (t.size : Int) ≤ 17 := by omega
    have q2 : Hid (DD.e + (t.size : Int) = DD.e + (DD.ds.length : Int)) := by show _ = _; omega
    clear b2 b3 DG CL TB ht sz
    go_wp2_with fail
    rw [q2.out]
    with_reducible refine LY.out.mono ?_
    rintro e w4 ⟨u, rfl, hu, b4⟩
    have uz : u.size ≤ 2000 := by rw [hu.out.size]; exact Tn.lay_len l2 (by omega) (by omega)
    have G : Hid (TxTold (Tn.txg d) w (.returned (.string (⟨#[45]⟩ ++ u))) w4) := ⟨_, rfl, by rw [ET.out]; exact HG.out.tcat hu.out, below_on B3.out b4⟩
    clear hu b4 LY
    go_wp2_with fail
    go_ret
    exact G.out
  · go_enter Tryz.func17, Tryz.ntmps17
    go_wp2_with fail
    refine (CL.out _).mono ?_
    rintro e w1 ⟨rfl, hB⟩
    have B1 := hid hB
    clear hB
    go_wp2_with fail
    refine (DG.out w1).mono ?_
    rintro e w2 ⟨t, rfl, ht, b2'⟩
    have b2 := B1.out.trans (b2'.mono B1.out.size)
    clear b2' B1
    have sz : t.size = DD.ds.length := ht.out.size
    have b3 := alloc_b w2 (.cells #[.bool ngs, .string t, .int .i64 DD.e] 28)
    have B3 := hid (b2.trans (b3.mono b2.size))
    have T3 := hid (tab10_below TB.out B3.out)
    have LY := hid (xlayout_any t DD.ds (DD.e + (DD.ds.length : Int)) _ ht.out (by omega) (by omega) (by omega) (by omega) T3.out)
    have q1 : (t.size : Int) ≤ 17 := by omega
    have q2 : Hid (DD.e + (t.size : Int) = DD.e + (DD.ds.length : Int)) := by show _ = _; omega
    clear b2 b3 DG CL TB ht sz
    go_wp2_with fail
    rw [q2.out]
    with_reducible refine LY.out.mono ?_
    rintro e w4 ⟨u, rfl, hu, b4⟩
    have uz : u.size ≤ 2000 := by rw [hu.out.size]; exact Tn.lay_len l2 (by omega) (by omega)
    have G : Hid (TxTold (Tn.txg d) w (.returned (.string (⟨#[]⟩ ++ u))) w4) := ⟨_, rfl, by rw [ET.out]; exact HG.out.tcat hu.out, below_on B3.out b4⟩
    clear hu b4 LY
    go_wp2_with fail
    go_ret
    exact G.out
set_option maxRecDepth 100000 in
set_option maxHeartbeats 2000000 in
theorem xwithin_nof (d n : Int) (w : World) (h0 : 0 ≤ d) (h1 : d < 18446744073709551616) (hf : ¬ d % 9223372036854775808 < 9218868437227405312) :
    Calls Tryz.prog 13 #[.int .u64 d, .int .i64 n] w fun en w' => en = .returned (.tuple #[.agg #[.bool false, .string ⟨#[]⟩, .int .i64 0], .bool false, .int .i64 5]) ∧ Below w.heap.size w w' := by
  have FI := hid (fun wx => xfin_any d wx h0 h1)
  rw [decide_eq_false hf] at FI
  clear h0 h1 hf
  go_enter Tryz.func13, Tryz.ntmps13
  go_wp2_with fail
  refine (FI.out _).mono ?_
  rintro en wx ⟨rfl, hw⟩
  rw [hw]
  clear hw
  go_wp2_with fail
  (try simp only [Exit.inBlock, Exit.then])
  refine bodyPost_ret (tresults_row_tmp2 rfl _ _ w.heap.size 28 _ (0, 0) _ rfl (FR3.new w _ _ _) Tryz.underlying28 rfl (by kernel_rfl)) rfl ?_
  exact ⟨rfl, alloc_b w _⟩
set_option maxRecDepth 100000 in
set_option maxHeartbeats 2000000 in
theorem xwithin_arg (d n : Int) (w : World) (h0 : 0 ≤ d) (h1 : d < 18446744073709551616) (hf : d % 9223372036854775808 < 9218868437227405312) (hn : n < 1 ∨ 17 < n) :
    Calls Tryz.prog 13 #[.int .u64 d, .int .i64 n] w fun en w' => en = .returned (.tuple #[.agg #[.bool false, .string ⟨#[]⟩, .int .i64 0], .bool false, .int .i64 1]) ∧ Below w.heap.size w w' := by
  have FI := hid (fun wx => xfin_any d wx h0 h1)
  rw [decide_eq_true hf] at FI
  clear h0 h1 hf
  rcases hn with hn | hn
  · go_enter Tryz.func13, Tryz.ntmps13
    go_wp2_with fail
    refine (FI.out _).mono ?_
    rintro en wx ⟨rfl, hw⟩
    rw [hw]
    clear hw
    go_wp2_with fail
    (try simp only [Exit.inBlock, Exit.then])
    refine bodyPost_ret (tresults_row_tmp2 rfl _ _ w.heap.size 28 _ (0, 0) _ rfl (FR3.new w _ _ _) Tryz.underlying28 rfl (by kernel_rfl)) rfl ?_
    exact ⟨rfl, alloc_b w _⟩
  · have hn1 : ¬ n < 1 := by omega
    go_enter Tryz.func13, Tryz.ntmps13
    go_wp2_with fail
    refine (FI.out _).mono ?_
    rintro en wx ⟨rfl, hw⟩
    rw [hw]
    clear hw
    go_wp2_with fail
    (try simp only [Exit.inBlock, Exit.then])
    refine bodyPost_ret (tresults_row_tmp2 rfl _ _ w.heap.size 28 _ (0, 0) _ rfl (FR3.new w _ _ _) Tryz.underlying28 rfl (by kernel_rfl)) rfl ?_
    exact ⟨rfl, alloc_b w _⟩
set_option maxRecDepth 100000 in
set_option maxHeartbeats 2000000 in
theorem xdig_nof (d : Int) (w : World) (h0 : 0 ≤ d) (h1 : d < 18446744073709551616) (hf : ¬ d % 9223372036854775808 < 9218868437227405312) :
    Calls Tryz.prog 12 #[.int .u64 d] w fun en w' => DigTold d w en w' := by
  have Z := hid (FR3.new w (.bool false) (.string ⟨#[]⟩) (.int .i64 0))
  have ZB := hid (alloc_b w (.cells #[.bool false, .string ⟨#[]⟩, .int .i64 0] 28))
  have WI := hid (fun wx => xwithin_nof d 1 wx h0 h1 hf)
  have G : Hid (∀ (w' : World), Below w.heap.size w w' → DigTold d w (.returned (.tuple #[.agg #[.bool false, .string ⟨#[]⟩, .int .i64 0], .int .i64 5])) w') := by
    intro w' hB
    have hf' : ¬ Ie.fnt d = true := by rw [Sh.fnt_iff, decide_eq_true_iff]; exact hf
    have e : Sh.zD d = ⟨false, [], 0⟩ := by rw [Sh.zD, if_neg hf']
    exact ⟨⟨#[]⟩, by rw [e, Sh.zR, if_neg hf'], by rw [e]; rfl, hB⟩
  clear h0 h1 hf
  go_enter Tryz.func12, Tryz.ntmps12
  go_wp2_with fail
  go_loopg [4] 0 (fun m nv wr => nv = .int .i64 1 ∧ Hid (wr = w.alloc (.cells #[.bool false, .string ⟨#[]⟩, .int .i64 0] 28)))
  case atStart => exact ⟨rfl, rfl⟩
  case round =>
    obtain ⟨rfl, hw⟩ := hrel
    have hw := hw.out
    subst hw
    go_wp2_with fail
    refine (WI.out _).mono ?_
    rintro en w1 ⟨rfl, b1⟩
    have R1 := Z.out.below b1 Z.out.lt
    have B1 := below_on ZB.out b1
    have R2 := hid (R1.below (alloc_b w1 (.cells #[.bool false, .string ⟨#[]⟩, .int .i64 0] 28)) R1.lt)
    have B2 := hid (below_on B1 (alloc_b w1 (.cells #[.bool false, .string ⟨#[]⟩, .int .i64 0] 28)))
    obtain ⟨⟨c0, c1, c2⟩, f0, f1, f2⟩ := R2.out.cells
    clear R1 B1 b1 WI Z ZB
    go_wp2_with fail
    (try simp only [Exit.inBlock, Exit.then])
    refine bodyPost_ret (fresults_row_tmp rfl _ _ w.heap.size 28 _ (0, 0) _ rfl (R2.out.put _ _ _) Tryz.underlying28 rfl (by kernel_rfl)) rfl ?_
    exact G.out _ (fset3_below B2.out (Nat.le_refl _))
end Go.Proofs.YtonnlimmjelldaaGreatDoor

namespace Go.Proofs.YtonnlimmjelldaaGreatDoor
open Go Go.RowKit Go.Deep

namespace Tn
open Sh
theorem in_digg {os xs : List Int} {T E : Int} {K : Nat} {s : ByteArray} (hz : Nm.Limbs os) (hv : Nm.val os = T) (h0 : 0 < T) (hK : K ≤ 2000) (hb : T < 10 ^ K) (hs : Str s xs) (h : InIs os 10 false xs E) : DigT T s xs ∧ E = 0 := by
  have hp : T < Nm.pw 4096 := Int.lt_trans hb (fp10_pw (by omega))
  have ts : Nm.tsize os ≤ 4096 := (Nm.tsize_le_iff hz 4096).2 (by omega)
  cases h with
  | big c => omega
  | base _ c => omega
  | zero c _ _ =>
    have := (Nm.tsize_zero_iff hz).1 c
    omega
  | ok L c1 c2 c3 c4 c5 =>
    rw [hv] at c5 hs ⊢
    exact ⟨dig_lets h0 c5 hK hb hs, rfl⟩
theorem norm_isg {xs : List Int} {k e U : Int} {j : Nat} (hd : Digs xs) (hh : xs.getD 0 0 ≠ 48) (hv : dv xs = k) (hk : 0 < k) (hj : j ≤ xs.length) (h0 : ∀ i, j ≤ i → i < xs.length → xs.getD i 0 = 48) (hl : xs.getD (j - 1) 0 ≠ 48) (he : -1076 ≤ e) (he2 : -1075 ≤ e + ((xs.length : Int) - (j : Int))) (hU : k * 10 ^ (e + 1076).toNat = 10 * U) :
    dd U = ⟨false, xs.take j, e + ((xs.length : Int) - (j : Int))⟩ := by
  obtain ⟨n1, n2, n3⟩ := Fx.nml_take hd hh hj h0 (fun _ => hl) (by omega)
  refine dd_eq ⟨rfl, he2, .inr n2⟩ ?_
  show dv (xs.take j) * 10 ^ (e + ((xs.length : Int) - (j : Int)) + 1075).toNat = _
  have q : dv (xs.take j) * (10 ^ (e + ((xs.length : Int) - (j : Int)) + 1075).toNat * 10) = 10 * U := by
    rw [← Int.pow_succ, Nat.succ_eq_add_one, show (e + ((xs.length : Int) - (j : Int)) + 1075).toNat + 1 = (xs.length - j) + (e + 1076).toNat by omega, Int.pow_add, ← Int.mul_assoc, n3, hv, hU]
  rw [← Int.mul_assoc] at q
  omega
theorem eg1 (m : Int) (X K : Nat) (T : Int) (hT : (5 : Int) ^ K = T) : m * 2 ^ X * 10 ^ (K + 1) = 5 * (m * 2 ^ (X + (K + 1)) * T) := by
  rw [show (10 : Int) = 2 * 5 from rfl, Int.mul_pow, Int.pow_add 2 X, Int.pow_succ 5, hT]
  simp only [Int.mul_assoc, Int.mul_comm, Int.mul_left_comm]
theorem eg2 (m : Int) (a b K : Nat) (T : Int) (hT : (5 : Int) ^ K = T) (hab : a + b = K + 1) : m * 5 ^ a * 10 ^ b = 5 * (m * 2 ^ b * T) := by
  have e : (5 : Int) ^ a * 5 ^ b = T * 5 := by rw [← Int.pow_add, hab, Int.pow_succ, hT]
  rw [show (10 : Int) = 2 * 5 from rfl, Int.mul_pow]
  have e2 : m * 5 ^ a * (2 ^ b * 5 ^ b) = m * 2 ^ b * (5 ^ a * 5 ^ b) := by simp only [Int.mul_assoc, Int.mul_left_comm]
  rw [e2, e]
  simp only [Int.mul_assoc, Int.mul_comm, Int.mul_left_comm]
theorem ex_up {m x U : Int} (hx : 0 ≤ x) (h : m * 2 ^ (x + 1076).toNat * T5 = 2 * U) : m * 2 ^ x.toNat * 10 ^ ((0 : Int) + 1076).toNat = 10 * U := by
  have q := eg1 m x.toNat 1075 T5 rfl
  rw [show x.toNat + (1075 + 1) = (x + 1076).toNat by omega, h] at q
  rw [show ((0 : Int) + 1076).toNat = 1075 + 1 from rfl, q]
  omega
theorem ex_dn {m x U : Int} (hx : x < 0) (hx2 : -1076 ≤ x) (h : m * 2 ^ (x + 1076).toNat * T5 = 2 * U) : m * 5 ^ (-x).toNat * 10 ^ (x + 1076).toNat = 10 * U := by
  rw [eg2 m (-x).toNat (x + 1076).toNat 1075 T5 rfl (by omega), h]
  omega
theorem ex_ten {m : Int} (h : m % 2 = 0) : m * 5 ^ (-(-1076 : Int)).toNat % 10 = 0 := by
  obtain ⟨k, hk⟩ : ∃ k, m = 2 * k := ⟨m / 2, by omega⟩
  rw [hk, show (-(-1076 : Int)).toNat = 1075 + 1 from rfl, Int.pow_succ, Int.mul_assoc, ← Int.mul_assoc k, Int.mul_left_comm, Int.mul_comm _ 5, ← Int.mul_assoc]
  generalize k * 5 ^ 1075 = z
  omega
theorem ex_bdu {m x : Int} (m0 : 0 < m) (m1 : m < 18446744073709551616) (x1 : x ≤ 1000) : m * 2 ^ x.toNat < 10 ^ 1200 := by
  have a : (2 : Int) ^ x.toNat ≤ 10 ^ 1000 := Int.le_trans (f2_10 _) (Fx.p_le (by omega))
  have b : m < 10 ^ 20 := by have : (10 : Int) ^ 20 = 100000000000000000000 := by decide
                             omega
  have c : m * 2 ^ x.toNat ≤ m * 10 ^ 1000 := Int.mul_le_mul_of_nonneg_left a (by omega)
  have d : m * 10 ^ 1000 < 10 ^ 20 * 10 ^ 1000 := Int.mul_lt_mul_of_pos_right b (Fx.p_pos _)
  rw [← Int.pow_add] at d
  have f : (10 : Int) ^ (20 + 1000) ≤ 10 ^ 1200 := Fx.p_le (by omega)
  exact Int.lt_of_le_of_lt c (Int.lt_of_lt_of_le d f)
theorem ex_bdd {m x : Int} (m0 : 0 < m) (m1 : m < 18446744073709551616) (x1 : -1076 ≤ x) : m * 5 ^ (-x).toNat < 10 ^ 1200 := by
  have a : (5 : Int) ^ (-x).toNat ≤ 10 ^ 1076 := Int.le_trans (f5_10 _) (Fx.p_le (by omega))
  have b : m < 10 ^ 20 := by have : (10 : Int) ^ 20 = 100000000000000000000 := by decide
                             omega
  have c : m * 5 ^ (-x).toNat ≤ m * 10 ^ 1076 := Int.mul_le_mul_of_nonneg_left a (by omega)
  have d : m * 10 ^ 1076 < 10 ^ 20 * 10 ^ 1076 := Int.mul_lt_mul_of_pos_right b (Fx.p_pos _)
  rw [← Int.pow_add] at d
  have f : (10 : Int) ^ (20 + 1076) ≤ 10 ^ 1200 := Fx.p_le (by omega)
  exact Int.lt_of_le_of_lt c (Int.lt_of_lt_of_le d f)
end Tn
set_option maxRecDepth 100000 in
set_option maxHeartbeats 8000000 in
theorem xnormg_any (neg : Bool) (k e U : Int) (K : Nat) (r : Option Addr) (os : List Int) (w : World) (e0 : -1076 ≤ e) (e1 : e ≤ 1000) (hA : Arg w r os.length os.length os) (hv : Nm.val os = k) (hk : 0 < k) (hK : K ≤ 2000) (hk1 : k < 10 ^ K) (hU : k * 10 ^ (e + 1076).toNat = 10 * U) (hm : e = -1076 → k % 10 = 0) :
    Calls Tryz.prog 33 #[.bool neg, .slice r os.length os.length, .int .i64 e] w fun en w' => NoTold neg U w en w' := by
  have Z := hid (FR3.new w (.bool false) (.string ⟨#[]⟩) (.int .i64 0))
  have ZB := hid (alloc_b w (.cells #[.bool false, .string ⟨#[]⟩, .int .i64 0] 28))
  have SD := hid (sdigits_any r _ _ os (w.alloc (.cells #[.bool false, .string ⟨#[]⟩, .int .i64 0] 28)) (hA.below ZB.out (Nat.le_refl _)))
  have DI := hid (fun (s : ByteArray) (xs : List Int) (E : Int) (h1 : Str s xs) (h2 : InIs os 10 false xs E) => Tn.in_digg hA.2.2.2.2 hv hk hK hk1 h1 h2)
  have KP := hid hk
  have HU := hid hU
  have HM := hid hm
  clear hA hv hk hk1 hU hm hK
  go_enter Tryz.func33, Tryz.ntmps33
  go_wp2_with fail
  refine SD.out.mono ?_
  rintro en w1 ⟨s, xs, E, rfl, hs, hi, hB⟩
  obtain ⟨dt, rfl⟩ := DI.out s xs E hs hi
  have DT := hid dt
  have R1 := hid (Z.out.below hB Z.out.lt)
  have B1 := hid (ZB.out.trans (hB.mono ZB.out.size))
  have HS := hid hs
  have sz := hid hs.size
  obtain ⟨L, hL⟩ : ∃ L, xs.length = L + 1 := ⟨xs.length - 1, by have := List.length_pos_iff.2 dt.ne; omega⟩
  have HL := hid hL
  have lb : (L : Int) ≤ 3000 := by have := dt.len; omega
  have s1 : Hid (s.size = L + 1) := by show _ = _; rw [sz.out, hL]
  have BA : Hid (∀ j (h : j < s.size), ((s[j]'h).toNat : Int) = xs.getD j 0) := fun j h => hs.at j h
  clear hB SD DI Z ZB hs hi dt hL
  go_wp2_with fail
  go_loopg [2, 9] L (fun m ev nv wr => nv = .int .i64 ((m : Int) + 1) ∧ m ≤ L ∧ ev = .int .i64 (e + ((L : Int) - (m : Int))) ∧ Hid ((∀ i, m + 1 ≤ i → i < xs.length → xs.getD i 0 = 48) ∧ wr = w1))
  case atStart => exact ⟨by rw [s1.out]; rfl, Nat.le_refl _, by rw [show e + ((L : Int) - (L : Int)) = e by omega], fun i h1 h2 => by have := HL.out; omega, rfl⟩
  case round =>
    obtain ⟨rfl, hm, rfl, J⟩ := hrel
    obtain ⟨j0, hw⟩ := J.out
    subst hw
    have J0 := hid j0
    clear J j0
    have E9 : Hid (xs.getD gk 0 ≠ 48 → Sh.dd U = ⟨false, xs.take (gk + 1), e + ((L : Int) - (gk : Int))⟩) := fun h => by
      have lo : -1075 ≤ e + ((xs.length : Int) - ((gk + 1 : Nat) : Int)) := by
        rcases (show e = -1076 ∨ -1075 ≤ e by omega) with c | c
        · have q := HM.out c
          have v := Fx.dv_mod DT.out.digs HL.out
          rw [DT.out.val, q] at v
          have : gk ≠ L := fun z => h (by rw [z]; omega)
          have := HL.out
          omega
        · have := HL.out
          omega
      have q := Tn.norm_isg (j := gk + 1) DT.out.digs DT.out.head DT.out.val KP.out (by have := HL.out; omega) J0.out (by rw [Nat.add_sub_cancel]; exact h) (e := e) e0 lo HU.out
      rw [q, HL.out]
      congr 1
      omega
    have BJ := BA.out gk
    have gl : gk < s.size := by rw [s1.out]; omega
    have gli : (gk : Int) < (s.size : Int) := by omega
    have gl2 : (gk : Int) + 1 ≤ (s.size : Int) := by omega
    have FIN : Hid (∀ (w' : World), xs.getD gk 0 ≠ 48 → Below w.heap.size w w' → NoTold neg U w (.returned (.agg #[.bool neg, .string (s.extract 0 (gk + 1)), .int .i64 (e + ((L : Int) - (gk : Int)))])) w') := fun w' h hb => by
      have q := E9.out h
      refine ⟨s.extract 0 (gk + 1), by rw [q], ?_, hb⟩
      rw [q]
      have x := Str.extract HS.out 0 (gk + 1)
      rw [List.drop_zero, Nat.sub_zero] at x
      exact x
    obtain ⟨⟨c0, c1, c2⟩, f0, f1, f2⟩ := R1.out.cells
    by_cases h48 : xs.getD gk 0 = 48
    · have g0 : gk ≠ 0 := fun c => DT.out.head (by rw [c] at h48; exact h48)
      have g0i : (1 : Int) < (gk : Int) + 1 := by omega
      rw [h48] at BJ
      have J1 : Hid (∀ i, gk - 1 + 1 ≤ i → i < xs.length → xs.getD i 0 = 48) := fun i h1 h2 => by
        rcases Nat.eq_or_lt_of_le (show gk ≤ i by omega) with c | c
        · rw [← c]; exact h48
        · exact J0.out i (by omega) h2
      clear E9 FIN h48 J0
      go_wp2_with fail
      go_roundg (gk - 1)
      case measure => omega
      case rel => exact ⟨by go_num, by omega, by go_num, J1.out, rfl⟩
    · have G := hid (fun w' hb => FIN.out w' h48 hb)
      have h48b : (xs.getD gk 0 == 48) = false := beq_eq_false_iff_ne.2 h48
      clear E9 FIN J0
      generalize xs.getD gk 0 = c at *
      by_cases g0 : (1 : Int) < (gk : Int) + 1
      · go_wp2_with fail
        (try simp only [Exit.inBlock, Exit.then])
        refine bodyPost_ret (results_cell_row rfl _ _ w.heap.size 28 _ (0, 0) _ rfl (R1.out.put _ _ _) Tryz.underlying28 rfl (by kernel_rfl)) rfl ?_
        exact G.out _ (fset3_below B1.out (Nat.le_refl _))
      · go_wp2_with fail
        (try simp only [Exit.inBlock, Exit.then])
        refine bodyPost_ret (results_cell_row rfl _ _ w.heap.size 28 _ (0, 0) _ rfl (R1.out.put _ _ _) Tryz.underlying28 rfl (by kernel_rfl)) rfl ?_
        exact G.out _ (fset3_below B1.out (Nat.le_refl _))
end Go.Proofs.YtonnlimmjelldaaGreatDoor

namespace Go.Proofs.YtonnlimmjelldaaGreatDoor
open Go.RowKit Go.Deep

theorem rpow5_gives (k : Int) (n : Nat) (w : World) (hk : k = (n : Int)) (hk1 : k < 9223372036854775808) :
    Calls Tryz.prog 66 #[.int .i64 k] w fun e w' => Gives (5 ^ n) w e w' := by
  have hb : Below w.heap.size w (w.alloc (.cells #[.int .u64 5] 26)) := (Below.refl _ _).alloc (Nat.le_refl _) _
  have A : Arg (w.alloc (.cells #[.int .u64 5] 26)) (some ⟨w.heap.size, 0, none⟩) 1 1 [5] := ⟨rfl, Nat.le_refl _, by omega, (Own.alloc w [5]).lies, limb_one (by omega)⟩
  have P := hid (rpow_gives _ 1 1 [5] 5 k n _ A (by simp [Nm.tsize]) (by simp [Nm.val]) hk hk1)
  have HB := hid hb
  clear hb A hk hk1
  go_enter Tryz.func66, Tryz.ntmps66
  go_wp2_with fail
  refine P.out.mono ?_
  rintro e w1 ⟨h | h, hb1⟩
  · obtain ⟨h1, r, os, rfl, A1⟩ := h
    have G : Hid (Gives (5 ^ n) w (.returned (.tuple #[.slice r (List.length os) (List.length os), .int .i64 0])) w1) := ⟨.inl ⟨h1, r, os, rfl, A1.upT HB.out.size⟩, chain HB.out hb1 (Nat.le_refl _)⟩
    clear h1 A1 hb1
    go_wp2_with fail
    go_ret2
    exact G.out
  · obtain ⟨h1, rfl⟩ := h
    have G : Hid (Gives (5 ^ n) w (.returned (.tuple #[.slice none 0 0, .int .i64 2])) w1) := ⟨.inr ⟨h1, rfl⟩, chain HB.out hb1 (Nat.le_refl _)⟩
    clear h1 hb1
    go_wp2_with fail
    go_ret2
    exact G.out

end Go.Proofs.YtonnlimmjelldaaGreatDoor

namespace Go.Proofs.YtonnlimmjelldaaGreatDoor
open Go Go.RowKit Go.Deep

set_option maxRecDepth 100000 in
set_option maxHeartbeats 4000000 in
theorem xexact_any (m x U : Int) (w : World) (m0 : 0 < m) (m1 : m < 18446744073709551616) (x0 : -1076 ≤ x) (x1 : x ≤ 1000) (h : m * 2 ^ (x + 1076).toNat * Sh.T5 = 2 * U) (hm : x = -1076 → m % 2 = 0) :
    Calls Tryz.prog 34 #[.int .u64 m, .int .i64 x] w fun en w' => NoTold false U w en w' := by
  have Z := hid (FR3.new w (.bool false) (.string ⟨#[]⟩) (.int .i64 0))
  have ZB := hid (alloc_b w (.cells #[.bool false, .string ⟨#[]⟩, .int .i64 0] 28))
  have p12 : (10 : Int) ^ 1200 < Nm.pw 4096 := fp10_pw (by omega)
  have A0 : Hid (∀ wx : World, Arg (wx.alloc (.cells #[.int .u64 m] 26)) (some ⟨wx.heap.size, 0, none⟩) 1 1 [m]) := fun wx => ⟨rfl, Nat.le_refl _, by omega, (Own.alloc wx [m]).lies, limb_one ⟨by omega, m1⟩⟩
  by_cases hx : 0 ≤ x
  · have kp : 0 < m * 2 ^ x.toNat := Int.mul_pos m0 (Int.pow_pos (by omega))
    have kb := Tn.ex_bdu (x := x) m0 m1 x1
    have KP := hid (Int.lt_trans kb p12)
    have NO := hid (fun r os wx h1 h2 => xnormg_any false _ 0 U 1200 r os wx (by omega) (by omega) h1 h2 kp (by omega) kb (Tn.ex_up hx h) (fun c => by omega))
    have LF := hid (fun wx : World => lift_any _ _ _ [m] x x.toNat (wx.alloc (.cells #[.int .u64 m] 26)) (A0.out wx) (Nat.le_trans (Nm.tsize_le _) (by simp)) (by omega) (by omega))
    rw [show Nm.val [m] = m by simp [Nm.val]] at LF
    clear kp kb p12 h hm m0 m1
    generalize m * 2 ^ x.toNat = k at *
    unfold NoTold at NO
    have LF0 := LF.out (w.alloc (.cells #[.bool false, .string ⟨#[]⟩, .int .i64 0] 28))
    rw [show (w.alloc (.cells #[.bool false, .string ⟨#[]⟩, .int .i64 0] 28)).heap.size = w.heap.size + 1 from World.size_alloc _ _] at LF0
    have LG := hid LF0
    clear LF0
    go_enter Tryz.func34, Tryz.ntmps34
    go_wp2_with fail
    with_reducible refine LG.out.mono ?_
    rintro en w1 ⟨r, os, rfl, A, b⟩
    have bO := alloc_b (w.alloc (.cells #[.bool false, .string ⟨#[]⟩, .int .i64 0] 28)) (.cells #[.int .u64 m] 26)
    have b1 := bO.trans (b.mono bO.size)
    have Z1 := hid (Z.out.below b1 Z.out.lt)
    have B1 := hid (ZB.out.trans (b1.mono ZB.out.size))
    have N1 := hid (NO.out r os w1 (A.argT KP.out) A.2.2.2.1)
    clear A b bO b1 Z ZB NO LF LG
    go_wp2_with fail
    refine N1.out.mono ?_
    rintro en w2 ⟨t, rfl, ht, b2⟩
    have Z2 := hid (Z1.out.below b2 Z1.out.lt)
    have B2 := hid (below_on B1.out b2)
    have HT := hid ht
    obtain ⟨⟨c0, c1, c2⟩, f0, f1, f2⟩ := Z2.out.cells
    clear b2 Z1 B1 N1 ht
    go_wp2_with fail
    (try simp only [Exit.inBlock, Exit.then])
    refine bodyPost_ret (results_cell_row rfl _ _ w.heap.size 28 _ (0, 0) _ rfl (Z2.out.put _ _ _) Tryz.underlying28 rfl (by kernel_rfl)) rfl ?_
    exact ⟨t, rfl, HT.out, fset3_below B2.out (Nat.le_refl _)⟩
  · have hx' : x < 0 := by omega
    have kp : 0 < m * 5 ^ (-x).toNat := Int.mul_pos m0 (Int.pow_pos (by omega))
    have kb := Tn.ex_bdd (x := x) m0 m1 x0
    have KP := hid (Int.lt_trans kb p12)
    have p5 : Hid ((5 : Int) ^ (-x).toNat < Nm.pw 4096) := Int.lt_of_le_of_lt (f5_10 _) (fp10_pw (by omega))
    have NO := hid (fun r os wx h1 h2 => xnormg_any false _ x U 1200 r os wx x0 (by omega) h1 h2 kp (by omega) kb (Tn.ex_dn hx' x0 h) (fun c => by rw [c]; exact Tn.ex_ten (hm c)))
    have PW := hid (fun wx : World => (rpow5_gives (-x) (-x).toNat wx (by omega) (by omega)).mono (fun e w' (q : Gives (5 ^ (-x).toNat) wx e w') => show ∃ r os, e = .returned (.tuple #[.slice r (List.length os) (List.length os), .int .i64 0]) ∧ Ans wx.heap.size w' r os (5 ^ (-x).toNat) ∧ Below wx.heap.size wx w' from by
      rcases q with ⟨⟨-, r, os, he, ha⟩ | q, hb⟩
      · exact ⟨r, os, he, ha, hb⟩
      · exact absurd p5.out (by have := q.1; omega)))
    have TM := hid (fun (wx : World) r os (q : Arg (wx.alloc (.cells #[.int .u64 m] 26)) r (List.length os) (List.length os) os) (q2 : Nm.tsize os ≤ 1099511627776) => times_any _ r 1 1 _ _ [m] os (wx.alloc (.cells #[.int .u64 m] 26)) (A0.out wx) q (Nat.le_trans (Nm.tsize_le _) (by simp)) q2)
    have vm : Hid (Nm.val [m] = m) := by show _ = _; simp [Nm.val]
    clear kp kb p12 h hm m0 m1 A0
    unfold NoTold at NO
    have hxi : ¬ 0 ≤ x := hx
    go_enter Tryz.func34, Tryz.ntmps34
    go_wp2_with fail
    with_reducible refine (PW.out _).mono ?_
    rintro en w1 ⟨r5, o5, rfl, A5, b1⟩
    have bO := alloc_b w1 (.cells #[.int .u64 m] 26)
    have A6 := A5.below bO (Nat.le_refl _)
    have TT := TM.out w1 r5 o5 (A6.argT p5.out) (Nat.le_trans (A6.tsT p5.out) (by omega))
    rw [vm.out, A5.2.2.2.1] at TT
    have HTT := hid TT
    have Z0 := Z.out.below b1 Z.out.lt
    have Z1 := hid (Z0.below bO Z0.lt)
    have B0 := ZB.out.trans (b1.mono ZB.out.size)
    have B1 := hid (B0.trans (bO.mono B0.size))
    clear A5 A6 TT TM PW b1 bO Z ZB Z0 B0
    go_wp2_with fail
    with_reducible refine HTT.out.mono ?_
    rintro en w2 ⟨r, os, rfl, A, b2⟩
    have Z2 := hid (Z1.out.below b2 Z1.out.lt)
    have B2 := hid (below_on B1.out b2)
    have N1 := hid (NO.out r os w2 (A.argT KP.out) A.2.2.2.1)
    clear A b2 Z1 B1 NO HTT
    go_wp2_with fail
    refine N1.out.mono ?_
    rintro en w3 ⟨t, rfl, ht, b3⟩
    have Z3 := hid (Z2.out.below b3 Z2.out.lt)
    have B3 := hid (below_on B2.out b3)
    have HT := hid ht
    obtain ⟨⟨c0, c1, c2⟩, f0, f1, f2⟩ := Z3.out.cells
    clear b3 Z2 B2 N1 ht
    go_wp2_with fail
    (try simp only [Exit.inBlock, Exit.then])
    refine bodyPost_ret (results_cell_row rfl _ _ w.heap.size 28 _ (0, 0) _ rfl (Z3.out.put _ _ _) Tryz.underlying28 rfl (by kernel_rfl)) rfl ?_
    exact ⟨t, rfl, HT.out, fset3_below B3.out (Nat.le_refl _)⟩
end Go.Proofs.YtonnlimmjelldaaGreatDoor

namespace Go.Proofs.YtonnlimmjelldaaGreatDoor
open Go Go.RowKit Go.Deep

theorem results_cell_tmp_tmp {fn : Func} {p u v : Tmp} {ty : TypeId} (h : fn.results = #[.cell p ty, .tmp u, .tmp v]) (tmps : Array Value) (P : Program) (w : World) :
    (results fn tmps).run P w =
      ((asAddr (tmps.getD p undef)).run P w).andThen fun a w₁ => ((loadVar ty a).run P w₁).andThen fun x w₂ => .ok (.tuple #[x, tmps.getD u undef, tmps.getD v undef]) w₂ := by
  simp only [results, h]
  simp [Sem.run_bind, Result.andThen]
theorem results_row_tmp2 {P : Program} {fn : Func} {p u v : Tmp} {ty : TypeId} (h : fn.results = #[.cell p ty, .tmp u, .tmp v]) (tmps : Array Value) (w : World) (g : Nat) (t : TypeId) (cs : Array Value) (fr : Nat × Nat) (d : TypeDesc)
    (hp : tmps.getD p undef = .pointer (some ⟨g, 0, none⟩)) (hg : w.heap[g]? = some (.cells cs t fr))
    (hu : P.underlying ty = some d) (hd : (match d with | .struct _ | .array _ _ => true | _ => false) = true) (hi : (P.info? ty).map (·.size) = some cs.size) :
    (results fn tmps).run P w = .ok (.tuple #[.agg cs, tmps.getD u undef, tmps.getD v undef]) w := by
  rw [results_cell_tmp_tmp h, hp]
  simp [asAddr, run_loadVar_row w g t ty cs fr d hg hu hd hi, Result.andThen]

def WiTold (d : Int) (n : Nat) (w : World) (e : Ending) (w' : World) : Prop :=
  ∃ t, e = .returned (.tuple #[.agg #[.bool (Sh.wB (d % 9223372036854775808) n && Sh.ng d), .string t, .int .i64 (Sh.wD (d % 9223372036854775808) n).e], .bool (Sh.wB (d % 9223372036854775808) n), .int .i64 0]) ∧ Hid (Str t (Sh.wD (d % 9223372036854775808) n).ds) ∧ Below w.heap.size w w'

set_option maxRecDepth 100000 in
set_option maxHeartbeats 4000000 in
theorem zwi_any (d : Int) (n : Nat) (w : World) (h0 : 0 ≤ d) (h1 : d < 18446744073709551616) (hf : d % 9223372036854775808 < 9218868437227405312) (n1 : 1 ≤ n) (n2 : n ≤ 17) (htab : Tab10 w) :
    Calls Tryz.prog 9 #[.int .u64 d, .int .i64 n] w fun e w' => WiTold d n w e w' := by
  have FN := hid (fun wx : World => zfinite_any d wx h0 h1)
  have NG := hid (fun wx : World => znegative_any d wx h0 h1)
  have Z := FR3.new w (.bool false) (.string ⟨#[]⟩) (.int .i64 0)
  have ZB := alloc_b w (.cells #[.bool false, .string ⟨#[]⟩, .int .i64 0] 28)
  have SP := hid (fun wx : World => zspan_any d wx h0 h1 hf)
  rw [Sh.fnt_iff, decide_eq_true hf] at FN
  have G : Hid (∀ (w' : World) (t : ByteArray), Hid (Str t (Sh.wD (d % 9223372036854775808) n).ds) → Below w.heap.size w w' → WiTold d n w (.returned (.tuple #[.agg #[.bool (Sh.wB (d % 9223372036854775808) n && Sh.ng d), .string t, .int .i64 (Sh.wD (d % 9223372036854775808) n).e], .bool (Sh.wB (d % 9223372036854775808) n), .int .i64 0])) w') := fun w' t ht hB => ⟨t, rfl, ht, hB⟩
  obtain ⟨a, ha⟩ : ∃ a, d % 9223372036854775808 = a := ⟨_, rfl⟩
  have a0 : 0 ≤ a := by omega
  rw [ha] at SP hf G
  have HZ := hid (And.intro Z ZB)
  have TB := hid (tab10_below htab ZB)
  have n1' : ¬ (n : Int) < 1 := by omega
  have n2' : (n : Int) ≤ 17 := by omega
  clear Z ZB htab ha h0 h1
  go_enter Tryz.func9, Tryz.ntmps9
  go_wp2_with fail
  refine (FN.out _).mono ?_
  rintro e wz ⟨rfl, hz⟩
  subst hz
  go_wp2_with fail
  refine (SP.out _).mono ?_
  rintro e w1 ⟨v, rfl, ⟨s1, s2, s3, hv, g1, g2, g3⟩, B1⟩
  subst hv
  have W := zwithin_any a n s1 s2 s3 w1 a0 hf n1 n2 (tab10_below TB.out B1) g1 g2 g3
  have HB2 := hid B1
  have HW := hid W
  unfold WnTold at HW
  generalize Sh.wB a n = ok at *
  generalize Sh.wD a n = DD at *
  clear W B1 SP FN g1 g2 g3 TB
  go_wp2_with fail
  refine HW.out.mono ?_
  rintro e w3 ⟨t, rfl, ht, B3⟩
  have RZ3 := HZ.out.1.below (HB2.out.trans (B3.mono HB2.out.size)) HZ.out.1.lt
  have BW3 := HZ.out.2.trans ((HB2.out.trans (B3.mono HB2.out.size)).mono HZ.out.2.size)
  have RZA := hid (RZ3.below (alloc_b w3 (.cells #[.bool (ok && Sh.ng d), .string t, .int .i64 DD.e] 28)) RZ3.lt)
  have RZB := RZ3.below (alloc_b w3 (.cells #[.bool DD.neg, .string t, .int .i64 DD.e] 28)) RZ3.lt
  have K := hid (G.out _ t ht (fset3_below (u0 := .bool (ok && Sh.ng d)) (u1 := .string t) (u2 := .int .i64 DD.e) (b := w.heap.size) (BW3.trans ((alloc_b w3 (.cells #[.bool (ok && Sh.ng d), .string t, .int .i64 DD.e] 28)).mono BW3.size)) (Nat.le_refl _)))
  generalize Sh.ng d = ngd at *
  obtain ⟨⟨b0, b1, b2⟩, b3, b4, b5⟩ := RZB.cells
  clear HW B3 HB2 ht RZ3 BW3 RZB
  cases ok
  · rw [Bool.false_and] at K RZA
    obtain ⟨⟨a0', a1, a2⟩, a3, a4, a5⟩ := RZA.out.cells
    go_wp2_with fail
    (try simp only [Exit.inBlock, Exit.then])
    refine bodyPost_ret (results_row_tmp2 rfl _ _ w.heap.size 28 _ (0, 0) _ rfl (RZA.out.put _ _ _) Tryz.underlying28 rfl (by kernel_rfl)) rfl ?_
    exact K.out
  · rw [Bool.true_and] at K RZA
    obtain ⟨⟨a0', a1, a2⟩, a3, a4, a5⟩ := RZA.out.cells
    go_wp2_with fail
    refine (NG.out _).mono ?_
    rintro e wz ⟨rfl, hz⟩
    subst hz
    go_wp2_with fail
    (try simp only [Exit.inBlock, Exit.then])
    refine bodyPost_ret (results_row_tmp2 rfl _ _ w.heap.size 28 _ (0, 0) _ rfl (RZA.out.put _ _ _) Tryz.underlying28 rfl (by kernel_rfl)) rfl ?_
    exact K.out

set_option maxRecDepth 100000 in
set_option maxHeartbeats 4000000 in
/-- Holds, where nothing is refused and no sign is set. -/
theorem zhold_pos (d : Int) (s : ByteArray) (X : Sc.D) (w : World) (h0 : 0 ≤ d) (h1 : d < 9218868437227405312) (hs : Str s X.ds) (hX : Sh.Nm X) (hn : X.neg = false) (hl : X.ds.length ≤ 100000) :
    Calls Tryz.prog 10 #[.agg #[.bool false, .string s, .int .i64 X.e], .int .u64 d] w fun e w' => e = .returned (.tuple #[.bool (Sh.hD (Sh.dd (Sh.A d)) (Sh.dd (Sh.B d)) X (decide (d % 2 = 0))), .int .i64 0]) ∧ Below w.heap.size w w' := by
  have hm : d % 9223372036854775808 = d := by omega
  have FN := hid (fun wx : World => zfinite_any d wx h0 (by omega))
  have NG := hid (fun wx : World => znegative_any d wx h0 (by omega))
  have SP := hid (fun wx : World => zspan_any d wx h0 (by omega) (by omega))
  rw [hm] at SP
  rw [Sh.fnt_iff, hm, decide_eq_true h1] at FN
  rw [show Sh.ng d = false from decide_eq_false (by omega)] at NG
  have NO := fun wx : World => norm_any false s X.ds X.e wx hs (by omega)
  have E0 : errOf X.ds X.e = 0 ∧ nmd false X.ds X.e = X := by
    refine ⟨by rw [errOf, if_pos hX.dec], ?_⟩
    rw [nmd, if_pos hX.dec, ← hn]
    exact hX.fix
  unfold NormTold decV at NO
  rw [E0.1, E0.2] at NO
  have HN := hid NO
  have HO : Hid (∀ (wx : World) (s1 s2 s3 t : ByteArray), Str s2 (Sh.dd (Sh.A d)).ds → Str s3 (Sh.dd (Sh.B d)).ds → Str t X.ds → Calls Tryz.prog 25 #[spanV (Sh.dd (Sh.V d)) (Sh.dd (Sh.A d)) (Sh.dd (Sh.B d)) s1 s2 s3 (decide (d % 2 = 0)), .agg #[.bool X.neg, .string t, .int .i64 X.e]] wx fun e w' => e = .returned (.bool (Sh.hD (Sh.dd (Sh.A d)) (Sh.dd (Sh.B d)) X (decide (d % 2 = 0)))) ∧ Below wx.heap.size wx w') :=
    fun wx s1 s2 s3 t q2 q3 qt => zholds_any _ _ _ X _ s1 s2 s3 t wx (Sh.nmA h0 h1) (Sh.nmB h0 h1) hX q2 q3 qt
  rw [hn] at HO
  have SP2 : Hid (∀ wx : World, Calls Tryz.prog 19 #[.int .u64 d] wx fun r w' => ∃ s1 s2 s3, r = .returned (spanV (Sh.dd (Sh.V d)) (Sh.dd (Sh.A d)) (Sh.dd (Sh.B d)) s1 s2 s3 (decide (d % 2 = 0))) ∧ Hid (Str s2 (Sh.dd (Sh.A d)).ds ∧ Str s3 (Sh.dd (Sh.B d)).ds) ∧ Below wx.heap.size wx w') := by
    intro wx
    refine (SP.out wx).mono ?_
    rintro e w' ⟨v, rfl, ⟨s1, s2, s3, hv, g1, g2, g3⟩, hB⟩
    exact ⟨s1, s2, s3, by rw [hv], ⟨g2, g3⟩, hB⟩
  have ZB := hid (alloc_b w (.cells #[.bool false, .string s, .int .i64 X.e] 28))
  clear E0 NO hs hX SP hm hl
  generalize Sh.hD (Sh.dd (Sh.A d)) (Sh.dd (Sh.B d)) X (decide (d % 2 = 0)) = RB0 at *
  generalize decide (d % 2 = 0) = cb at *
  generalize Sh.dd (Sh.V d) = DV at *
  generalize Sh.dd (Sh.A d) = DA at *
  generalize Sh.dd (Sh.B d) = DB at *
  unfold spanV at HO SP2
  go_enter Tryz.func10, Tryz.ntmps10
  go_wp2_with fail
  refine (HN.out _).mono ?_
  rintro e w1 ⟨v, rfl, ⟨t, hv, ht⟩, B1⟩
  rw [hn] at hv
  unfold decV at hv
  subst hv
  have HB1 := hid (ZB.out.trans (B1.mono ZB.out.size))
  have HT := hid ht
  clear B1 HN ht
  go_wp2_with fail
  refine (FN.out _).mono ?_
  rintro e wz ⟨rfl, hz⟩
  subst hz
  go_upto_region 6 with fail
  have c0 := (FR3.new w1 (.bool false) (.string t) (.int .i64 X.e)).cells.1.1
  go_quiet (with_reducible exact Calls.quiet_of_same (NG.out _))
  have rY : FR3 ((w1.alloc (.cells #[.bool false, .string t, .int .i64 X.e] 28)).drewN nq) w1.heap.size (.bool false) (.string t) (.int .i64 X.e) := FR3.new w1 _ _ _
  have bY := below_drewN (HB1.out.trans ((alloc_b w1 (.cells #[.bool false, .string t, .int .i64 X.e] 28)).mono HB1.out.size)) nq
  generalize (w1.alloc (.cells #[.bool false, .string t, .int .i64 X.e] 28)).drewN nq = wY at *
  have rY2 : FR3 (wY.setCell ⟨w1.heap.size, 0, none⟩ (.bool false)) w1.heap.size (.bool false) (.string t) (.int .i64 X.e) := fset1 (o := 0) (v := .bool false) (c' := #[.bool false, .string t, .int .i64 X.e]) rY (by simp [Array.setIfInBounds])
  have bY2 := bY.setCell (p := ⟨w1.heap.size, 0, none⟩) HB1.out.size (.bool false)
  obtain ⟨⟨q0, q1, q2⟩, q3, q4, q5⟩ := rY.cells
  obtain ⟨SS, KS, CS, BS, MS⟩ := state (fun w' => FR3 w' w1.heap.size (.bool false) (.string t) (.int .i64 X.e)) w (fun _ _ g hB => FR3.below g hB (FR3.lt g))
  have S0 := hid (MS.out _ rY2 bY2)
  have FT : Hid (∀ wx : World, SS wx → (wx.cell? ⟨w1.heap.size, 0, none⟩ = some (.bool false) ∧ wx.cell? ⟨w1.heap.size, 1, none⟩ = some (.string t) ∧ wx.cell? ⟨w1.heap.size, 2, none⟩ = some (.int .i64 X.e))) := fun wx h => (CS.out wx h).cells.1
  clear rY rY2 bY bY2 MS CS c0
  go_upto_region 9 with fail
  generalize wY.setCell ⟨w1.heap.size, 0, none⟩ (.bool false) = wX at *
  have T0 := hid (KS.out _ _ S0.out (drew_nil _))
  clear S0 q0 q1 q2 q3 q4 q5
  have HO2 : Hid (∀ (wx : World) (s1 s2 s3 : ByteArray), Hid (Str s2 DA.ds ∧ Str s3 DB.ds) → Calls Tryz.prog 25 #[.agg #[.bool DV.neg, .string s1, .int .i64 DV.e, .bool DA.neg, .string s2, .int .i64 DA.e, .bool DB.neg, .string s3, .int .i64 DB.e, .bool cb], .agg #[.bool false, .string t, .int .i64 X.e]] wx fun e w' => e = .returned (.bool RB0) ∧ Below wx.heap.size wx w') := fun wx s1 s2 s3 h => HO.out wx s1 s2 s3 t h.out.1 h.out.2 HT.out
  go_region_held3 (fun wx => (wx.cell? ⟨w1.heap.size, 0, none⟩ = some (.bool false) ∧ wx.cell? ⟨w1.heap.size, 1, none⟩ = some (.string t) ∧ wx.cell? ⟨w1.heap.size, 2, none⟩ = some (.int .i64 X.e))) (first | (with_reducible exact FT.out _ T2.out) | (with_reducible exact FT.out _ T1.out) | (with_reducible exact FT.out _ T0.out)) (first
    | (go_at_call 19; with_reducible refine (SP2.out _).mono ?_; rintro e w5 ⟨s1, s2, s3, rfl, HG, hB⟩; have T1 := hid (KS.out _ _ T0.out hB); clear hB)
    | (go_at_call 25; with_reducible refine (HO2.out _ _ _ _ HG).mono ?_; rintro e w6 ⟨rfl, hB⟩; have T2 := hid (KS.out _ _ T1.out hB); clear hB))
  have K := hid (BS.out _ T2.out)
  clear T0 T1 T2 FT KS BS HO HO2 SP2
  go_wp2_with fail
  go_ret2
  exact ⟨rfl, K.out⟩
end Go.Proofs.YtonnlimmjelldaaGreatDoor

namespace Go.Proofs.YtonnlimmjelldaaGreatDoor

theorem lnml_of {xs : List Int} {e : Int} (h : xs ≠ [] ∧ -1152921504606846976 ≤ e ∧ e ≤ 1152921504606846976 ∧ (∀ i, i < xs.length → 48 ≤ xs.getD i 0 ∧ xs.getD i 0 ≤ 57) ∧ ((xs = [48] ∧ e = 0) ∨ (xs ≠ [48] ∧ xs.getD 0 0 ≠ 48 ∧ xs.getD (xs.length - 1) 0 ≠ 48))) : Sc.IsDec xs e ∧ Sc.nrm false xs e = ⟨false, xs, e⟩ := by
  obtain ⟨h1, h2, h3, h4, h5⟩ := h
  have dg : ∀ x ∈ xs, Sc.dg x = true := fun x hx => by
    obtain ⟨i, hi, rfl⟩ := List.getElem_of_mem hx
    have := h4 i hi
    rw [show xs.getD i 0 = xs[i] by simp [List.getD, hi]] at this
    exact Sc.dg_iff.2 this
  rcases h5 with ⟨rfl, rfl⟩ | ⟨_, e1, e2⟩
  · decide +kernel
  · have hp : 0 < xs.length := by
      rcases Nat.eq_zero_or_pos xs.length with c | c
      · exact absurd (List.length_eq_zero_iff.1 c) h1
      · exact c
    have lz0 : Sc.lz xs = 0 := Sc.lz_is (fun i hi => by omega) e1
    have tz0 : Sc.tz xs = 0 := by
      have := Sc.tz_is (ds := xs) (k := xs.length) (Nat.le_refl _) (fun i hi hj => by omega) (fun _ => e2)
      omega
    refine ⟨⟨h1, h2, h3, dg, fun _ => by rw [tz0]; omega⟩, ?_⟩
    rw [Sc.nrm_pos (by omega), lz0, tz0]
    simp

theorem lnml_nrm {xs : List Int} {e : Int} (neg : Bool) (h : Sc.IsDec xs e) : Sc.IsDec (Sc.nrm neg xs e).ds (Sc.nrm neg xs e).e ∧ Sc.nrm false (Sc.nrm neg xs e).ds (Sc.nrm neg xs e).e = ⟨false, (Sc.nrm neg xs e).ds, (Sc.nrm neg xs e).e⟩ := by
  apply lnml_of
  obtain ⟨h1, h2, h3, h4, h5⟩ := h
  by_cases hz : Sc.lz xs = xs.length
  · rw [Sc.nrm_zero hz]
    refine ⟨by simp, by simp, by simp, ?_, .inl ⟨rfl, rfl⟩⟩
    intro i hi
    simp at hi
    subst hi
    simp
  · rw [Sc.nrm_pos hz]
    have lt := Sc.lz_tz hz
    have e5 := h5 hz
    simp only
    have len : ((xs.drop (Sc.lz xs)).take (xs.length - Sc.tz xs - Sc.lz xs)).length = xs.length - Sc.tz xs - Sc.lz xs := by rw [List.length_take, List.length_drop]; omega
    have at_ : ∀ i, i < xs.length - Sc.tz xs - Sc.lz xs → ((xs.drop (Sc.lz xs)).take (xs.length - Sc.tz xs - Sc.lz xs)).getD i 0 = Sc.pk xs (Sc.lz xs + i) := by
      intro i hi
      have := Sc.pk_take (xs.drop (Sc.lz xs)) (xs.length - Sc.tz xs - Sc.lz xs) i
      rw [if_pos hi, Sc.pk_drop] at this
      exact this
    have hd : ((xs.drop (Sc.lz xs)).take (xs.length - Sc.tz xs - Sc.lz xs)).getD 0 0 ≠ 48 := by
      rw [at_ 0 (by omega), Nat.add_zero]; exact Sc.lz_end xs
    refine ⟨?_, by omega, by omega, ?_, .inr ⟨?_, hd, ?_⟩⟩
    · intro c; rw [c] at len; simp at len; omega
    · intro i hi
      rw [len] at hi
      rw [at_ i hi]
      have hi2 : Sc.lz xs + i < xs.length := by omega
      have := h4 (xs[Sc.lz xs + i]) (List.getElem_mem hi2)
      have e : Sc.pk xs (Sc.lz xs + i) = xs[Sc.lz xs + i] := by simp [Sc.pk, List.getD, hi2]
      rw [e]
      exact Sc.dg_iff.1 this
    · intro c; rw [c] at hd; exact hd rfl
    · rw [len, at_ _ (by omega), show Sc.lz xs + (xs.length - Sc.tz xs - Sc.lz xs - 1) = xs.length - Sc.tz xs - 1 by omega]
      exact Sc.tz_end (by omega)

end Go.Proofs.YtonnlimmjelldaaGreatDoor

namespace Go.Proofs.YtonnlimmjelldaaGreatDoor
open Go Go.RowKit Go.Deep

namespace Sh
/-- What Holds tells. -/
noncomputable def hoB (neg : Bool) (xs : List Int) (e d : Int) : Bool := if Sc.IsDec xs e ∧ Ie.fnt d = true then (neg == ng d) && hD (dd (A (d % 9223372036854775808))) (dd (B (d % 9223372036854775808))) ⟨false, (Sc.nrm neg xs e).ds, (Sc.nrm neg xs e).e⟩ (decide ((d % 9223372036854775808) % 2 = 0)) else false
noncomputable def hoE (xs : List Int) (e d : Int) : Int := if Sc.IsDec xs e then (if Ie.fnt d = true then 0 else 5) else 80
theorem nrm_ds (neg : Bool) (xs : List Int) (e : Int) : (Sc.nrm neg xs e).ds = (Sc.nrm false xs e).ds ∧ (Sc.nrm neg xs e).e = (Sc.nrm false xs e).e := by
  unfold Sc.nrm
  split <;> exact ⟨rfl, rfl⟩
theorem nm_nrm {neg : Bool} {xs : List Int} {e : Int} (h : Sc.IsDec xs e) (hl : xs.length ≤ 281474976710654) : Nm ⟨false, (Sc.nrm neg xs e).ds, (Sc.nrm neg xs e).e⟩ := by
  have n := lnml_nrm neg h
  exact ⟨n.1, n.2, by have := Sc.nrm_len neg xs e; show (Sc.nrm neg xs e).ds.length ≤ _; omega⟩
end Sh

def HoTold (neg : Bool) (xs : List Int) (e d : Int) (w : World) (r : Ending) (w' : World) : Prop := r = .returned (.tuple #[.bool (Sh.hoB neg xs e d), .int .i64 (Sh.hoE xs e d)]) ∧ Below w.heap.size w w'

set_option maxRecDepth 100000 in
set_option maxHeartbeats 4000000 in
theorem zhold_any (neg : Bool) (s : ByteArray) (xs : List Int) (e d : Int) (w : World) (h0 : 0 ≤ d) (h1 : d < 18446744073709551616) (hs : Str s xs) (hl : xs.length ≤ 281474976710654) :
    Calls Tryz.prog 10 #[.agg #[.bool neg, .string s, .int .i64 e], .int .u64 d] w fun r w' => HoTold neg xs e d w r w' := by
  have FN := hid (fun wx : World => zfinite_any d wx h0 h1)
  have NG := hid (fun wx : World => znegative_any d wx h0 h1)
  have NO := hid (fun wx : World => norm_any neg s xs e wx hs (by omega))
  have ZB := hid (alloc_b w (.cells #[.bool neg, .string s, .int .i64 e] 28))
  unfold NormTold decV at NO
  by_cases hd : Sc.IsDec xs e
  · have E0 : errOf xs e = 0 ∧ nmd neg xs e = Sc.nrm neg xs e := ⟨by rw [errOf, if_pos hd], by rw [nmd, if_pos hd]⟩
    rw [E0.1, E0.2] at NO
    have hng := Sc.nrm_neg neg xs e
    by_cases hf : Ie.fnt d = true
    · have hfin : d % 9223372036854775808 < 9218868437227405312 := by rw [Sh.fnt_iff] at hf; exact of_decide_eq_true hf
      obtain ⟨a, ha⟩ : ∃ a, d % 9223372036854775808 = a := ⟨_, rfl⟩
      have a0 : 0 ≤ a := by omega
      have SP := fun wx : World => zspan_any d wx h0 h1 hfin
      have nmX := Sh.nm_nrm (neg := neg) hd hl
      have G : Hid (∀ w' r, Below w.heap.size w w' → r = ((neg == Sh.ng d) && Sh.hD (Sh.dd (Sh.A a)) (Sh.dd (Sh.B a)) ⟨false, (Sc.nrm neg xs e).ds, (Sc.nrm neg xs e).e⟩ (decide (a % 2 = 0))) → HoTold neg xs e d w (.returned (.tuple #[.bool r, .int .i64 0])) w') := by
        intro w' r hB hr
        refine ⟨?_, hB⟩
        rw [Sh.hoB, if_pos ⟨hd, hf⟩, Sh.hoE, if_pos hd, if_pos hf, hr, ha]
      rw [ha] at SP hfin
      have HO : Hid (∀ (wx : World) (s1 s2 s3 t : ByteArray), Str s2 (Sh.dd (Sh.A a)).ds → Str s3 (Sh.dd (Sh.B a)).ds → Str t (Sc.nrm neg xs e).ds → Calls Tryz.prog 25 #[spanV (Sh.dd (Sh.V a)) (Sh.dd (Sh.A a)) (Sh.dd (Sh.B a)) s1 s2 s3 (decide (a % 2 = 0)), .agg #[.bool false, .string t, .int .i64 (Sc.nrm neg xs e).e]] wx fun e' w' => e' = .returned (.bool (Sh.hD (Sh.dd (Sh.A a)) (Sh.dd (Sh.B a)) ⟨false, (Sc.nrm neg xs e).ds, (Sc.nrm neg xs e).e⟩ (decide (a % 2 = 0)))) ∧ Below wx.heap.size wx w') :=
        fun wx s1 s2 s3 t q2 q3 qt => zholds_any _ _ _ ⟨false, (Sc.nrm neg xs e).ds, (Sc.nrm neg xs e).e⟩ _ s1 s2 s3 t wx (Sh.nmA a0 hfin) (Sh.nmB a0 hfin) nmX q2 q3 qt
      have SP2 : Hid (∀ wx : World, Calls Tryz.prog 19 #[.int .u64 d] wx fun r w' => ∃ s1 s2 s3, r = .returned (spanV (Sh.dd (Sh.V a)) (Sh.dd (Sh.A a)) (Sh.dd (Sh.B a)) s1 s2 s3 (decide (a % 2 = 0))) ∧ Hid (Str s2 (Sh.dd (Sh.A a)).ds ∧ Str s3 (Sh.dd (Sh.B a)).ds) ∧ Below wx.heap.size wx w') := by
        intro wx
        refine (SP wx).mono ?_
        rintro e w' ⟨v, rfl, ⟨s1, s2, s3, hv, g1, g2, g3⟩, hB⟩
        exact ⟨s1, s2, s3, by rw [hv], ⟨g2, g3⟩, hB⟩
      rw [hf] at FN
      clear SP E0 nmX hs hl hf hfin a0 ha hd
      generalize Sc.nrm neg xs e = X at *
      generalize hRR : Sh.hD (Sh.dd (Sh.A a)) (Sh.dd (Sh.B a)) ⟨false, X.ds, X.e⟩ (decide (a % 2 = 0)) = RB0 at *
      generalize decide (a % 2 = 0) = cb at *
      generalize Sh.dd (Sh.V a) = DV at *
      generalize Sh.dd (Sh.A a) = DA at *
      generalize Sh.dd (Sh.B a) = DB at *
      generalize Sh.ng d = nd at *
      clear hRR
      unfold spanV at HO SP2
      cases neg
      · cases nd
        · go_enter Tryz.func10, Tryz.ntmps10
          go_wp2_with fail
          refine (NO.out _).mono ?_
          rintro e w1 ⟨v, rfl, ⟨t, hv, ht⟩, B1⟩
          rw [hng] at hv
          unfold decV at hv
          subst hv
          have HB1 := hid (ZB.out.trans (B1.mono ZB.out.size))
          have HT := hid ht
          clear B1 NO ht hng
          go_wp2_with fail
          refine (FN.out _).mono ?_
          rintro e wz ⟨rfl, hz⟩
          subst hz
          go_upto_region 6 with fail
          have c0 := (FR3.new w1 (.bool false) (.string t) (.int .i64 X.e)).cells.1.1
          go_quiet (with_reducible exact Calls.quiet_of_same (NG.out _))
          have G2 : Hid (∀ w', Below w.heap.size w w' → HoTold false xs e d w (.returned (.tuple #[.bool RB0, .int .i64 0])) w') := fun w' hB => G.out _ _ hB (by simp)
          have rY : FR3 ((w1.alloc (.cells #[.bool false, .string t, .int .i64 X.e] 28)).drewN nq) w1.heap.size (.bool false) (.string t) (.int .i64 X.e) := FR3.new w1 _ _ _
          have bY := below_drewN (HB1.out.trans ((alloc_b w1 (.cells #[.bool false, .string t, .int .i64 X.e] 28)).mono HB1.out.size)) nq
          generalize (w1.alloc (.cells #[.bool false, .string t, .int .i64 X.e] 28)).drewN nq = wY at *
          have rY2 : FR3 (wY.setCell ⟨w1.heap.size, 0, none⟩ (.bool false)) w1.heap.size (.bool false) (.string t) (.int .i64 X.e) := fset1 (o := 0) (v := .bool false) (c' := #[.bool false, .string t, .int .i64 X.e]) rY (by simp [Array.setIfInBounds])
          have bY2 := bY.setCell (p := ⟨w1.heap.size, 0, none⟩) HB1.out.size (.bool false)
          obtain ⟨⟨q0, q1, q2⟩, q3, q4, q5⟩ := rY.cells
          obtain ⟨SS, KS, CS, BS, MS⟩ := state (fun w' => FR3 w' w1.heap.size (.bool false) (.string t) (.int .i64 X.e)) w (fun _ _ g hB => FR3.below g hB (FR3.lt g))
          have S0 := hid (MS.out _ rY2 bY2)
          have FT : Hid (∀ wx : World, SS wx → (wx.cell? ⟨w1.heap.size, 0, none⟩ = some (.bool false) ∧ wx.cell? ⟨w1.heap.size, 1, none⟩ = some (.string t) ∧ wx.cell? ⟨w1.heap.size, 2, none⟩ = some (.int .i64 X.e))) := fun wx h => (CS.out wx h).cells.1
          clear rY rY2 bY bY2 MS CS c0
          go_upto_region 9 with fail
          generalize wY.setCell ⟨w1.heap.size, 0, none⟩ (.bool false) = wX at *
          have T0 := hid (KS.out _ _ S0.out (drew_nil _))
          clear S0 q0 q1 q2 q3 q4 q5
          have HO2 : Hid (∀ (wx : World) (s1 s2 s3 : ByteArray), Hid (Str s2 DA.ds ∧ Str s3 DB.ds) → Calls Tryz.prog 25 #[.agg #[.bool DV.neg, .string s1, .int .i64 DV.e, .bool DA.neg, .string s2, .int .i64 DA.e, .bool DB.neg, .string s3, .int .i64 DB.e, .bool cb], .agg #[.bool false, .string t, .int .i64 X.e]] wx fun e w' => e = .returned (.bool RB0) ∧ Below wx.heap.size wx w') := fun wx s1 s2 s3 h => HO.out wx s1 s2 s3 t h.out.1 h.out.2 HT.out
          go_region_held3 (fun wx => (wx.cell? ⟨w1.heap.size, 0, none⟩ = some (.bool false) ∧ wx.cell? ⟨w1.heap.size, 1, none⟩ = some (.string t) ∧ wx.cell? ⟨w1.heap.size, 2, none⟩ = some (.int .i64 X.e))) (first | (with_reducible exact FT.out _ T2.out) | (with_reducible exact FT.out _ T1.out) | (with_reducible exact FT.out _ T0.out)) (first
            | (go_at_call 19; with_reducible refine (SP2.out _).mono ?_; rintro e w5 ⟨s1, s2, s3, rfl, HG, hB⟩; have T1 := hid (KS.out _ _ T0.out hB); clear hB)
            | (go_at_call 25; with_reducible refine (HO2.out _ _ _ _ HG).mono ?_; rintro e w6 ⟨rfl, hB⟩; have T2 := hid (KS.out _ _ T1.out hB); clear hB))
          have K := hid (BS.out _ T2.out)
          clear T0 T1 T2 FT KS BS HO HO2 SP2
          go_wp2_with fail
          go_ret2
          exact G2.out _ K.out
        · go_enter Tryz.func10, Tryz.ntmps10
          go_wp2_with fail
          refine (NO.out _).mono ?_
          rintro e w1 ⟨v, rfl, ⟨t, hv, ht⟩, B1⟩
          rw [hng] at hv
          unfold decV at hv
          subst hv
          have HB1 := hid (ZB.out.trans (B1.mono ZB.out.size))
          have HT := hid ht
          clear B1 NO ht hng
          go_wp2_with fail
          refine (FN.out _).mono ?_
          rintro e wz ⟨rfl, hz⟩
          subst hz
          go_upto_region 6 with fail
          have c0 := (FR3.new w1 (.bool false) (.string t) (.int .i64 X.e)).cells.1.1
          go_quiet (with_reducible exact Calls.quiet_of_same (NG.out _))
          have K := hid (G.out _ false (below_drewN (HB1.out.trans ((alloc_b w1 (.cells #[.bool false, .string t, .int .i64 X.e] 28)).mono HB1.out.size)) nq) (by simp))
          clear G HO SP2 HB1 HT c0
          go_wp2_with fail
          go_ret2
          exact K.out
      · cases nd
        · go_enter Tryz.func10, Tryz.ntmps10
          go_wp2_with fail
          refine (NO.out _).mono ?_
          rintro e w1 ⟨v, rfl, ⟨t, hv, ht⟩, B1⟩
          rw [hng] at hv
          unfold decV at hv
          subst hv
          have HB1 := hid (ZB.out.trans (B1.mono ZB.out.size))
          have HT := hid ht
          clear B1 NO ht hng
          go_wp2_with fail
          refine (FN.out _).mono ?_
          rintro e wz ⟨rfl, hz⟩
          subst hz
          go_upto_region 6 with fail
          have c0 := (FR3.new w1 (.bool true) (.string t) (.int .i64 X.e)).cells.1.1
          go_quiet (with_reducible exact Calls.quiet_of_same (NG.out _))
          have K := hid (G.out _ false (below_drewN (HB1.out.trans ((alloc_b w1 (.cells #[.bool true, .string t, .int .i64 X.e] 28)).mono HB1.out.size)) nq) (by simp))
          clear G HO SP2 HB1 HT c0
          go_wp2_with fail
          go_ret2
          exact K.out
        · go_enter Tryz.func10, Tryz.ntmps10
          go_wp2_with fail
          refine (NO.out _).mono ?_
          rintro e w1 ⟨v, rfl, ⟨t, hv, ht⟩, B1⟩
          rw [hng] at hv
          unfold decV at hv
          subst hv
          have HB1 := hid (ZB.out.trans (B1.mono ZB.out.size))
          have HT := hid ht
          clear B1 NO ht hng
          go_wp2_with fail
          refine (FN.out _).mono ?_
          rintro e wz ⟨rfl, hz⟩
          subst hz
          go_upto_region 6 with fail
          have c0 := (FR3.new w1 (.bool true) (.string t) (.int .i64 X.e)).cells.1.1
          go_quiet (with_reducible exact Calls.quiet_of_same (NG.out _))
          have G2 : Hid (∀ w', Below w.heap.size w w' → HoTold true xs e d w (.returned (.tuple #[.bool RB0, .int .i64 0])) w') := fun w' hB => G.out _ _ hB (by simp)
          have rY : FR3 ((w1.alloc (.cells #[.bool true, .string t, .int .i64 X.e] 28)).drewN nq) w1.heap.size (.bool true) (.string t) (.int .i64 X.e) := FR3.new w1 _ _ _
          have bY := below_drewN (HB1.out.trans ((alloc_b w1 (.cells #[.bool true, .string t, .int .i64 X.e] 28)).mono HB1.out.size)) nq
          generalize (w1.alloc (.cells #[.bool true, .string t, .int .i64 X.e] 28)).drewN nq = wY at *
          have rY2 : FR3 (wY.setCell ⟨w1.heap.size, 0, none⟩ (.bool false)) w1.heap.size (.bool false) (.string t) (.int .i64 X.e) := fset1 (o := 0) (v := .bool false) (c' := #[.bool false, .string t, .int .i64 X.e]) rY (by simp [Array.setIfInBounds])
          have bY2 := bY.setCell (p := ⟨w1.heap.size, 0, none⟩) HB1.out.size (.bool false)
          obtain ⟨⟨q0, q1, q2⟩, q3, q4, q5⟩ := rY.cells
          obtain ⟨SS, KS, CS, BS, MS⟩ := state (fun w' => FR3 w' w1.heap.size (.bool false) (.string t) (.int .i64 X.e)) w (fun _ _ g hB => FR3.below g hB (FR3.lt g))
          have S0 := hid (MS.out _ rY2 bY2)
          have FT : Hid (∀ wx : World, SS wx → (wx.cell? ⟨w1.heap.size, 0, none⟩ = some (.bool false) ∧ wx.cell? ⟨w1.heap.size, 1, none⟩ = some (.string t) ∧ wx.cell? ⟨w1.heap.size, 2, none⟩ = some (.int .i64 X.e))) := fun wx h => (CS.out wx h).cells.1
          clear rY rY2 bY bY2 MS CS c0
          go_upto_region 9 with fail
          generalize wY.setCell ⟨w1.heap.size, 0, none⟩ (.bool false) = wX at *
          have T0 := hid (KS.out _ _ S0.out (drew_nil _))
          clear S0 q0 q1 q2 q3 q4 q5
          have HO2 : Hid (∀ (wx : World) (s1 s2 s3 : ByteArray), Hid (Str s2 DA.ds ∧ Str s3 DB.ds) → Calls Tryz.prog 25 #[.agg #[.bool DV.neg, .string s1, .int .i64 DV.e, .bool DA.neg, .string s2, .int .i64 DA.e, .bool DB.neg, .string s3, .int .i64 DB.e, .bool cb], .agg #[.bool false, .string t, .int .i64 X.e]] wx fun e w' => e = .returned (.bool RB0) ∧ Below wx.heap.size wx w') := fun wx s1 s2 s3 h => HO.out wx s1 s2 s3 t h.out.1 h.out.2 HT.out
          go_region_held3 (fun wx => (wx.cell? ⟨w1.heap.size, 0, none⟩ = some (.bool false) ∧ wx.cell? ⟨w1.heap.size, 1, none⟩ = some (.string t) ∧ wx.cell? ⟨w1.heap.size, 2, none⟩ = some (.int .i64 X.e))) (first | (with_reducible exact FT.out _ T2.out) | (with_reducible exact FT.out _ T1.out) | (with_reducible exact FT.out _ T0.out)) (first
            | (go_at_call 19; with_reducible refine (SP2.out _).mono ?_; rintro e w5 ⟨s1, s2, s3, rfl, HG, hB⟩; have T1 := hid (KS.out _ _ T0.out hB); clear hB)
            | (go_at_call 25; with_reducible refine (HO2.out _ _ _ _ HG).mono ?_; rintro e w6 ⟨rfl, hB⟩; have T2 := hid (KS.out _ _ T1.out hB); clear hB))
          have K := hid (BS.out _ T2.out)
          clear T0 T1 T2 FT KS BS HO HO2 SP2
          go_wp2_with fail
          go_ret2
          exact G2.out _ K.out
    · have hf' : Ie.fnt d = false := by simpa using hf
      have G : Hid (∀ w', Below w.heap.size w w' → HoTold neg xs e d w (.returned (.tuple #[.bool false, .int .i64 5])) w') := fun w' hB => ⟨by rw [Sh.hoB, if_neg (fun h => hf h.2), Sh.hoE, if_pos hd, if_neg hf], hB⟩
      rw [hf'] at FN
      clear E0 hd hs hl hf hf'
      generalize Sc.nrm neg xs e = X at *
      go_enter Tryz.func10, Tryz.ntmps10
      go_wp2_with fail
      refine (NO.out _).mono ?_
      rintro e w1 ⟨v, rfl, ⟨t, hv, ht⟩, B1⟩
      rw [hng] at hv
      unfold decV at hv
      subst hv
      have K := hid (G.out _ ((ZB.out.trans (B1.mono ZB.out.size)).trans ((alloc_b w1 (.cells #[.bool neg, .string t, .int .i64 X.e] 28)).mono (ZB.out.trans (B1.mono ZB.out.size)).size)))
      clear B1 NO ht G
      go_wp2_with fail
      refine (FN.out _).mono ?_
      rintro e wz ⟨rfl, hz⟩
      subst hz
      go_wp2_with fail
      go_ret2
      exact K.out
  · have E0 : errOf xs e = 80 := by rw [errOf, if_neg hd]
    have G : Hid (∀ w', Below w.heap.size w w' → HoTold neg xs e d w (.returned (.tuple #[.bool false, .int .i64 80])) w') := fun w' hB => ⟨by rw [Sh.hoB, if_neg (fun h => hd h.1), Sh.hoE, if_neg hd], hB⟩
    rw [E0] at NO
    clear E0 hd hs hl
    generalize nmd neg xs e = X at *
    go_enter Tryz.func10, Tryz.ntmps10
    go_wp2_with fail
    refine (NO.out _).mono ?_
    rintro e w1 ⟨v, rfl, ⟨t, hv, ht⟩, B1⟩
    unfold decV at hv
    subst hv
    have K := hid (G.out _ ((ZB.out.trans (B1.mono ZB.out.size)).trans ((alloc_b w1 (.cells #[.bool X.neg, .string t, .int .i64 X.e] 28)).mono (ZB.out.trans (B1.mono ZB.out.size)).size)))
    clear B1 NO ht G
    go_wp2_with fail
    go_ret2
    exact K.out
end Go.Proofs.YtonnlimmjelldaaGreatDoor

namespace Go.Proofs.YtonnlimmjelldaaGreatDoor
open Go Go.RowKit Go.Deep

def LS1 (w wx : World) (v0 v1 v2 : Value) : Prop := Below w.heap.size w wx ∧ Row3 wx w.heap.size v0 v1 v2
theorem LS1.new (w : World) (v0 v1 v2 : Value) : LS1 w (w.alloc (.cells #[v0, v1, v2] 28)) v0 v1 v2 := ⟨alloc_b _ _, heap_alloc_new _ _⟩
theorem LS1.on {w wx w' : World} {v0 v1 v2 : Value} (h : LS1 w wx v0 v1 v2) (k : Below wx.heap.size wx w') : LS1 w w' v0 v1 v2 := ⟨below_on h.1 k, h.2.below k h.2.lt⟩

set_option maxRecDepth 100000 in
set_option maxHeartbeats 2000000 in
theorem normal_any (neg : Bool) (s : ByteArray) (xs : List Int) (e : Int) (w : World) (hs : Str s xs) (hn : xs.length ≤ 281474976710656) (e0 : -4611686018427387904 ≤ e) (e1 : e ≤ 4611686018427387904) :
    Calls Tryz.prog 69 #[.bool neg, .string s, .int .i64 e] w fun r w' => ∃ v, r = .returned v ∧ DecIs v (Sc.nrm neg xs e) ∧ Below w.heap.size w w' := by
  have HS := hid hs
  have HN := hid hn
  have hsz := hs.size
  have D := hid (LS1.new w (.bool false) (.string ⟨#[]⟩) (.int .i64 0))
  have hnb : (xs.length : Int) ≤ 281474976710656 := by omega
  clear hs hn
  go_enter Tryz.func69, Tryz.ntmps69
  go_wp2_with fail
  go_loop [7] (fun c => ∃ j : Nat, c = .int .i64 j ∧ Hid (j ≤ Sc.lz xs)) (fun c => match c with | .int _ j => xs.length - j.toNat | _ => 0)
  case atStart => exact ⟨0, rfl, Nat.zero_le _⟩
  case round =>
    obtain ⟨j, rfl, I⟩ := hrel
    have hjl : j ≤ xs.length := by have := I.out; have := Sc.lz_le xs; omega
    have hjb : (j : Int) ≤ 281474976710656 := by have := HN.out; omega
    have hx := HS.out.pk j
    by_cases hj : j < Sc.lz xs
    · have hji : (j : Int) < (xs.length : Int) := by have := Sc.lz_le xs; omega
      have h48 := Sc.lz_at hj
      rw [h48] at hx
      clear h48
      replace hj := hid hj
      go_wp2_with fail
      go_round
      case rel => exact ⟨j + 1, by go_num, by have := hj.out; show _ ≤ _; omega⟩
      case measure => simp; omega
    · have hje : j = Sc.lz xs := by have := I.out; omega
      have hne := Sc.lz_end xs
      rw [← hje] at hne
      by_cases hl : j = xs.length
      · have F : Hid (Sc.nrm neg xs e = ⟨neg, [48], 0⟩) := Sc.nrm_zero (by omega)
        have hji : ¬ (j : Int) < (xs.length : Int) := by omega
        have hjq : ((j : Int) == (xs.length : Int)) = true := by simp; omega
        have hjq2 : (j : Int) = (xs.length : Int) := by omega
        clear hje hne I hx hj
        go_wp2_with fail
        (try simp only [Exit.inBlock, Exit.then])
        refine bodyPost_ret (results_cell_row rfl _ _ w.heap.size 28 _ (0, 0) _ rfl (LS1.new w _ _ _).2 Tryz.underlying28 rfl (by kernel_rfl)) rfl ?_
        exact dec_ret (by rw [F.out]; exact ⟨_, rfl, str_zero⟩) (LS1.new w _ _ _).1
      · have hji : (j : Int) < (xs.length : Int) := by omega
        have hjq : ((j : Int) == (xs.length : Int)) = false := by rw [beq_eq_false_iff_ne]; omega
        have hd2 : (Sc.pk xs j == 48) = false := by rw [beq_eq_false_iff_ne]; exact hne
        have LT := hid (Sc.lz_tz (ds := xs) (by omega))
        have NP : Hid (Sc.nrm neg xs e = ⟨neg, (xs.drop j).take (xs.length - Sc.tz xs - j), e + Sc.tz xs⟩) := by
          show _ = _
          rw [Sc.nrm_pos (by omega), ← hje]
        have HJ := hid hje
        have hjne : ¬ (j : Int) = (xs.length : Int) := by omega
        clear hje hne I hj
        generalize Sc.pk xs j = xj at *
        go_wp2_with fail
        go_loop [8] (fun c => ∃ k : Nat, c = .int .i64 k ∧ Hid (k ≤ xs.length ∧ xs.length - Sc.tz xs ≤ k)) (fun c => match c with | .int _ j => j.toNat | _ => 0)
        case atStart => exact ⟨xs.length, rfl, Nat.le_refl _, by omega⟩
        case round =>
          obtain ⟨k, rfl, I⟩ := hrel
          have hk0 : 0 < k := by have := I.out.2; have := LT.out; omega
          obtain ⟨k', hk'⟩ : ∃ k', k = k' + 1 := ⟨k - 1, by omega⟩
          have hkk : (k : Int) - 1 = (k' : Int) := by omega
          have hkl : (k' : Int) < (xs.length : Int) := by have := I.out.1; omega
          have hkb : (k : Int) ≤ 281474976710656 := by have := I.out.1; have := HN.out; omega
          have hk2 : Hid (k = k' + 1) := hk'
          have hx2 := HS.out.pk k'
          by_cases ht : xs.length - Sc.tz xs < k
          · have h48 := Sc.tz_at (ds := xs) (i := k') (by omega) (by have := I.out.1; omega)
            rw [h48] at hx2
            have I2 : Hid (k' ≤ xs.length ∧ xs.length - Sc.tz xs ≤ k') := ⟨by have := I.out.1; omega, by omega⟩
            clear h48 hk' ht I hk0
            go_wp2_with fail
            go_round
            case rel => exact ⟨k', rfl, I2.out⟩
            case measure => have := hk2.out; simp; omega
          · have hke : k = xs.length - Sc.tz xs := by have := I.out.2; omega
            have hne := Sc.tz_end (ds := xs) (by have := LT.out; omega)
            rw [show xs.length - Sc.tz xs - 1 = k' by omega] at hne
            have hd3 : (Sc.pk xs k' == 48) = false := by rw [beq_eq_false_iff_ne]; exact hne
            have q1 : (j : Int) ≤ (k : Int) := by have := LT.out; have := HJ.out; omega
            have q2 : (k : Int) ≤ (xs.length : Int) := by omega
            have F : Hid (DecIs (.agg #[.bool neg, .string (s.extract j k), .int .i64 (e + (xs.length : Int) - (k : Int))]) (Sc.nrm neg xs e)) := by
              show DecIs _ _
              rw [NP.out]
              have h1 := HS.out.extract j k
              rw [hke] at h1 ⊢
              have tl := Sc.tz_le xs
              refine ⟨s.extract j (xs.length - Sc.tz xs), ?_, h1⟩
              show _ = decV _ _ _
              unfold decV
              congr 2
              have : e + (xs.length : Int) - ((xs.length - Sc.tz xs : Nat) : Int) = e + (Sc.tz xs : Int) := by omega
              rw [this]
            clear hke hne I ht hk' NP hk0
            generalize Sc.pk xs k' = xk at *
            go_wp2_with fail
            (try simp only [Exit.inBlock, Exit.then])
            refine bodyPost_ret (results_cell_row rfl _ _ w.heap.size 28 _ (0, 0) _ rfl (LS1.new w _ _ _).2 Tryz.underlying28 rfl (by kernel_rfl)) rfl ?_
            exact dec_ret F.out (LS1.new w _ _ _).1

set_option maxRecDepth 100000 in
set_option maxHeartbeats 2000000 in
theorem risdec_any (neg : Bool) (s : ByteArray) (xs : List Int) (e : Int) (w : World) (hs : Str s xs) (hn : xs.length ≤ 281474976710656) :
    Calls Tryz.prog 68 #[decV neg s e] w fun r w' => r = .returned (.bool (decide (Sc.IsDec xs e))) ∧ Below w.heap.size w w' := by
  have Z := hid (LS1.new w (.bool neg) (.string s) (.int .i64 e))
  have ZF : Hid (¬ Sc.IsDec xs e → ∀ w', Below w.heap.size w w' → Ending.returned (.bool false) = .returned (.bool (decide (Sc.IsDec xs e))) ∧ Below w.heap.size w w') := fun z w' b => ⟨by rw [decide_eq_false z], b⟩
  have hsz := hs.size
  by_cases h1 : xs = []
  · have Z2 := hid (ZF.out fun c => c.1 h1)
    have hs0 : s = ⟨#[]⟩ := hs.inj (by rw [h1]; rfl)
    subst hs0
    clear hs h1 ZF hn hsz
    unfold decV
    go_enter Tryz.func68, Tryz.ntmps68
    go_wp2_with fail
    go_ret
    exact Z2.out _ Z.out.1
  · have hpos : 0 < xs.length := by
      rcases Nat.eq_zero_or_pos xs.length with c | c
      · exact absurd (List.length_eq_zero_iff.1 c) h1
      · exact c
    have hp1 : ((xs.length : Int) == 0) = false := by rw [beq_eq_false_iff_ne]; omega
    by_cases h2 : -1152921504606846976 ≤ e ∧ e ≤ 1152921504606846976
    · obtain ⟨e0, e1⟩ := h2
      have T := hid (fun wx => normal_any neg s xs e wx hs hn (by omega) (by omega))
      have ID : Hid ((∀ i, i < xs.length → Sc.dg (Sc.pk xs i) = true) → (Sc.IsDec xs e ↔ (Sc.nrm neg xs e).e ≤ 1152921504606846976)) := isdec_n h1 e0 e1
      have IN : Hid (∀ j, j < xs.length → Sc.dg (Sc.pk xs j) = false → ¬ Sc.IsDec xs e) := fun j hj hd c => by
        have := c.2.2.2.1 (Sc.pk xs j) (by simp [Sc.pk, List.getD, hj])
        rw [hd] at this; exact absurd this (by simp)
      have HS := hid hs
      have HN := hid hn
      clear hs hn h1
      unfold decV
      go_enter Tryz.func68, Tryz.ntmps68
      go_wp2_with fail
      go_loop [3] (fun c => ∃ j : Nat, c = .int .i64 j ∧ Hid (j ≤ xs.length ∧ ∀ i, i < j → Sc.dg (Sc.pk xs i) = true)) (fun c => match c with | .int _ j => xs.length - j.toNat | _ => 0)
      case atStart => exact ⟨0, rfl, Nat.zero_le _, fun i hi => by omega⟩
      case round =>
        obtain ⟨j, rfl, I⟩ := hrel
        have hjb : (j : Int) ≤ 281474976710656 := by have := I.out.1; have := HN.out; omega
        by_cases hj : j < xs.length
        · have hji : (j : Int) < (xs.length : Int) := by omega
          have hx := HS.out.pk j
          cases hd : Sc.dg (Sc.pk xs j) with
          | true =>
            have hd2 := Sc.dg_iff.1 hd
            have I2 : Hid (j + 1 ≤ xs.length ∧ ∀ i, i < j + 1 → Sc.dg (Sc.pk xs i) = true) := ⟨by omega, fun i hi => by
              by_cases c : i = j
              · subst c; exact hd
              · exact I.out.2 i (by omega)⟩
            clear hd I
            generalize Sc.pk xs j = x at *
            go_wp2_with fail
            go_round
            case rel => exact ⟨j + 1, by go_num, I2.out⟩
            case measure => simp; omega
          | false =>
            have hd2 := Sc.dg_not.1 hd
            have Z2 := hid (ZF.out (IN.out j hj hd))
            have hd3 : Sc.pk xs j < 48 ∨ (48 ≤ Sc.pk xs j ∧ 57 < Sc.pk xs j) := by omega
            clear hd hd2
            generalize Sc.pk xs j = x at *
            rcases hd3 with hd3 | ⟨hd3, hd4⟩
            all_goals (go_wp2_with fail; go_ret; exact Z2.out _ Z.out.1)
        · have hji : ¬ (j : Int) < (xs.length : Int) := by omega
          have ID2 := hid (ID.out fun i hi => I.out.2 i (by omega))
          clear I ID IN
          go_wp2_with fail
          refine (T.out _).mono ?_
          rintro r w1 ⟨v, rfl, ⟨t, hv, ht⟩, hB⟩
          unfold decV at hv
          subst hv
          have B2 := hid (below_on (below_on Z.out.1 hB) (alloc_b w1 (.cells #[.bool (Sc.nrm neg xs e).neg, .string t, .int .i64 (Sc.nrm neg xs e).e] 28)))
          clear hB ht T
          have FF : Hid (∀ b : Bool, b = decide ((Sc.nrm neg xs e).e ≤ 1152921504606846976) → ∀ w', Below w.heap.size w w' → Ending.returned (.bool b) = .returned (.bool (decide (Sc.IsDec xs e))) ∧ Below w.heap.size w w') := fun b hb w' bb => ⟨by rw [hb, show decide ((Sc.nrm neg xs e).e ≤ 1152921504606846976) = decide (Sc.IsDec xs e) from decide_eq_decide.2 ID2.out.symm], bb⟩
          clear ID2
          generalize Sc.nrm neg xs e = N at *
          go_wp2_with fail
          go_ret
          exact FF.out _ rfl _ B2.out
    · have Z2 := hid (ZF.out fun c => h2 ⟨c.2.1, c.2.2.1⟩)
      rcases (show e < -1152921504606846976 ∨ (-1152921504606846976 ≤ e ∧ 1152921504606846976 < e) by omega) with he | ⟨he0, he⟩
      all_goals
        clear hs hn h1 ZF h2
        unfold decV
        go_enter Tryz.func68, Tryz.ntmps68
        go_wp2_with fail
        go_ret
        exact Z2.out _ Z.out.1

end Go.Proofs.YtonnlimmjelldaaGreatDoor
