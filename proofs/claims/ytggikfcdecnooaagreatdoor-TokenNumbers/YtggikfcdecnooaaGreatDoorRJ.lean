/-
  Texts put together: TnH, TnI, TnJ, FTab, LTab.
-/
import Derived.Test.YtggikfcdecnooaaGreatDoorRI
import Derived.Test.YtggikfcdecnooaaGreatDoorRD
import Derived.Lib.LaidTab
import Derived.Test.YtggikfcdecnooaaGreatDoorRH
namespace Go.Proofs.YtggikfcdecnooaaGreatDoor
open Go Go.RowKit Go.Deep

theorem Str.two {s : ByteArray} {xs : List Int} (h : Str s xs) (n : Nat) (hn : n ≤ s.size) : Str (s.extract 0 n) (xs.take n) ∧ Str (s.extract n s.size) (xs.drop n) ∧ (s.extract 0 n).size = n ∧ (s.extract n s.size).size = s.size - n := by
  have a := Str.extract h 0 n
  have b := Str.extract h n s.size
  rw [List.drop_zero, Nat.sub_zero] at a
  rw [List.take_of_length_le (by rw [List.length_drop, h.size]; omega)] at b
  refine ⟨a, b, ?_, ?_⟩
  · rw [a.size, List.length_take, ← h.size]; omega
  · rw [b.size, List.length_drop, ← h.size]

set_option maxRecDepth 100000 in
set_option maxHeartbeats 8000000 in
theorem zlaid_any (s : ByteArray) (xs : List Int) (p : Int) (w : World) (hS : Str s xs) (h1 : 1 ≤ s.size) (h2 : s.size ≤ 1000) (p0 : -5000 ≤ p) (p1 : p ≤ 5000) (ht : Tab10 w) :
    Calls Tryz.prog 11 #[.string s, .int .i64 p] w fun e w' => TxTold (Tn.lay xs p) w e w' := by
  have HL := hS.size
  have hsi : (s.size : Int) ≤ 1000 := by omega
  have hs1 : (1 : Int) ≤ (s.size : Int) := by omega
  by_cases c1 : 0 < p ∧ p ≤ 21
  · obtain ⟨c1a, c1b⟩ := c1
    by_cases c2 : (s.size : Int) ≤ p
    · have E : Hid (Tn.lay xs p = xs ++ List.replicate (p - (s.size : Int)).toNat 48) := by show _ = _; rw [Tn.lay, if_pos ⟨c1a, c1b⟩, HL, if_pos (by omega)]
      have ZR := hid (zzeros_any (p - (s.size : Int)).toNat w (by omega))
      rw [show (((p - (s.size : Int)).toNat : Nat) : Int) = p - (s.size : Int) by omega] at ZR
      have zl : (p - (s.size : Int)).toNat ≤ 21 := by omega
      have HS := hid hS
      clear hS HL ht
      generalize (p - (s.size : Int)).toNat = k at *
      go_enter Tryz.func11, Tryz.ntmps11
      go_wp2_with fail
      refine ZR.out.mono ?_
      rintro e w1 ⟨t, rfl, ht, hB⟩
      have tz : t.size ≤ 1000 := by rw [ht.out.size, List.length_replicate]; omega
      have G : Hid (TxTold (Tn.lay xs p) w (.returned (.string (s ++ t))) w1) := ⟨_, rfl, by rw [E.out]; exact HS.out.tcat ht.out, hB⟩
      clear ht hB ZR
      go_wp2_with fail
      go_ret
      exact G.out
    · have E : Hid (Tn.lay xs p = xs.take p.toNat ++ ([46] ++ xs.drop p.toNat)) := by show _ = _; rw [Tn.lay, if_pos ⟨c1a, c1b⟩, if_neg (by rw [← HL]; exact c2)]
      obtain ⟨q, hq⟩ : ∃ q : Nat, p = (q : Int) := ⟨p.toNat, by omega⟩
      subst hq
      have qs : q ≤ s.size := by omega
      obtain ⟨S1, S2, z1, z2⟩ := hS.two q qs
      rw [show ((q : Int)).toNat = q by omega] at E
      have F : Hid (∀ w' : World, Below w.heap.size w w' → TxTold (Tn.lay xs (q : Int)) w (.returned (.string ((s.extract 0 q ++ ⟨#[46]⟩) ++ s.extract q s.size))) w') := fun w' hb => ⟨_, rfl, by rw [E.out, ← List.append_assoc]; exact (S1.tcat (b := ⟨#[46]⟩) (ys := [46]) rfl).tcat S2, hb⟩
      have qi : (q : Int) ≤ (s.size : Int) := by omega
      have y1 : (s.extract 0 q).size ≤ 1000 := by omega
      have y2 : (s.extract q s.size).size ≤ 1000 := by omega
      have y3 : (s.extract 0 q ++ ⟨#[46]⟩ : ByteArray).size ≤ 1001 := by rw [ByteArray.size_append]; show (s.extract 0 q).size + 1 ≤ 1001; omega
      clear S1 S2 z1 z2 hS HL ht
      go_enter Tryz.func11, Tryz.ntmps11
      go_wp2_with fail
      go_quiet (fail)
      go_wp2_with fail
      go_ret
      exact F.out _ (below_drewN (Below.refl _ _) _)
  · by_cases c3 : -6 < p ∧ p ≤ 0
    · obtain ⟨c3a, c3b⟩ := c3
      have E : Hid (Tn.lay xs p = [48, 46] ++ (List.replicate (-p).toNat 48 ++ xs)) := by show _ = _; rw [Tn.lay, if_neg c1, if_pos ⟨c3a, c3b⟩]
      have ZR := hid (zzeros_any (-p).toNat w (by omega))
      rw [show (((-p).toNat : Nat) : Int) = -p by omega] at ZR
      have zl : (-p).toNat ≤ 21 := by omega
      have c1a : ¬ 0 < p := by omega
      have HS := hid hS
      clear hS HL ht c1
      generalize (-p).toNat = k at *
      go_enter Tryz.func11, Tryz.ntmps11
      go_wp2_with fail
      refine ZR.out.mono ?_
      rintro e w1 ⟨t, rfl, ht, hB⟩
      have tz : t.size ≤ 1000 := by rw [ht.out.size, List.length_replicate]; omega
      have tz2 : (⟨#[48, 46]⟩ ++ t : ByteArray).size ≤ 1002 := by rw [ByteArray.size_append]; show 2 + t.size ≤ 1002; omega
      have G : Hid (TxTold (Tn.lay xs p) w (.returned (.string ((⟨#[48, 46]⟩ ++ t) ++ s))) w1) := ⟨_, rfl, by rw [E.out, ← List.append_assoc]; exact (Str.tcat (a := ⟨#[48, 46]⟩) (xs := [48, 46]) rfl ht.out).tcat HS.out, hB⟩
      clear ht hB ZR
      go_wp2_with fail
      go_ret
      exact G.out

    · have E : Hid (Tn.lay xs p = xs.take 1 ++ ((if 1 < s.size then [46] ++ xs.drop 1 else []) ++ Tn.pw (p - 1))) := by show _ = _; rw [Tn.lay, if_neg c1, if_neg c3, HL]
      have PW := hid (zpower_any (p - 1) w (by omega) (by omega) ht)
      obtain ⟨S1, S2, z1, z2⟩ := hS.two 1 h1
      have y1 : (s.extract 0 1).size ≤ 1000 := by omega
      have y2 : (s.extract 1 s.size).size ≤ 1000 := by omega
      have HS1 := hid S1
      have HS2 := hid S2
      clear hS HL ht S1 S2 z1 z2
      by_cases g : 1 < s.size
      · have gi : (1 : Int) < (s.size : Int) := by omega
        rw [if_pos g] at E
        have y3 : (s.extract 0 1 ++ (⟨#[46]⟩ ++ s.extract 1 s.size) : ByteArray).size ≤ 3000 := by rw [ByteArray.size_append, ByteArray.size_append]; show (s.extract 0 1).size + (1 + (s.extract 1 s.size).size) ≤ 3000; omega
        have y4 : (⟨#[46]⟩ ++ s.extract 1 s.size : ByteArray).size ≤ 3000 := by rw [ByteArray.size_append]; show 1 + (s.extract 1 s.size).size ≤ 3000; omega
        have c5 : ¬ (0 < p ∧ p ≤ 21) ∧ ¬ (-6 < p ∧ p ≤ 0) := ⟨c1, c3⟩
        have F : Hid (∀ (t : ByteArray) (w1 : World), Str t (Tn.pw (p - 1)) → Below w.heap.size w w1 → TxTold (Tn.lay xs p) w (.returned (.string ((s.extract 0 1 ++ (⟨#[46]⟩ ++ s.extract 1 s.size)) ++ t))) w1) := fun t w1 h hb => ⟨_, rfl, by rw [E.out, ← List.append_assoc]; exact (HS1.out.tcat (Str.tcat (a := ⟨#[46]⟩) (xs := [46]) rfl HS2.out)).tcat h, hb⟩
        have PL : Hid (∀ (t : ByteArray), Str t (Tn.pw (p - 1)) → t.size ≤ 1000) := fun t h => by rw [h.size]; exact Tn.pw_len (by omega) (by omega)
        by_cases k0 : 0 < p
        · have k1 : ¬ p ≤ 21 := by omega
          have k2 : ¬ p ≤ 0 := by omega
          have k3 : (-6 : Int) < p := by omega
          clear c1 c3
          go_enter Tryz.func11, Tryz.ntmps11
          go_wp2_with fail
          refine PW.out.mono ?_
          rintro e w1 ⟨t, rfl, ht, hB⟩
          have G := hid (F.out t w1 ht.out hB)
          have tz := PL.out t ht.out
          clear ht hB PW F PL
          go_wp2_with fail
          go_ret
          exact G.out
        · have k1 : ¬ (-6 : Int) < p := by omega
          clear c1 c3
          go_enter Tryz.func11, Tryz.ntmps11
          go_wp2_with fail
          refine PW.out.mono ?_
          rintro e w1 ⟨t, rfl, ht, hB⟩
          have G := hid (F.out t w1 ht.out hB)
          have tz := PL.out t ht.out
          clear ht hB PW F PL
          go_wp2_with fail
          go_ret
          exact G.out
      · have gi : ¬ (1 : Int) < (s.size : Int) := by omega
        rw [if_neg g, List.nil_append] at E
        have F : Hid (∀ (t : ByteArray) (w1 : World), Str t (Tn.pw (p - 1)) → Below w.heap.size w w1 → TxTold (Tn.lay xs p) w (.returned (.string (s.extract 0 1 ++ t))) w1) := fun t w1 h hb => ⟨_, rfl, by rw [E.out]; exact HS1.out.tcat h, hb⟩
        have PL : Hid (∀ (t : ByteArray), Str t (Tn.pw (p - 1)) → t.size ≤ 1000) := fun t h => by rw [h.size]; exact Tn.pw_len (by omega) (by omega)
        by_cases k0 : 0 < p
        · have k1 : ¬ p ≤ 21 := by omega
          have k2 : ¬ p ≤ 0 := by omega
          have k3 : (-6 : Int) < p := by omega
          clear c1 c3
          go_enter Tryz.func11, Tryz.ntmps11
          go_wp2_with fail
          refine PW.out.mono ?_
          rintro e w1 ⟨t, rfl, ht, hB⟩
          have G := hid (F.out t w1 ht.out hB)
          have tz := PL.out t ht.out
          clear ht hB PW F PL
          go_wp2_with fail
          go_ret
          exact G.out
        · have k1 : ¬ (-6 : Int) < p := by omega
          clear c1 c3
          go_enter Tryz.func11, Tryz.ntmps11
          go_wp2_with fail
          refine PW.out.mono ?_
          rintro e w1 ⟨t, rfl, ht, hB⟩
          have G := hid (F.out t w1 ht.out hB)
          have tz := PL.out t ht.out
          clear ht hB PW F PL
          go_wp2_with fail
          go_ret
          exact G.out
set_option maxRecDepth 100000 in
set_option maxHeartbeats 8000000 in
theorem xlayout_any (s : ByteArray) (xs : List Int) (p : Int) (w : World) (hS : Str s xs) (h1 : 1 ≤ s.size) (h2 : s.size ≤ 1000) (p0 : -5000 ≤ p) (p1 : p ≤ 5000) (ht : Tab10 w) :
    Calls Tryz.prog 14 #[.string s, .int .i64 p] w fun e w' => TxTold (Tn.lay xs p) w e w' := by
  have HL := hS.size
  have hsi : (s.size : Int) ≤ 1000 := by omega
  have hs1 : (1 : Int) ≤ (s.size : Int) := by omega
  by_cases c1 : 0 < p ∧ p ≤ 21
  · obtain ⟨c1a, c1b⟩ := c1
    by_cases c2 : (s.size : Int) ≤ p
    · have E : Hid (Tn.lay xs p = xs ++ List.replicate (p - (s.size : Int)).toNat 48) := by show _ = _; rw [Tn.lay, if_pos ⟨c1a, c1b⟩, HL, if_pos (by omega)]
      have ZR := hid (xzer_any (p - (s.size : Int)).toNat w (by omega))
      rw [show (((p - (s.size : Int)).toNat : Nat) : Int) = p - (s.size : Int) by omega] at ZR
      have zl : (p - (s.size : Int)).toNat ≤ 21 := by omega
      have HS := hid hS
      clear hS HL ht
      generalize (p - (s.size : Int)).toNat = k at *
      go_enter Tryz.func14, Tryz.ntmps14
      go_wp2_with fail
      refine ZR.out.mono ?_
      rintro e w1 ⟨t, rfl, ht, hB⟩
      have tz : t.size ≤ 1000 := by rw [ht.out.size, List.length_replicate]; omega
      have G : Hid (TxTold (Tn.lay xs p) w (.returned (.string (s ++ t))) w1) := ⟨_, rfl, by rw [E.out]; exact HS.out.tcat ht.out, hB⟩
      clear ht hB ZR
      go_wp2_with fail
      go_ret
      exact G.out
    · have E : Hid (Tn.lay xs p = xs.take p.toNat ++ ([46] ++ xs.drop p.toNat)) := by show _ = _; rw [Tn.lay, if_pos ⟨c1a, c1b⟩, if_neg (by rw [← HL]; exact c2)]
      obtain ⟨q, hq⟩ : ∃ q : Nat, p = (q : Int) := ⟨p.toNat, by omega⟩
      subst hq
      have qs : q ≤ s.size := by omega
      obtain ⟨S1, S2, z1, z2⟩ := hS.two q qs
      rw [show ((q : Int)).toNat = q by omega] at E
      have F : Hid (∀ w' : World, Below w.heap.size w w' → TxTold (Tn.lay xs (q : Int)) w (.returned (.string ((s.extract 0 q ++ ⟨#[46]⟩) ++ s.extract q s.size))) w') := fun w' hb => ⟨_, rfl, by rw [E.out, ← List.append_assoc]; exact (S1.tcat (b := ⟨#[46]⟩) (ys := [46]) rfl).tcat S2, hb⟩
      have qi : (q : Int) ≤ (s.size : Int) := by omega
      have y1 : (s.extract 0 q).size ≤ 1000 := by omega
      have y2 : (s.extract q s.size).size ≤ 1000 := by omega
      have y3 : (s.extract 0 q ++ ⟨#[46]⟩ : ByteArray).size ≤ 1001 := by rw [ByteArray.size_append]; show (s.extract 0 q).size + 1 ≤ 1001; omega
      clear S1 S2 z1 z2 hS HL ht
      go_enter Tryz.func14, Tryz.ntmps14
      go_wp2_with fail
      go_quiet (fail)
      go_wp2_with fail
      go_ret
      exact F.out _ (below_drewN (Below.refl _ _) _)
  · by_cases c3 : -6 < p ∧ p ≤ 0
    · obtain ⟨c3a, c3b⟩ := c3
      have E : Hid (Tn.lay xs p = [48, 46] ++ (List.replicate (-p).toNat 48 ++ xs)) := by show _ = _; rw [Tn.lay, if_neg c1, if_pos ⟨c3a, c3b⟩]
      have ZR := hid (xzer_any (-p).toNat w (by omega))
      rw [show (((-p).toNat : Nat) : Int) = -p by omega] at ZR
      have zl : (-p).toNat ≤ 21 := by omega
      have c1a : ¬ 0 < p := by omega
      have HS := hid hS
      clear hS HL ht c1
      generalize (-p).toNat = k at *
      go_enter Tryz.func14, Tryz.ntmps14
      go_wp2_with fail
      refine ZR.out.mono ?_
      rintro e w1 ⟨t, rfl, ht, hB⟩
      have tz : t.size ≤ 1000 := by rw [ht.out.size, List.length_replicate]; omega
      have tz2 : (⟨#[48, 46]⟩ ++ t : ByteArray).size ≤ 1002 := by rw [ByteArray.size_append]; show 2 + t.size ≤ 1002; omega
      have G : Hid (TxTold (Tn.lay xs p) w (.returned (.string ((⟨#[48, 46]⟩ ++ t) ++ s))) w1) := ⟨_, rfl, by rw [E.out, ← List.append_assoc]; exact (Str.tcat (a := ⟨#[48, 46]⟩) (xs := [48, 46]) rfl ht.out).tcat HS.out, hB⟩
      clear ht hB ZR
      go_wp2_with fail
      go_ret
      exact G.out

    · have E : Hid (Tn.lay xs p = xs.take 1 ++ ((if 1 < s.size then [46] ++ xs.drop 1 else []) ++ Tn.pw (p - 1))) := by show _ = _; rw [Tn.lay, if_neg c1, if_neg c3, HL]
      obtain ⟨S1, S2, z1, z2⟩ := hS.two 1 h1
      have y1 : (s.extract 0 1).size ≤ 1000 := by omega
      have y2 : (s.extract 1 s.size).size ≤ 1000 := by omega
      have HS1 := hid S1
      have HS2 := hid S2
      have TB := hid ht
      clear hS HL S1 S2 z1 z2 ht
      by_cases g : 1 < s.size
      · have gi : (1 : Int) < (s.size : Int) := by omega
        obtain ⟨T, hTT, hTs, hTz⟩ : ∃ T : ByteArray, T = (s.extract 0 1 ++ ⟨#[46]⟩) ++ s.extract 1 s.size ∧ Str T (xs.take 1 ++ ([46] ++ xs.drop 1)) ∧ T.size ≤ 3000 := ⟨_, rfl, by rw [← List.append_assoc]; exact (HS1.out.tcat (b := ⟨#[46]⟩) (ys := [46]) rfl).tcat HS2.out, by rw [ByteArray.size_append, ByteArray.size_append]; show (s.extract 0 1).size + 1 + (s.extract 1 s.size).size ≤ 3000; omega⟩
        have HTS := hid hTs
        rw [if_pos g] at E
        clear hTs
        have y3 : (s.extract 0 1 ++ ⟨#[46]⟩ : ByteArray).size ≤ 1001 := by rw [ByteArray.size_append]; show (s.extract 0 1).size + 1 ≤ 1001; omega
        by_cases k0 : 0 < p
        · have k1 : ¬ p ≤ 21 := by omega
          have k2 : ¬ p ≤ 0 := by omega
          have k3 : (-6 : Int) < p := by omega
          have k4 : ¬ p - 1 < 0 := by omega
          have k5 : ¬ p - 1 < 10 := by omega
          have I := hid (itoa_any (p - 1) w (by omega) (by omega) TB.out)
          have hq := Tn.itl_len (x := p - 1) (by omega) (by omega)
          have EP : Hid (Tn.pw (p - 1) = [101, 43] ++ Tn.itl (p - 1)) := by show _ = _; rw [Tn.pw, if_neg k4, if_neg k4, if_neg k5, List.nil_append]
          have ST := hid (Tn.itl_str (p - 1))
          generalize (⟨(Lib.itoa (p - 1)).toArray⟩ : ByteArray) = it at *
          have F : Hid (∀ w' : World, Below w.heap.size w w' → TxTold (Tn.lay xs p) w (.returned (.string (((T ++ ⟨#[101]⟩) ++ ⟨#[43]⟩) ++ it))) w') := fun w' hb => ⟨_, rfl, by
            show Str _ _
            rw [E.out, EP.out]
            exact by have z := ((HTS.out.tcat (b := ⟨#[101]⟩) (ys := [101]) rfl).tcat (b := ⟨#[43]⟩) (ys := [43]) rfl).tcat ST.out; simpa [List.append_assoc] using z, hb⟩
          have v1 : (T ++ ⟨#[101]⟩ : ByteArray).size ≤ 3001 := by rw [ByteArray.size_append]; show T.size + 1 ≤ 3001; omega
          have v2 : ((T ++ ⟨#[101]⟩) ++ ⟨#[43]⟩ : ByteArray).size ≤ 3002 := by rw [ByteArray.size_append]; show (T ++ ⟨#[101]⟩ : ByteArray).size + 1 ≤ 3002; omega
          clear c1 c3 E EP
          rw [hTT] at F v1 v2 hTz
          go_enter Tryz.func14, Tryz.ntmps14
          go_wp2_with fail
          refine I.out.mono ?_
          rintro e w1 ⟨rfl, hB⟩
          have G := hid (F.out w1 hB)
          clear hB F I
          go_wp2_with fail
          go_ret
          exact G.out
        · have k1 : ¬ (-6 : Int) < p := by omega
          have k4 : p - 1 < 0 := by omega
          have I := hid (itoa_any (-(p - 1)) w (by omega) (by omega) TB.out)
          have hq := Tn.itl_len (x := -(p - 1)) (by omega) (by omega)
          have ST := hid (Tn.itl_str (-(p - 1)))
          have EP : Hid (Tn.pw (p - 1) = [101, 45] ++ ((if -(p - 1) < 10 then [48] else []) ++ Tn.itl (-(p - 1)))) := by show _ = _; rw [Tn.pw, if_pos k4, if_pos k4]
          generalize (⟨(Lib.itoa (-(p - 1))).toArray⟩ : ByteArray) = it at *
          by_cases k5 : -(p - 1) < 10
          · rw [if_pos k5] at EP
            have F : Hid (∀ w' : World, Below w.heap.size w w' → TxTold (Tn.lay xs p) w (.returned (.string ((((T ++ ⟨#[101]⟩) ++ ⟨#[45]⟩) ++ ⟨#[48]⟩) ++ it))) w') := fun w' hb => ⟨_, rfl, by
              show Str _ _
              rw [E.out, EP.out]
              have z := (((HTS.out.tcat (b := ⟨#[101]⟩) (ys := [101]) rfl).tcat (b := ⟨#[45]⟩) (ys := [45]) rfl).tcat (b := ⟨#[48]⟩) (ys := [48]) rfl).tcat ST.out
              simpa [List.append_assoc] using z, hb⟩
            have v1 : (T ++ ⟨#[101]⟩ : ByteArray).size ≤ 3001 := by rw [ByteArray.size_append]; show T.size + 1 ≤ 3001; omega
            have v2 : ((T ++ ⟨#[101]⟩) ++ ⟨#[45]⟩ : ByteArray).size ≤ 3002 := by rw [ByteArray.size_append]; show (T ++ ⟨#[101]⟩ : ByteArray).size + 1 ≤ 3002; omega
            have v3 : (((T ++ ⟨#[101]⟩) ++ ⟨#[45]⟩) ++ ⟨#[48]⟩ : ByteArray).size ≤ 3003 := by rw [ByteArray.size_append]; show ((T ++ ⟨#[101]⟩) ++ ⟨#[45]⟩ : ByteArray).size + 1 ≤ 3003; omega
            clear c1 c3 E EP
            rw [hTT] at F v1 v2 v3 hTz
            go_enter Tryz.func14, Tryz.ntmps14
            go_wp2_with fail
            refine I.out.mono ?_
            rintro e w1 ⟨rfl, hB⟩
            have G := hid (F.out w1 hB)
            clear hB F I
            go_wp2_with fail
            go_ret
            exact G.out
          · rw [if_neg k5, List.nil_append] at EP
            have F : Hid (∀ w' : World, Below w.heap.size w w' → TxTold (Tn.lay xs p) w (.returned (.string (((T ++ ⟨#[101]⟩) ++ ⟨#[45]⟩) ++ it))) w') := fun w' hb => ⟨_, rfl, by
              show Str _ _
              rw [E.out, EP.out]
              have z := ((HTS.out.tcat (b := ⟨#[101]⟩) (ys := [101]) rfl).tcat (b := ⟨#[45]⟩) (ys := [45]) rfl).tcat ST.out
              simpa [List.append_assoc] using z, hb⟩
            have v1 : (T ++ ⟨#[101]⟩ : ByteArray).size ≤ 3001 := by rw [ByteArray.size_append]; show T.size + 1 ≤ 3001; omega
            have v2 : ((T ++ ⟨#[101]⟩) ++ ⟨#[45]⟩ : ByteArray).size ≤ 3002 := by rw [ByteArray.size_append]; show (T ++ ⟨#[101]⟩ : ByteArray).size + 1 ≤ 3002; omega
            clear c1 c3 E EP
            rw [hTT] at F v1 v2 hTz
            go_enter Tryz.func14, Tryz.ntmps14
            go_wp2_with fail
            refine I.out.mono ?_
            rintro e w1 ⟨rfl, hB⟩
            have G := hid (F.out w1 hB)
            clear hB F I
            go_wp2_with fail
            go_ret
            exact G.out
      · have gi : ¬ (1 : Int) < (s.size : Int) := by omega
        obtain ⟨T, hTT, hTs, hTz⟩ : ∃ T : ByteArray, T = s.extract 0 1 ∧ Str T (xs.take 1) ∧ T.size ≤ 3000 := ⟨_, rfl, HS1.out, by omega⟩
        have HTS := hid hTs
        rw [if_neg g, List.nil_append] at E
        clear hTs
        by_cases k0 : 0 < p
        · have k1 : ¬ p ≤ 21 := by omega
          have k2 : ¬ p ≤ 0 := by omega
          have k3 : (-6 : Int) < p := by omega
          have k4 : ¬ p - 1 < 0 := by omega
          have k5 : ¬ p - 1 < 10 := by omega
          have I := hid (itoa_any (p - 1) w (by omega) (by omega) TB.out)
          have hq := Tn.itl_len (x := p - 1) (by omega) (by omega)
          have EP : Hid (Tn.pw (p - 1) = [101, 43] ++ Tn.itl (p - 1)) := by show _ = _; rw [Tn.pw, if_neg k4, if_neg k4, if_neg k5, List.nil_append]
          have ST := hid (Tn.itl_str (p - 1))
          generalize (⟨(Lib.itoa (p - 1)).toArray⟩ : ByteArray) = it at *
          have F : Hid (∀ w' : World, Below w.heap.size w w' → TxTold (Tn.lay xs p) w (.returned (.string (((T ++ ⟨#[101]⟩) ++ ⟨#[43]⟩) ++ it))) w') := fun w' hb => ⟨_, rfl, by
            show Str _ _
            rw [E.out, EP.out]
            exact by have z := ((HTS.out.tcat (b := ⟨#[101]⟩) (ys := [101]) rfl).tcat (b := ⟨#[43]⟩) (ys := [43]) rfl).tcat ST.out; simpa [List.append_assoc] using z, hb⟩
          have v1 : (T ++ ⟨#[101]⟩ : ByteArray).size ≤ 3001 := by rw [ByteArray.size_append]; show T.size + 1 ≤ 3001; omega
          have v2 : ((T ++ ⟨#[101]⟩) ++ ⟨#[43]⟩ : ByteArray).size ≤ 3002 := by rw [ByteArray.size_append]; show (T ++ ⟨#[101]⟩ : ByteArray).size + 1 ≤ 3002; omega
          clear c1 c3 E EP
          rw [hTT] at F v1 v2 hTz
          go_enter Tryz.func14, Tryz.ntmps14
          go_wp2_with fail
          refine I.out.mono ?_
          rintro e w1 ⟨rfl, hB⟩
          have G := hid (F.out w1 hB)
          clear hB F I
          go_wp2_with fail
          go_ret
          exact G.out
        · have k1 : ¬ (-6 : Int) < p := by omega
          have k4 : p - 1 < 0 := by omega
          have I := hid (itoa_any (-(p - 1)) w (by omega) (by omega) TB.out)
          have hq := Tn.itl_len (x := -(p - 1)) (by omega) (by omega)
          have ST := hid (Tn.itl_str (-(p - 1)))
          have EP : Hid (Tn.pw (p - 1) = [101, 45] ++ ((if -(p - 1) < 10 then [48] else []) ++ Tn.itl (-(p - 1)))) := by show _ = _; rw [Tn.pw, if_pos k4, if_pos k4]
          generalize (⟨(Lib.itoa (-(p - 1))).toArray⟩ : ByteArray) = it at *
          by_cases k5 : -(p - 1) < 10
          · rw [if_pos k5] at EP
            have F : Hid (∀ w' : World, Below w.heap.size w w' → TxTold (Tn.lay xs p) w (.returned (.string ((((T ++ ⟨#[101]⟩) ++ ⟨#[45]⟩) ++ ⟨#[48]⟩) ++ it))) w') := fun w' hb => ⟨_, rfl, by
              show Str _ _
              rw [E.out, EP.out]
              have z := (((HTS.out.tcat (b := ⟨#[101]⟩) (ys := [101]) rfl).tcat (b := ⟨#[45]⟩) (ys := [45]) rfl).tcat (b := ⟨#[48]⟩) (ys := [48]) rfl).tcat ST.out
              simpa [List.append_assoc] using z, hb⟩
            have v1 : (T ++ ⟨#[101]⟩ : ByteArray).size ≤ 3001 := by rw [ByteArray.size_append]; show T.size + 1 ≤ 3001; omega
            have v2 : ((T ++ ⟨#[101]⟩) ++ ⟨#[45]⟩ : ByteArray).size ≤ 3002 := by rw [ByteArray.size_append]; show (T ++ ⟨#[101]⟩ : ByteArray).size + 1 ≤ 3002; omega
            have v3 : (((T ++ ⟨#[101]⟩) ++ ⟨#[45]⟩) ++ ⟨#[48]⟩ : ByteArray).size ≤ 3003 := by rw [ByteArray.size_append]; show ((T ++ ⟨#[101]⟩) ++ ⟨#[45]⟩ : ByteArray).size + 1 ≤ 3003; omega
            clear c1 c3 E EP
            rw [hTT] at F v1 v2 v3 hTz
            go_enter Tryz.func14, Tryz.ntmps14
            go_wp2_with fail
            refine I.out.mono ?_
            rintro e w1 ⟨rfl, hB⟩
            have G := hid (F.out w1 hB)
            clear hB F I
            go_wp2_with fail
            go_ret
            exact G.out
          · rw [if_neg k5, List.nil_append] at EP
            have F : Hid (∀ w' : World, Below w.heap.size w w' → TxTold (Tn.lay xs p) w (.returned (.string (((T ++ ⟨#[101]⟩) ++ ⟨#[45]⟩) ++ it))) w') := fun w' hb => ⟨_, rfl, by
              show Str _ _
              rw [E.out, EP.out]
              have z := ((HTS.out.tcat (b := ⟨#[101]⟩) (ys := [101]) rfl).tcat (b := ⟨#[45]⟩) (ys := [45]) rfl).tcat ST.out
              simpa [List.append_assoc] using z, hb⟩
            have v1 : (T ++ ⟨#[101]⟩ : ByteArray).size ≤ 3001 := by rw [ByteArray.size_append]; show T.size + 1 ≤ 3001; omega
            have v2 : ((T ++ ⟨#[101]⟩) ++ ⟨#[45]⟩ : ByteArray).size ≤ 3002 := by rw [ByteArray.size_append]; show (T ++ ⟨#[101]⟩ : ByteArray).size + 1 ≤ 3002; omega
            clear c1 c3 E EP
            rw [hTT] at F v1 v2 hTz
            go_enter Tryz.func14, Tryz.ntmps14
            go_wp2_with fail
            refine I.out.mono ?_
            rintro e w1 ⟨rfl, hB⟩
            have G := hid (F.out w1 hB)
            clear hB F I
            go_wp2_with fail
            go_ret
            exact G.out
end Go.Proofs.YtggikfcdecnooaaGreatDoor

namespace Go.Proofs.YtggikfcdecnooaaGreatDoor
open Go Go.RowKit Go.Deep

namespace Tn
open Sh
theorem room {a : Int} (h0 : 0 < a) (h1 : a < 9218868437227405312) : 1 ≤ (dd (Sh.dgt a)).ds.length ∧ (dd (Sh.dgt a)).ds.length ≤ 17 ∧ -400 ≤ (dd (Sh.dgt a)).e ∧ (dd (Sh.dgt a)).e ≤ 400 := by
  have w := wn_dgt (Int.le_of_lt h0)
  have n := n0_le a
  obtain ⟨r1, r2, r3, r4⟩ := wn_room h0 (by omega) w
  obtain ⟨v1, v2⟩ := V_place h0 h1
  obtain ⟨k, hk⟩ := r1.len
  omega
theorem lay_len {xs : List Int} {p : Int} (hx : xs.length ≤ 17) (h0 : -1000 ≤ p) (h1 : p ≤ 1000) : (lay xs p).length ≤ 2000 := by
  have q := pw_len (p := p - 1) (by omega) (by omega)
  unfold lay
  split
  · split
    · rw [List.length_append, List.length_replicate]; omega
    · rw [List.length_append, List.length_append, List.length_take, List.length_drop, List.length_singleton]; omega
  · split
    · rw [List.length_append, List.length_append, List.length_replicate]
      have : ([48, 46] : List Int).length = 2 := rfl
      omega
    · rw [List.length_append, List.length_append, List.length_take]
      have : (if 1 < xs.length then [46] ++ xs.drop 1 else [] : List Int).length ≤ 18 := by
        split
        · rw [List.length_append, List.length_drop, List.length_singleton]; omega
        · simp
      omega
/-- A number's text. -/
noncomputable def txt (a : Int) : List Int := if a = 0 then [48] else lay (dd (Sh.dgt a)).ds ((dd (Sh.dgt a)).e + ((dd (Sh.dgt a)).ds.length : Int))
end Tn
set_option maxRecDepth 100000 in
set_option maxHeartbeats 2000000 in
theorem xcls_any (d : Int) (w : World) (h0 : 0 ≤ d) (h1 : d < 18446744073709551616) :
    Calls Tryz.prog 12 #[.int .u64 d] w fun e w' => e = .returned (.int .i64 (Ie.cls d)) ∧ Below w.heap.size w w' := by
  have D := hid (zdecode_any d w h0 h1)
  generalize decide (9223372036854775808 ≤ d) = neg at D
  generalize Ie.cls d = c at *
  generalize Ie.dm d = m at D
  generalize Ie.de d = x at D
  simp only [partsOf] at D
  go_enter Tryz.func12, Tryz.ntmps12
  go_wp2_with fail
  refine D.out.mono ?_
  rintro e w1 ⟨rfl, hB⟩
  have HB := hid hB
  clear hB D
  go_wp2_with fail
  go_ret
  exact ⟨rfl, Below.alloc HB.out HB.out.size _⟩

set_option maxRecDepth 100000 in
set_option maxHeartbeats 4000000 in
theorem ztext_any (a : Int) (w : World) (h0 : 0 ≤ a) (h1 : a < 9218868437227405312) (ht : Tab10 w) :
    Calls Tryz.prog 6 #[.int .u64 a] w fun e w' => TxTold (Tn.txt a) w e w' := by
  have NG := hid (fun wx : World => znegative_any a wx h0 (by omega))
  have CL := hid (fun wx : World => class_any a wx h0 (by omega))
  rw [show Sh.ng a = false from decide_eq_false (by omega)] at NG
  have hm : a % 9223372036854775808 = a := by omega
  by_cases hz : a = 0
  · have F : Hid (TxTold (Tn.txt a) w (.returned (.string ⟨#[48]⟩)) w) := ⟨_, rfl, by rw [Tn.txt, if_pos hz]; rfl, Below.refl _ _⟩
    rw [show Ie.cls a = 0 by rw [hz]; decide] at CL
    clear ht h0 h1 hm hz
    go_enter Tryz.func6, Tryz.ntmps6
    go_wp2_with fail
    refine (NG.out _).mono ?_
    rintro e w1 ⟨rfl, hw⟩
    rw [hw]
    clear hw
    go_wp2_with fail
    refine (CL.out _).mono ?_
    rintro e w1 ⟨rfl, hw⟩
    rw [hw]
    clear hw
    go_wp2_with fail
    go_ret
    exact F.out
  · have hp : 0 < a := by omega
    obtain ⟨l1, l2, e1, e2⟩ := Tn.room hp h1
    have hc : Ie.cls a = 1 ∨ Ie.cls a = 2 := by
      rcases Ie.dec_kinds a a hm with c | c | c | c | c
      · omega
      · exact .inl c.1
      · exact .inr c.1
      · omega
      · omega
    have ET : Hid (Tn.txt a = Tn.lay (Sh.dd (Sh.dgt a)).ds ((Sh.dd (Sh.dgt a)).e + ((Sh.dd (Sh.dgt a)).ds.length : Int))) := by show _ = _; rw [Tn.txt, if_neg hz]
    have DG := hid (zdig_any a w h0 (by omega) ht)
    have ez : Sh.zD a = ⟨Sh.ng a, (Sh.dd (Sh.dgt a)).ds, (Sh.dd (Sh.dgt a)).e⟩ := by rw [Sh.zD, if_pos (by rw [Sh.fnt_iff, hm]; exact decide_eq_true h1), hm]
    unfold DigTold at DG
    rw [ez] at DG
    generalize Sh.dd (Sh.dgt a) = DD at *
    generalize Sh.ng a = sg at *
    generalize Sh.zR a = zr at *
    have TB := hid ht
    clear ht h0 h1 hm hz hp ez
    have k4 : (Ie.cls a == 4) = false := beq_eq_false_iff_ne.2 (by omega)
    have k3 : (Ie.cls a == 3) = false := beq_eq_false_iff_ne.2 (by omega)
    have k0 : (Ie.cls a == 0) = false := beq_eq_false_iff_ne.2 (by omega)
    clear hc
    generalize Ie.cls a = c at *
    go_enter Tryz.func6, Tryz.ntmps6
    go_wp2_with fail
    refine (NG.out _).mono ?_
    rintro e w1 ⟨rfl, hw⟩
    rw [hw]
    clear hw
    go_wp2_with fail
    refine (CL.out _).mono ?_
    rintro e w1 ⟨rfl, hw⟩
    rw [hw]
    clear hw
    go_wp2_with fail
    refine DG.out.mono ?_
    rintro e w2 ⟨t, rfl, ht, b2⟩
    have sz : t.size = DD.ds.length := ht.out.size
    have b3 := alloc_b w2 (.cells #[.bool sg, .string t, .int .i64 DD.e] 29)
    have B3 := hid (b2.trans (b3.mono b2.size))
    have T3 := hid (tab10_below TB.out B3.out)
    have LY := hid (zlaid_any t DD.ds (DD.e + (DD.ds.length : Int)) _ ht.out (by omega) (by omega) (by omega) (by omega) T3.out)
    have q1 : (t.size : Int) ≤ 17 := by omega
    have q2 : Hid ((t.size : Int) + DD.e = DD.e + (DD.ds.length : Int)) := by show _ = _; omega
    clear b2 b3 DG NG CL TB ht sz
    go_wp2_with fail
    rw [q2.out]
    with_reducible refine LY.out.mono ?_
    rintro e w4 ⟨u, rfl, hu, b4⟩
    have uz : u.size ≤ 2000 := by rw [hu.out.size]; exact Tn.lay_len l2 (by omega) (by omega)
    have G : Hid (TxTold (Tn.txt a) w (.returned (.string (⟨#[]⟩ ++ u))) w4) := ⟨_, rfl, by rw [ET.out]; exact Str.tcat (a := ⟨#[]⟩) (xs := []) rfl hu.out, below_on B3.out b4⟩
    clear hu b4 LY
    go_wp2_with fail
    go_ret
    exact G.out
set_option maxRecDepth 100000 in
set_option maxHeartbeats 4000000 in
theorem xtext_any (a : Int) (w : World) (h0 : 0 ≤ a) (h1 : a < 9218868437227405312) (ht : Tab10 w) :
    Calls Tryz.prog 7 #[.int .u64 a] w fun e w' => TxTold (Tn.txt a) w e w' := by
  have CL := hid (fun wx : World => xcls_any a wx h0 (by omega))
  have ns : ¬ (9223372036854775808 : Int) ≤ a := by omega
  have hm : a % 9223372036854775808 = a := by omega
  by_cases hz : a = 0
  · have F : Hid (∀ w' : World, Below w.heap.size w w' → TxTold (Tn.txt a) w (.returned (.string ⟨#[48]⟩)) w') := fun w' hb => ⟨_, rfl, by rw [Tn.txt, if_pos hz]; rfl, hb⟩
    rw [show Ie.cls a = 0 by rw [hz]; decide] at CL
    clear ht h0 h1 hm hz
    go_enter Tryz.func7, Tryz.ntmps7
    go_wp2_with fail
    refine (CL.out _).mono ?_
    rintro e w1 ⟨rfl, hB⟩
    have G := hid (F.out w1 hB)
    clear hB F CL
    go_wp2_with fail
    go_ret
    exact G.out
  · have hp : 0 < a := by omega
    obtain ⟨l1, l2, e1, e2⟩ := Tn.room hp h1
    have hc : Ie.cls a = 1 ∨ Ie.cls a = 2 := by
      rcases Ie.dec_kinds a a hm with c | c | c | c | c
      · omega
      · exact .inl c.1
      · exact .inr c.1
      · omega
      · omega
    have ET : Hid (Tn.txt a = Tn.lay (Sh.dd (Sh.dgt a)).ds ((Sh.dd (Sh.dgt a)).e + ((Sh.dd (Sh.dgt a)).ds.length : Int))) := by show _ = _; rw [Tn.txt, if_neg hz]
    have DG := hid (fun wx : World => xdig_any a a wx h0 (by omega) hm h1)
    have ez : Sh.zD a = ⟨Sh.ng a, (Sh.dd (Sh.dgt a)).ds, (Sh.dd (Sh.dgt a)).e⟩ := by rw [Sh.zD, if_pos (by rw [Sh.fnt_iff, hm]; exact decide_eq_true h1), hm]
    unfold DigTold at DG
    rw [ez] at DG
    generalize Sh.dd (Sh.dgt a) = DD at *
    generalize Sh.ng a = sg at *
    generalize Sh.zR a = zr at *
    have TB := hid ht
    clear ht h0 h1 hm hz hp ez
    have k4 : (Ie.cls a == 4) = false := beq_eq_false_iff_ne.2 (by omega)
    have k3 : (Ie.cls a == 3) = false := beq_eq_false_iff_ne.2 (by omega)
    have k0 : (Ie.cls a == 0) = false := beq_eq_false_iff_ne.2 (by omega)
    clear hc
    generalize Ie.cls a = c at *
    go_enter Tryz.func7, Tryz.ntmps7
    go_wp2_with fail
    refine (CL.out _).mono ?_
    rintro e w1 ⟨rfl, hB⟩
    have B1 := hid hB
    clear hB
    go_wp2_with fail
    refine (DG.out w1).mono ?_
    rintro e w2 ⟨t, rfl, ht, b2'⟩
    have b2 := B1.out.trans (b2'.mono B1.out.size)
    clear b2' B1
    have sz : t.size = DD.ds.length := ht.out.size
    have b3 := alloc_b w2 (.cells #[.bool sg, .string t, .int .i64 DD.e] 29)
    have B3 := hid (b2.trans (b3.mono b2.size))
    have T3 := hid (tab10_below TB.out B3.out)
    have LY := hid (xlayout_any t DD.ds (DD.e + (DD.ds.length : Int)) _ ht.out (by omega) (by omega) (by omega) (by omega) T3.out)
    have q1 : (t.size : Int) ≤ 17 := by omega
    have q2 : Hid (DD.e + (t.size : Int) = DD.e + (DD.ds.length : Int)) := by show _ = _; omega
    clear b2 b3 DG CL TB ht sz
    go_wp2_with fail
    rw [q2.out]
    with_reducible refine LY.out.mono ?_
    rintro e w4 ⟨u, rfl, hu, b4⟩
    have uz : u.size ≤ 2000 := by rw [hu.out.size]; exact Tn.lay_len l2 (by omega) (by omega)
    have G : Hid (TxTold (Tn.txt a) w (.returned (.string (⟨#[]⟩ ++ u))) w4) := ⟨_, rfl, by rw [ET.out]; exact Str.tcat (a := ⟨#[]⟩) (xs := []) rfl hu.out, below_on B3.out b4⟩
    clear hu b4 LY
    go_wp2_with fail
    go_ret
    exact G.out
end Go.Proofs.YtggikfcdecnooaaGreatDoor

namespace Go.Proofs.YtggikfcdecnooaaGreatDoor
open Go Go.RowKit Go.Deep

namespace Tn
open Sh
theorem dd1 : dd (V 4607182418800017408) = ⟨false, [49], 0⟩ := dd_eq (ok_of _ _ (by decide +kernel) (by decide +kernel) (by decide +kernel) (by decide +kernel) (by decide)) (by decide +kernel)
theorem wn1 : wn 4607182418800017408 1 = some (V 4607182418800017408) := wn_all dd1 (by decide +kernel)
theorem n1 : n0 4607182418800017408 = 0 := (isn_of (by decide) (by decide) (fun h => absurd h (by decide)) (fun _ => by rw [show 0 + 1 = 1 from rfl, wn1]; rfl)).symm
theorem dgt1 : Sh.dgt 4607182418800017408 = V 4607182418800017408 := by rw [Sh.dgt, n1, show 0 + 1 = 1 from rfl, wn1]; rfl
theorem txt1 : txt 4607182418800017408 = [49] := by
  rw [txt, if_neg (by decide), dgt1, dd1]
  decide
end Tn
def NuTold (d : Int) (w : World) (e : Ending) (w' : World) : Prop :=
  if d < 9218868437227405312 then ∃ t, e = .returned (.tuple #[.string t, .bool true]) ∧ Hid (Str t (Tn.txt d)) ∧ Below w.heap.size w w' else e = .returned (.tuple #[.string ⟨#[]⟩, .bool false]) ∧ Below w.heap.size w w'
set_option maxRecDepth 100000 in
theorem tnum_any (d : Int) (w : World) (h0 : 0 ≤ d) (ht : Tab10 w) :
    Calls Tryz.prog 4 #[.int .u64 d] w fun e w' => NuTold d w e w' := by
  by_cases hd : d < 9218868437227405312
  · have T := hid (ztext_any d w h0 hd ht)
    have hn : ¬ (9218868437227405312 : Int) ≤ d := by omega
    have HD := hid hd
    clear ht hd
    go_enter Tryz.func4, Tryz.ntmps4
    go_wp2_with fail
    refine T.out.mono ?_
    rintro e w1 ⟨t, rfl, hs, hB⟩
    have G : Hid (NuTold d w (.returned (.tuple #[.string t, .bool true])) w1) := by
      show NuTold _ _ _ _
      rw [NuTold, if_pos HD.out]
      exact ⟨t, rfl, hs, hB⟩
    clear hs hB T
    go_wp2_with fail
    go_ret2
    exact G.out
  · have hn : (9218868437227405312 : Int) ≤ d := by omega
    have G : Hid (NuTold d w (.returned (.tuple #[.string ⟨#[]⟩, .bool false])) w) := by
      show NuTold _ _ _ _
      rw [NuTold, if_neg hd]
      exact ⟨rfl, Below.refl _ _⟩
    clear ht hd
    go_enter Tryz.func4, Tryz.ntmps4
    go_wp2_with fail
    go_ret2
    exact G.out
set_option maxRecDepth 100000 in
theorem rnum_any (d : Int) (w : World) (h0 : 0 ≤ d) (ht : Tab10 w) :
    Calls Tryz.prog 5 #[.int .u64 d] w fun e w' => NuTold d w e w' := by
  by_cases hd : d < 9218868437227405312
  · have T := hid (xtext_any d w h0 hd ht)
    have hn : ¬ (9218868437227405312 : Int) ≤ d := by omega
    have HD := hid hd
    clear ht hd
    go_enter Tryz.func5, Tryz.ntmps5
    go_wp2_with fail
    refine T.out.mono ?_
    rintro e w1 ⟨t, rfl, hs, hB⟩
    have G : Hid (NuTold d w (.returned (.tuple #[.string t, .bool true])) w1) := by
      show NuTold _ _ _ _
      rw [NuTold, if_pos HD.out]
      exact ⟨t, rfl, hs, hB⟩
    clear hs hB T
    go_wp2_with fail
    go_ret2
    exact G.out
  · have hn : (9218868437227405312 : Int) ≤ d := by omega
    have G : Hid (NuTold d w (.returned (.tuple #[.string ⟨#[]⟩, .bool false])) w) := by
      show NuTold _ _ _ _
      rw [NuTold, if_neg hd]
      exact ⟨rfl, Below.refl _ _⟩
    clear ht hd
    go_enter Tryz.func5, Tryz.ntmps5
    go_wp2_with fail
    go_ret2
    exact G.out
/-- What Number tells is one text and one Boolean. -/
theorem num_one {d : Int} : ∃ (t : ByteArray) (b : Bool), ∀ w e w', NuTold d w e w' → e = .returned (.tuple #[.string t, .bool b]) ∧ Below w.heap.size w w' := by
  by_cases hd : d < 9218868437227405312
  · by_cases h : ∃ t, Str t (Tn.txt d)
    · obtain ⟨t, ht⟩ := h
      refine ⟨t, true, fun w e w' h => ?_⟩
      rw [NuTold, if_pos hd] at h
      obtain ⟨u, rfl, hu, hB⟩ := h
      rw [hu.out.inj ht]
      exact ⟨rfl, hB⟩
    · refine ⟨⟨#[]⟩, true, fun w e w' k => ?_⟩
      rw [NuTold, if_pos hd] at k
      obtain ⟨u, _, hu, _⟩ := k
      exact absurd ⟨u, hu.out⟩ h
  · refine ⟨⟨#[]⟩, false, fun w e w' h => ?_⟩
    rw [NuTold, if_neg hd] at h
    exact h
theorem num_1 (w : World) (e : Ending) (w' : World) (h : NuTold 4607182418800017408 w e w') : e = .returned (.tuple #[.string ⟨#[49]⟩, .bool true]) ∧ Below w.heap.size w w' := by
  rw [NuTold, if_pos (by decide)] at h
  obtain ⟨u, rfl, hu, hB⟩ := h
  have q := hu.out
  rw [Tn.txt1] at q
  rw [q.inj (show Str ⟨#[49]⟩ [49] from rfl)]
  exact ⟨rfl, hB⟩
set_option maxRecDepth 100000 in
set_option maxHeartbeats 2000000 in
theorem numbers_law (d : Int) (w : World) (h0 : 0 ≤ d) (ht : Tab10 w) :
    Calls Tryz.prog 3 #[.int .u64 d] w fun e w' => e = .returned (.bool true) ∧ Below w.heap.size w w' := by
  obtain ⟨t, b, O⟩ := num_one (d := d)
  have A1 := hid ((tnum_any 4607182418800017408 w (by decide) ht).mono (num_1 w))
  have A2 := hid (fun (wx : World) (h : Tab10 wx) => (tnum_any d wx h0 h).mono (O wx))
  have A3 := hid (fun (wx : World) (h : Tab10 wx) => (rnum_any d wx h0 h).mono (O wx))
  have TB := hid ht
  clear ht O
  go_enter Tryz.func3, Tryz.ntmps3
  go_wp2_with fail
  refine A1.out.mono ?_
  rintro e w1 ⟨rfl, hB⟩
  have B1 := hid hB
  have T1 := hid (tab10_below TB.out hB)
  clear hB A1 TB
  go_wp2_with fail
  refine (A2.out w1 T1.out).mono ?_
  rintro e w2 ⟨rfl, hB⟩
  have B2 := hid (B1.out.trans (hB.mono B1.out.size))
  have T2 := hid (tab10_below T1.out hB)
  clear hB A2 T1 B1
  go_wp2_with fail
  refine (A3.out w2 T2.out).mono ?_
  rintro e w3 ⟨rfl, hB⟩
  have B3 := hid (B2.out.trans (hB.mono B2.out.size))
  clear hB A3 T2 B2
  go_wp2_with fail
  go_ret
  exact ⟨rfl, B3.out⟩
end Go.Proofs.YtggikfcdecnooaaGreatDoor

namespace Go.Proofs.YtggikfcdecnooaaGreatDoor
open Go Go.RowKit Go.Deep

theorem tab_laid : (Rows.laid_math_bits_deBruijn64tab : DataW Unit) = Lib.tabData .u8 (List.map Int.ofNat Lib.deBruijn64tab) := by kernel_rfl

theorem tab_of {W : World} {rest : List (String × DataW Unit)} (h : laidMet Tryz.prog (("math/bits.deBruijn64tab", Rows.laid_math_bits_deBruijn64tab) :: rest) W) : Tab W := by
  rw [tab_laid] at h
  have ht := Lib.tabIs_of_head (g := 5) (t := 179) (e := 5) (n := 64) (k := .u8) (zs := List.map Int.ofNat Lib.deBruijn64tab) (by kernel_rfl) (by kernel_rfl) Tryz.underlying179 Tryz.underlying5 (by kernel_rfl) (by kernel_rfl) h
  intro j hj
  have hl : (List.map Int.ofNat Lib.deBruijn64tab).length = Lib.deBruijn64tab.length := by simp
  rw [ht.cell (g := 5) (by kernel_rfl) j (by omega)]
  simp [List.getD, hj]

end Go.Proofs.YtggikfcdecnooaaGreatDoor

namespace Go.Proofs.YtggikfcdecnooaaGreatDoor
open Go Go.RowKit Go.Deep

theorem laid_tail12 {P : Program} {W : World} {x : String × DataW Unit} {rest : List (String × DataW Unit)} (h : laidMet P (x :: rest) W) : laidMet P rest W := by
  obtain ⟨ps, ⟨g, t, cs, fuel, p, q, _, _, _, _, hr, rfl⟩, hn, hc⟩ := h
  exact ⟨q, hr, (List.nodup_append.1 hn).2.1, fun b off hm => hc b off (List.mem_append_right _ hm)⟩

theorem pow_laid12 : (Rows.laid_internal_strconv_uint64pow10 : DataW Unit) = Lib.tabData .u64 Lib.pow10Tab := by kernel_rfl

theorem tables12 {W : World} {a : String × DataW Unit} {rest : List (String × DataW Unit)} (h : laidMet Tryz.prog (a :: ("math/bits.deBruijn64tab", Rows.laid_math_bits_deBruijn64tab) :: ("internal/strconv.uint64pow10", Rows.laid_internal_strconv_uint64pow10) :: rest) W) : Tab W ∧ Tab10 W := by
  have h1 := laid_tail12 h
  have h2 := laid_tail12 h1
  rw [pow_laid12] at h2
  exact ⟨tab_of h1, Lib.tabIs_of_head (g := 2) (t := 140) (e := 22) (n := 20) (by kernel_rfl) (by kernel_rfl) Tryz.underlying140 Tryz.underlying22 (by kernel_rfl) (by kernel_rfl) h2⟩
end Go.Proofs.YtggikfcdecnooaaGreatDoor
