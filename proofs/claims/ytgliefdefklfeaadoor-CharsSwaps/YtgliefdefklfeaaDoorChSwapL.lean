/-
  law20: CharsSwaps.
-/
import Derived.Test.YtgliefdefklfeaaDoorChSwap
namespace Go.Proofs.YtgliefdefklfeaaDoor
open Go Go.RowKit Go.Deep Go.Shelf

set_option maxRecDepth 100000 in
set_option maxHeartbeats 4000000 in
theorem swaps_law (s old new : ByteArray) (k : Int) (w : World) (hm : ML w) (hs : s.size ≤ 140737488355328) (ho : old.size ≤ 140737488355328) (hn : new.size ≤ 140737488355328) (k0 : -9223372036854775808 ≤ k) (k1 : k ≤ 9223372036854775807) :
    Calls Tryd.prog 5 #[.string s, .string old, .string new, .int .i64 k] w fun e w' => e = .returned (.bool true) ∧ Below w.heap.size w w' := by
  have MW : Hid (∀ w', Below w.heap.size w w' → ML w') := fun w' b => hm.b b
  have R0 : Hid (Calls Tryd.prog 14 #[.string ⟨#[98, 97, 110, 97, 110, 97]⟩, .string ⟨#[97, 110]⟩, .string ⟨#[60, 62]⟩, .int .i64 (-1)] w fun e w' => e = .returned (.tuple #[.string ⟨#[98, 60, 62, 60, 62, 97]⟩, .int .i64 2, .int .i64 0]) ∧ Below w.heap.size w w') := by
    refine (creplace_any ⟨#[98, 97, 110, 97, 110, 97]⟩ ⟨#[97, 110]⟩ ⟨#[60, 62]⟩ (-1) w hm (by decide) (by decide) (by decide) (by decide) (by decide)).mono ?_
    rintro e w' ⟨rfl, b⟩
    obtain ⟨c1, c2, c3⟩ := Ch.swapClosed
    refine ⟨?_, b⟩
    show Ending.returned (.tuple #[.string (Ch.rT [98, 97, 110, 97, 110, 97] [97, 110] [60, 62] (-1)), .int .i64 (Ch.rC [98, 97, 110, 97, 110, 97] [97, 110] [60, 62] (-1) : Int), .int .i64 (Ch.rE [98, 97, 110, 97, 110, 97] [97, 110] [60, 62] (-1))]) = _
    rw [c1, c2, c3]
    rfl
  have hsi : (s.size : Int) ≤ 140737488355328 := by omega
  have hni : (new.size : Int) ≤ 140737488355328 := by omega
  clear hm
  by_cases s0 : s.size = 0
  · obtain rfl := Ch.size_zero s0
    clear hs ho hn s0
    go_enter Tryd.func5, Tryd.ntmps5
    go_wp2_with fail
    refine R0.out.mono ?_
    rintro e w1 ⟨rfl, hb⟩
    have B1 := hid hb
    clear hb R0
    go_wp2_with fail
    go_ret
    exact ⟨rfl, B1.out⟩
  obtain ⟨s1, s2, s3⟩ := Ch.toList_ne s0
  by_cases o0 : old.size = 0
  · obtain rfl := Ch.size_zero o0
    clear hs ho hn o0 s0
    go_enter Tryd.func5, Tryd.ntmps5
    go_wp2_with fail
    refine R0.out.mono ?_
    rintro e w1 ⟨rfl, hb⟩
    have B1 := hid hb
    clear hb R0
    go_wp2_with fail
    go_ret
    exact ⟨rfl, B1.out⟩
  obtain ⟨o1, o2, o3⟩ := Ch.toList_ne o0
  by_cases ob : old = ⟨#[32]⟩
  · subst ob
    clear hs ho hn o0 s0
    go_enter Tryd.func5, Tryd.ntmps5
    go_wp2_with fail
    refine R0.out.mono ?_
    rintro e w1 ⟨rfl, hb⟩
    have B1 := hid hb
    clear hb R0
    go_wp2_with fail
    go_ret
    exact ⟨rfl, B1.out⟩
  have q1 : (old.toList == [32]) = false := by
    have := Ch.eq_lit (s := old) (t := ⟨#[32]⟩)
    rw [decide_eq_false ob, Ch.toList_tx ⟨#[32]⟩] at this
    exact this
  have q2 : ¬ old.toList = [32] := by simpa using q1
  by_cases sb : 1048576 < s.size
  · have sbi : (1048576 : Int) < (s.size : Int) := by omega
    clear hs ho hn o0 s0 sb
    go_enter Tryd.func5, Tryd.ntmps5
    go_wp2_with fail
    refine R0.out.mono ?_
    rintro e w1 ⟨rfl, hb⟩
    have B1 := hid hb
    clear hb R0
    go_wp2_with fail
    go_ret
    exact ⟨rfl, B1.out⟩
  have sbi : ¬ (1048576 : Int) < (s.size : Int) := by omega
  have SPC : Hid (Ch.sp s old = Ch.cut s old) := by rw [Hid, Ch.sp, if_neg s0, if_neg ob, if_neg o0]
  have SP := hid (fun wx (hx : ML wx) => csplit_any s old wx hx (by omega))
  by_cases n0 : new.size = 0
  · have n0i : ¬ (0 : Int) < (new.size : Int) := by omega
    have F0 := hid (SwF.mk' (s := s) (old := old) (new := new) (by omega) (by omega) (by omega) ho (by rw [n0]; omega))
    clear hs ho hn o0 s0 sb ob n0
    generalize hxs : Ch.cut s old = xs at *
    clear hxs
    generalize hnn : Lib.count s.data.toList old.data.toList = n at *
    clear hnn
    generalize hRR : Lib.replaceK old.data.toList new.data.toList n s.data.toList = R at *
    clear hRR
    have nb : (n : Int) ≤ 1048576 := by have := F0.out.hns; omega
    have nl : (n : Int) + 1 - 1 = (n : Int) := by omega

    go_enter Tryd.func5, Tryd.ntmps5
    go_wp2_with fail
    refine R0.out.mono ?_
    rintro e w1 ⟨rfl, hb⟩
    have B1 := hid hb
    clear hb R0
    go_wp2_with fail

    refine (SP.out w1 (MW.out _ B1.out)).mono ?_
    rintro e w2 ⟨⟨v, rfl, ht⟩, hb⟩
    rw [SPC.out] at ht
    obtain ⟨a, ca, rfl, hca, hr⟩ := ht.read
    rw [F0.out.hlen] at hca ⊢
    obtain ⟨b, off, rfl, -⟩ := hr.at 0 (by rw [F0.out.hlen]; omega)
    have R2 := hid hr
    have B2 := hid (below_on B1.out hb)
    clear ht hb hr SP B1
    have J1 := hid (F0.out.join w2 (some ⟨b, off, none⟩) ca R2.out)
    go_wp2_with fail
    refine J1.out.mono ?_
    rintro e w3 ⟨rfl, hb⟩
    have R3 := hid (R2.out.below hb (Nat.le_refl _))
    have B3 := hid (below_on B2.out hb)
    clear hb J1 R2 B2
    have P1 := hid (F0.out.repl w3 (MW.out _ B3.out))
    generalize Ch.tx R = TR1 at *
    go_wp2_with fail
    refine P1.out.mono ?_
    rintro e w4 ⟨rfl, hb⟩
    have R4 := hid (R3.out.below hb (Nat.le_refl _))
    have B4 := hid (below_on B3.out hb)
    clear hb P1 R3 B3
    have P2 := hid (F0.out.same w4 (MW.out _ B4.out))
    go_wp2_with fail
    refine P2.out.mono ?_
    rintro e w5 ⟨rfl, hb⟩
    have R5 := hid (R4.out.below hb (Nat.le_refl _))
    have B5 := hid (below_on B4.out hb)
    clear hb P2 R4 B4
    by_cases kn : k < 0
    · go_wp2_with fail
      go_ret
      exact ⟨rfl, B5.out⟩
    by_cases kb : (n : Int) + 1 ≤ k
    · go_wp2_with fail
      go_ret
      exact ⟨rfl, B5.out⟩
    obtain ⟨j, rfl⟩ : ∃ j : Nat, k = (j : Int) := ⟨k.toNat, by omega⟩
    have jn : j ≤ n := by omega
    have jc : j + 1 ≤ ca := by omega
    have jci : (j : Int) + 1 ≤ (ca : Int) := by omega
    have jcn : ca ≠ j := by omega
    have jni : ¬ (n : Int) + 1 ≤ (j : Int) := by omega
    have jle : (j : Int) ≤ (n : Int) + 1 := by omega
    have cab : (ca : Int) = (ca : Int) := rfl
    have J2 := hid (F0.out.head j jn w5 (some ⟨b, off, none⟩) ca R5.out)
    clear kn kb
    go_wp2_with fail
    refine J2.out.mono ?_
    rintro e w6 ⟨rfl, hb⟩
    have R6 := hid (R5.out.below hb (Nat.le_refl _))
    have B6 := hid (below_on B5.out hb)
    clear hb J2 R5 B5
    have J3 := hid (F0.out.tail j jn w6 b off (ca - j) R6.out)
    have h1 := Ch.jn_take_le new.data.toList xs j
    rw [F0.out.hRj] at h1
    have h2 := Ch.jn_drop_le old.data.toList xs j
    rw [F0.out.hsj, Ch.size_len] at h2
    have h3 := Ch.jn_size' old.data.toList (xs.drop j) 0
    have e3 : (xs.drop j).getD 0 ByteArray.empty = xs.getD j ByteArray.empty := by simp [List.getD]
    rw [e3] at h3
    have RL := F0.out.hRl
    have PT := hid (fun wx (hx : ML wx) => F0.out.part j jn wx hx)
    have X := hid (fun (wx : World) (h : TR wx (some ⟨b, off, none⟩) xs) => h.addr j (by rw [F0.out.hlen]; omega))
    have hsb : s.size ≤ 1048576 := F0.out.hs1
    generalize xs.getD j ByteArray.empty = x at *
    generalize Ch.jn new.data.toList (xs.take (j + 1)) = H at *
    generalize Ch.jn old.data.toList (xs.drop j) = Q at *
    have eq1 : Ch.tx H ++ (Ch.tx Q).extract x.size (Ch.tx Q).size = Ch.tx (H ++ Q.drop x.size) := by
      rw [Ch.tx_ext, Ch.tx_data, Ch.tx_size, Ch.tx_app]
      congr 2
      rw [← List.length_drop, List.take_length]
    have z1 := Ch.tx_size H
    have z2 := Ch.tx_size Q
    generalize Ch.tx (H ++ Q.drop x.size) = TK at *
    generalize Ch.tx H = A at *
    generalize Ch.tx Q = C at *
    have zA : (A.size : Int) ≤ 2097152 := by omega
    have zC : (C.size : Int) ≤ 1048576 := by omega
    have zX : (x.size : Int) ≤ (C.size : Int) := by omega
    have zX' : x.size ≤ C.size := by omega
    clear h1 h2 h3 e3 RL z1 z2 hsb
    go_wp2_with fail
    refine J3.out.mono ?_
    rintro e w7 ⟨rfl, hb⟩
    have R7 := hid (R6.out.below hb (Nat.le_refl _))
    have B7 := hid (below_on B6.out hb)
    clear hb J3 R6 B6
    have x7 := X.out w7 R7.out
    go_wp2_with fail
    refine (PT.out w7 (MW.out _ B7.out)).mono ?_
    rintro e w8 ⟨rfl, hb⟩
    have x8 := X.out w8 (R7.out.below hb (Nat.le_refl _))
    have B8' := hid (below_on B7.out hb)
    clear hb R7 B7 PT X x7
    go_wp2_with fail
    go_ret
    exact ⟨rfl, B8'.out⟩
  have n0i : (0 : Int) < (new.size : Int) := by omega
  have nz : ((new.size : Int) == 0) = false := by rw [beq_eq_false_iff_ne]; omega
  have nz' : ¬ (new.size : Int) = 0 := by omega
  have qd' : (1048576 : Int) / (new.size : Int) = ((1048576 / new.size : Nat) : Int) := by
    rw [show (1048576 : Int) = ((1048576 : Nat) : Int) from rfl, ← Int.natCast_ediv]
  have qd : Int.tdiv 1048576 (new.size : Int) = ((1048576 / new.size : Nat) : Int) := by rw [Int.tdiv_eq_ediv_of_nonneg (by decide), qd']
  have qb : 1048576 / new.size ≤ 1048576 := Nat.div_le_self _ _
  have qbi : ((1048576 / new.size : Nat) : Int) ≤ 1048576 := by omega
  by_cases mb : 1048576 / new.size < s.size
  · have mbi : ((1048576 / new.size : Nat) : Int) < (s.size : Int) := by omega
    clear hs ho hn o0 s0 sb ob mb n0 qb
    generalize 1048576 / new.size = D at *
    go_enter Tryd.func5, Tryd.ntmps5
    go_wp2_with fail
    refine R0.out.mono ?_
    rintro e w1 ⟨rfl, hb⟩
    have B1 := hid hb
    clear hb R0
    go_wp2_with fail
    go_ret
    exact ⟨rfl, B1.out⟩
  have mbi : ¬ ((1048576 / new.size : Nat) : Int) < (s.size : Int) := by omega
  have hmul : s.size * new.size ≤ 1048576 := by
    have h1 : s.size ≤ 1048576 / new.size := by omega
    exact (Nat.le_div_iff_mul_le (by omega)).1 h1
  have hnb : new.size ≤ 1048576 := by
    have h1 : 1 * new.size ≤ s.size * new.size := Nat.mul_le_mul_right _ (by omega)
    omega
  have F0 := hid (SwF.mk' (s := s) (old := old) (new := new) (by omega) (by omega) hnb ho hmul)
  clear hs ho hn o0 s0 sb ob mb n0 qb hmul hnb
  generalize 1048576 / new.size = D at *
  generalize hxs : Ch.cut s old = xs at *
  clear hxs
  generalize hnn : Lib.count s.data.toList old.data.toList = n at *
  clear hnn
  generalize hRR : Lib.replaceK old.data.toList new.data.toList n s.data.toList = R at *
  clear hRR
  have nb : (n : Int) ≤ 1048576 := by have := F0.out.hns; omega
  have nl : (n : Int) + 1 - 1 = (n : Int) := by omega

  go_enter Tryd.func5, Tryd.ntmps5
  go_wp2_with fail
  refine R0.out.mono ?_
  rintro e w1 ⟨rfl, hb⟩
  have B1 := hid hb
  clear hb R0
  go_wp2_with fail

  refine (SP.out w1 (MW.out _ B1.out)).mono ?_
  rintro e w2 ⟨⟨v, rfl, ht⟩, hb⟩
  rw [SPC.out] at ht
  obtain ⟨a, ca, rfl, hca, hr⟩ := ht.read
  rw [F0.out.hlen] at hca ⊢
  obtain ⟨b, off, rfl, -⟩ := hr.at 0 (by rw [F0.out.hlen]; omega)
  have R2 := hid hr
  have B2 := hid (below_on B1.out hb)
  clear ht hb hr SP B1
  have J1 := hid (F0.out.join w2 (some ⟨b, off, none⟩) ca R2.out)
  go_wp2_with fail
  refine J1.out.mono ?_
  rintro e w3 ⟨rfl, hb⟩
  have R3 := hid (R2.out.below hb (Nat.le_refl _))
  have B3 := hid (below_on B2.out hb)
  clear hb J1 R2 B2
  have P1 := hid (F0.out.repl w3 (MW.out _ B3.out))
  generalize Ch.tx R = TR1 at *
  go_wp2_with fail
  refine P1.out.mono ?_
  rintro e w4 ⟨rfl, hb⟩
  have R4 := hid (R3.out.below hb (Nat.le_refl _))
  have B4 := hid (below_on B3.out hb)
  clear hb P1 R3 B3
  have P2 := hid (F0.out.same w4 (MW.out _ B4.out))
  go_wp2_with fail
  refine P2.out.mono ?_
  rintro e w5 ⟨rfl, hb⟩
  have R5 := hid (R4.out.below hb (Nat.le_refl _))
  have B5 := hid (below_on B4.out hb)
  clear hb P2 R4 B4
  by_cases kn : k < 0
  · go_wp2_with fail
    go_ret
    exact ⟨rfl, B5.out⟩
  by_cases kb : (n : Int) + 1 ≤ k
  · go_wp2_with fail
    go_ret
    exact ⟨rfl, B5.out⟩
  obtain ⟨j, rfl⟩ : ∃ j : Nat, k = (j : Int) := ⟨k.toNat, by omega⟩
  have jn : j ≤ n := by omega
  have jc : j + 1 ≤ ca := by omega
  have jci : (j : Int) + 1 ≤ (ca : Int) := by omega
  have jcn : ca ≠ j := by omega
  have jni : ¬ (n : Int) + 1 ≤ (j : Int) := by omega
  have jle : (j : Int) ≤ (n : Int) + 1 := by omega
  have cab : (ca : Int) = (ca : Int) := rfl
  have J2 := hid (F0.out.head j jn w5 (some ⟨b, off, none⟩) ca R5.out)
  clear kn kb
  go_wp2_with fail
  refine J2.out.mono ?_
  rintro e w6 ⟨rfl, hb⟩
  have R6 := hid (R5.out.below hb (Nat.le_refl _))
  have B6 := hid (below_on B5.out hb)
  clear hb J2 R5 B5
  have J3 := hid (F0.out.tail j jn w6 b off (ca - j) R6.out)
  have h1 := Ch.jn_take_le new.data.toList xs j
  rw [F0.out.hRj] at h1
  have h2 := Ch.jn_drop_le old.data.toList xs j
  rw [F0.out.hsj, Ch.size_len] at h2
  have h3 := Ch.jn_size' old.data.toList (xs.drop j) 0
  have e3 : (xs.drop j).getD 0 ByteArray.empty = xs.getD j ByteArray.empty := by simp [List.getD]
  rw [e3] at h3
  have RL := F0.out.hRl
  have PT := hid (fun wx (hx : ML wx) => F0.out.part j jn wx hx)
  have X := hid (fun (wx : World) (h : TR wx (some ⟨b, off, none⟩) xs) => h.addr j (by rw [F0.out.hlen]; omega))
  have hsb : s.size ≤ 1048576 := F0.out.hs1
  generalize xs.getD j ByteArray.empty = x at *
  generalize Ch.jn new.data.toList (xs.take (j + 1)) = H at *
  generalize Ch.jn old.data.toList (xs.drop j) = Q at *
  have eq1 : Ch.tx H ++ (Ch.tx Q).extract x.size (Ch.tx Q).size = Ch.tx (H ++ Q.drop x.size) := by
    rw [Ch.tx_ext, Ch.tx_data, Ch.tx_size, Ch.tx_app]
    congr 2
    rw [← List.length_drop, List.take_length]
  have z1 := Ch.tx_size H
  have z2 := Ch.tx_size Q
  generalize Ch.tx (H ++ Q.drop x.size) = TK at *
  generalize Ch.tx H = A at *
  generalize Ch.tx Q = C at *
  have zA : (A.size : Int) ≤ 2097152 := by omega
  have zC : (C.size : Int) ≤ 1048576 := by omega
  have zX : (x.size : Int) ≤ (C.size : Int) := by omega
  have zX' : x.size ≤ C.size := by omega
  clear h1 h2 h3 e3 RL z1 z2 hsb
  go_wp2_with fail
  refine J3.out.mono ?_
  rintro e w7 ⟨rfl, hb⟩
  have R7 := hid (R6.out.below hb (Nat.le_refl _))
  have B7 := hid (below_on B6.out hb)
  clear hb J3 R6 B6
  have x7 := X.out w7 R7.out
  go_wp2_with fail
  refine (PT.out w7 (MW.out _ B7.out)).mono ?_
  rintro e w8 ⟨rfl, hb⟩
  have x8 := X.out w8 (R7.out.below hb (Nat.le_refl _))
  have B8' := hid (below_on B7.out hb)
  clear hb R7 B7 PT X x7
  go_wp2_with fail
  go_ret
  exact ⟨rfl, B8'.out⟩
end Go.Proofs.YtgliefdefklfeaaDoor
