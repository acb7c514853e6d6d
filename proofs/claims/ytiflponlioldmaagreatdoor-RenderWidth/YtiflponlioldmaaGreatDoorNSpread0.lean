/-
  numeral's spread, where no power is left: the digits of one limb.
-/
import Derived.Test.YtiflponlioldmaaGreatDoorNMem
import Derived.Test.YtiflponlioldmaaGreatDoorNToU
import Derived.BigRegion
namespace Go.Proofs.YtiflponlioldmaaGreatDoor
open Go.RowKit Go.Deep

set_option maxRecDepth 100000 in
set_option maxHeartbeats 4000000 in
theorem spread_zero (B : Int) (W g o cap cp n c : Nat) (p pm : Option Addr) (za ds : List Int) (V : Int) (w : World) (h2 : 2 ≤ B) (h36 : B ≤ 36) (hW : W ≤ 63) (hd : OwnB w g ds) (hol : o + W ≤ ds.length) (ha : Arg w p n c za) (hV : Nm.val za = V) (hV1 : V < 18446744073709551616) :
    Calls Tryz.prog 110 #[.slice (some ⟨g, o, none⟩) W cap, .slice p n c, .slice pm 0 cp, .int .u64 B] w fun e w' => e = .returned (.tuple #[]) ∧ OwnB w' g (put ds o (Dn.dg B W V)) ∧ Only g w w' := by
  have hB0 : (B == 0) = false := by rw [beq_eq_false_iff_ne]; omega
  have hV0 : 0 ≤ V := by rw [← hV]; exact (Nm.val_bd za ha.2.2.2.2).1
  have TU : Hid (Calls Tryz.prog 171 #[.slice p n c] w fun e w' => e = .returned (.tuple #[.int .u64 V, .bool (decide (Nm.tsize za ≤ 1))]) ∧ w' = w) := by
    have := toUint_any p n c za w ha
    rw [toU_val ha.2.2.2.2 (by rw [hV]; exact hV1), hV] at this
    exact this
  have hWi : (W : Int) ≤ 63 := by omega
  have OB := hid hd
  have HOL := hid hol
  clear ha hV hd hol
  go_enter Tryz.func110, Tryz.ntmps110
  go_wp2_with fail
  refine TU.out.mono ?_
  rintro e w' ⟨rfl, rfl⟩
  clear TU
  go_wp2_with fail
  go_loopw [8, 10] (fun a i wr => ∃ (j : Nat) (N : Int), a = .int .u64 N ∧ i = .int .i64 ((j : Int) - 1) ∧ j ≤ W ∧ 0 ≤ N ∧ N < 18446744073709551616 ∧ Hid (N = V / B ^ (W - j) ∧ OwnB wr g (put ds (o + j) (Dn.dg B (W - j) V)) ∧ Only g w' wr)) (fun _ i _ => (intOf i + 1).toNat)
  case atStart =>
    refine ⟨W, V, rfl, rfl, Nat.le_refl _, hV0, hV1, ?_, ?_, Only.refl _ _⟩
    · rw [Nat.sub_self, Int.pow_zero, Int.ediv_one]
    · rw [Nat.sub_self, Dn.dg, put_nil]
      exact OB.out
  case round =>
    obtain ⟨j, N, rfl, rfl, hj, hN0, hN1, I⟩ := hrel
    cases j with
    | zero =>
      have F : Hid (OwnB wr g (put ds o (Dn.dg B W V)) ∧ Only g w' wr) := ⟨I.out.2.1, I.out.2.2⟩
      clear I
      go_wp2_with fail
      (try simp only [Exit.inBlock, Exit.then])
      refine bodyPost_ret (results_none rfl _ _ _) rfl ?_
      exact ⟨rfl, F.out⟩
    | succ u =>
      rw [show ((u + 1 : Nat) : Int) - 1 = (u : Int) by omega]
      have hu : (u : Int) < (W : Int) := by omega
      have hB1 : 0 < B := by omega
      obtain ⟨d, hd⟩ : ∃ d, N % B = d := ⟨_, rfl⟩
      obtain ⟨M, hM⟩ : ∃ M, N / B = M := ⟨_, rfl⟩
      have hd0 : 0 ≤ d := by rw [← hd]; exact Int.emod_nonneg _ (by omega)
      have hd1 : d < 36 := by have := Int.emod_lt_of_pos N hB1; omega
      have hM0 : 0 ≤ M := by rw [← hM]; exact Int.ediv_nonneg hN0 (by omega)
      have hM1 : M < 18446744073709551616 := by have := Int.ediv_le_self B hN0; omega
      have hlen : (put ds (o + (u + 1)) (Dn.dg B (W - (u + 1)) V)).length = ds.length := put_length _ _ _ (by rw [Dn.dg_length]; have := HOL.out; omega)
      have ST : Hid (∀ wq, Below wr.heap.size wr wq → OwnB (wq.setCell ⟨g, o + u, none⟩ (.int .u8 d)) g (put ds (o + u) (Dn.dg B (W - u) V)) ∧ Only g w' (wq.setCell ⟨g, o + u, none⟩ (.int .u8 d))) := by
        intro wq hb
        have h1 := (I.out.2.1.below hb I.out.2.1.lt).set (o + u) d
        rw [show o + (u + 1) = o + u + 1 by omega, put_head _ _ _ _ (by rw [Dn.dg_length]; have := HOL.out; omega)] at h1
        have e1 : d :: Dn.dg B (W - (u + 1)) V = Dn.dg B (W - u) V := by
          rw [show W - u = W - (u + 1) + 1 by omega, Dn.dg_head hB1, ← I.out.1, hd, Dn.dg_mod hB1]
        rw [e1] at h1
        exact ⟨h1, (I.out.2.2.trans (Only.of_below hb)).trans (Only.set _ _)⟩
      have EM : Hid (M = V / B ^ (W - u)) := by
        show _ = _
        rw [← hM, I.out.1, show W - u = W - (u + 1) + 1 by omega, Int.pow_succ, Int.ediv_ediv_of_nonneg (Int.le_of_lt (Int.pow_pos hB1))]
      obtain ⟨y, hy⟩ : ∃ y, wr.cell? ⟨g, o + u, none⟩ = some (.int .u8 y) := ⟨_, I.out.2.1.cell (o + u) (by rw [hlen]; have := HOL.out; omega)⟩
      have hfr := I.out.2.1.free (o + u)
      clear I hlen
      go_wp2_with fail
      go_region
      all_goals
        go_wp2
        go_roundw
        case rel => exact ⟨u, M, by first | rfl | rw [hM], by go_num, by omega, hM0, hM1, EM.out, ST.out _ (below_drewN (Below.refl _ _) _)⟩
        case measure => simp [intOf]
end Go.Proofs.YtiflponlioldmaaGreatDoor
