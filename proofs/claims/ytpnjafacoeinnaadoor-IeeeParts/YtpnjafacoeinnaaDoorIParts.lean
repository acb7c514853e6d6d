import Derived.Test.YtpnjafacoeinnaaDoorIEnc2
import Derived.BigQuiet
/-
  IeeeParts (made by mkparts.py).
-/
namespace Go.Proofs.YtpnjafacoeinnaaDoor
open Go Go.RowKit Go.Deep

namespace Ie
theorem dec_kinds (d : Int) : ∀ r, d % 9223372036854775808 = r →
    (cls d = 0 ∧ dm d = 0 ∧ de d = 0 ∧ r = 0) ∨ (cls d = 1 ∧ dm d = r ∧ de d = -1074 ∧ 0 < r ∧ r < 4503599627370496) ∨ (cls d = 2 ∧ dm d = man r ∧ de d = (ex r : Int) - 1074 ∧ 4503599627370496 ≤ r ∧ r < 9218868437227405312) ∨
    (cls d = 3 ∧ dm d = 0 ∧ de d = 0 ∧ r = 9218868437227405312) ∨ (cls d = 4 ∧ dm d = r - 9218868437227405312 ∧ de d = 0 ∧ 9218868437227405312 < r ∧ r < 9223372036854775808) := by
  intro r hr
  have hf : fld d = r / 4503599627370496 := by simp only [fld]; omega
  have hy : d % 4503599627370496 = r % 4503599627370496 := by omega
  have hm : dm d = if cls d = 2 then 4503599627370496 + r % 4503599627370496 else if cls d = 1 ∨ cls d = 4 then r % 4503599627370496 else 0 := by rw [dm, hy]
  have he : de d = if cls d = 2 then r / 4503599627370496 - 1075 else if cls d = 1 then -1074 else 0 := by rw [de, hf]
  have hc : cls d = if r / 4503599627370496 = 0 then (if r % 4503599627370496 = 0 then 0 else 1) else if r / 4503599627370496 = 2047 then (if r % 4503599627370496 = 0 then 3 else 4) else 2 := by rw [cls, hf, hy]
  by_cases a : r / 4503599627370496 = 0
  · by_cases b : r % 4503599627370496 = 0
    · rw [if_pos a, if_pos b] at hc
      left; rw [hm, he, hc]; exact ⟨rfl, rfl, rfl, by omega⟩
    · rw [if_pos a, if_neg b] at hc
      right; left; rw [hm, he, hc]; exact ⟨rfl, show r % 4503599627370496 = r by omega, rfl, by omega, by omega⟩
  · by_cases a2 : r / 4503599627370496 = 2047
    · by_cases b : r % 4503599627370496 = 0
      · rw [if_neg a, if_pos a2, if_pos b] at hc
        right; right; right; left; rw [hm, he, hc]; exact ⟨rfl, rfl, rfl, by omega⟩
      · rw [if_neg a, if_pos a2, if_neg b] at hc
        right; right; right; right; rw [hm, he, hc]; exact ⟨rfl, show r % 4503599627370496 = _ by omega, rfl, by omega, by omega⟩
    · rw [if_neg a, if_neg a2] at hc
      right; right; left; rw [hm, he, hc]
      refine ⟨rfl, ?_, ?_, by omega, by omega⟩
      · show 4503599627370496 + r % 4503599627370496 = man r
        rw [man, if_neg (by omega)]
      · show r / 4503599627370496 - 1075 = (ex r : Int) - 1074
        rw [ex]; omega
end Ie

/-- A finite double, rounded from its parts, is itself. -/
theorem round_self (neg : Bool) (r m e : Int) (d : Int) (hd : Ie.sg neg r = d) (h0 : 0 ≤ r) (h1 : r < 9218868437227405312) (hm : (r = 0 ∧ m = 0 ∧ e = 0) ∨ (m = Ie.man r ∧ e = (Ie.ex r : Int) - 1074)) (w : World) (hT : Tab w) (more : Bool) (g : Obj) (hg : g = .cells #[.int .u64 m] 22) :
    Calls Tryd.prog 13 #[.bool neg, .slice (some ⟨w.heap.size, 0, none⟩) 1 1, .int .i64 e, .bool more] (w.alloc g) fun q w' => q = .returned (.tuple #[.int .u64 d, .int .i64 0]) ∧ Below w.heap.size w w' := by
  subst hg
  have hB := alloc_below w (.cells #[.int .u64 m] 22)
  have mb := Ie.man_nn r h0
  have m0 : 0 ≤ m ∧ m < 18446744073709551616 := by omega
  have hv : Nm.val [m] = m := by simp [Nm.val]
  refine (round_any neg _ 1 1 [m] _ (arg_lit (heap_alloc_new w _) m0.1 m0.2) (hT.below hB) (by have := Nm.tsize_le [m]; simp at this; omega) m e more hv).mono ?_
  rintro q w' ⟨x, rfl, R, hB2⟩
  have hx : x = r := by
    rcases hm with ⟨hr, hm, he⟩ | ⟨hm, he⟩
    · subst hr hm he
      exact R.one (by omega) (by omega) (Ie.rnd_zero 1 0 more (by omega)) (a := 0) (a' := 0) (by omega) rfl
    · have := Ie.rnd_self r e more h0 h1 he
      rw [← hm] at this
      exact R.one (by omega) (by omega) this (a := 0) (a' := 0) (by omega) rfl
  rw [hx, hd]
  exact ⟨rfl, hB.trans (hB2.mono hB.size)⟩

set_option maxRecDepth 100000 in
set_option maxHeartbeats 8000000 in
theorem parts_any (d : Int) (w : World) (hT : Tab w) (h0 : 0 ≤ d) (h1 : d < 18446744073709551616) :
    Calls Tryd.prog 3 #[.int .u64 d] w fun r w' => r = .returned (.bool true) ∧ Below w.heap.size w w' := by
  have AW := hid (awake_any w hT)
  have DE := hid (fun (wx : World) => decode_any d wx h0 h1)
  have EN := hid (fun (wx : World) => encode_dec d wx h0 h1)
  have CL := hid (fun (wx : World) => class_any d wx h0 h1)
  have AB := hid (fun (wx : World) => abs_any d wx h0 h1)
  have NG := hid (fun (wx : World) => neg_any d wx h0 h1)
  have nb : 0 ≤ Ie.ng d ∧ Ie.ng d < 18446744073709551616 := by simp only [Ie.ng]; split <;> omega
  have nn : Ie.ng (Ie.ng d) = d := by
    by_cases h : d < 9223372036854775808
    · rw [Ie.ng, Ie.ng, if_pos h, if_neg (by omega)]; omega
    · rw [Ie.ng, Ie.ng, if_neg h, if_pos (by omega)]; omega
  have NN : Hid (∀ wx : World, Calls Tryd.prog 12 #[.int .u64 (Ie.ng d)] wx fun e w' => e = .returned (.int .u64 d) ∧ w' = wx) := by
    intro wx
    have := neg_any (Ie.ng d) wx nb.1 nb.2
    rw [nn] at this
    exact this
  have B : bits .xor .u64 d 9223372036854775808 = Ie.ng d := Ib.sign_xor d h0 h1
  obtain ⟨r, hr⟩ : ∃ r, d % 9223372036854775808 = r := ⟨_, rfl⟩
  have SB := Ie.sg_back d h0 h1
  have K := Ie.dec_kinds d r hr
  rw [hr] at SB AB
  have RS := hid (fun (neg : Bool) (hd : Ie.sg neg r = d) (a0 : 0 ≤ r) (a1 : r < 9218868437227405312) (m e : Int) (hm : (r = 0 ∧ m = 0 ∧ e = 0) ∨ (m = Ie.man r ∧ e = (Ie.ex r : Int) - 1074)) (wx : World) (hx : Below w.heap.size w wx) => round_self neg r m e d hd a0 a1 hm wx (hT.below hx))
  have NEG : (decide (9223372036854775808 ≤ d) = false ∧ ¬ 9223372036854775808 ≤ d) ∨ (decide (9223372036854775808 ≤ d) = true ∧ 9223372036854775808 ≤ d) := by
    by_cases h : 9223372036854775808 ≤ d
    · exact .inr ⟨decide_eq_true h, h⟩
    · exact .inl ⟨decide_eq_false h, h⟩
  have r0 : 0 ≤ r := by omega
  have r1 : r < 9223372036854775808 := by omega
  clear hT nb nn
  generalize Ie.ng d = nd at *
  rcases NEG with ⟨hs, hs'⟩ | ⟨hs, hs'⟩ <;> rw [hs] at DE EN SB <;> clear hs <;> rcases K with ⟨c, m, x, k1⟩ | ⟨c, m, x, k1, k2⟩ | ⟨c, m, x, k1, k2⟩ | ⟨c, m, x, k1⟩ | ⟨c, m, x, k1, k2⟩ <;> rw [c, m, x] at DE EN <;> rw [c] at CL <;> clear c m x <;> simp only [partsOf] at DE EN
  · subst k1
    have RO := hid (RS.out false SB (by omega) (by omega) 0 0 (.inl ⟨rfl, rfl, rfl⟩))
    clear RS SB
    go_enter Tryd.func3, Tryd.ntmps3
    go_wp2_with fail
    refine AW.out.mono ?_
    rintro e' w1 ⟨rfl, hB⟩
    have HB := hid hB
    clear hB AW
    go_wp2_with fail
    refine (DE.out _).mono ?_
    rintro e' w2 ⟨rfl, hB2⟩
    have HB2 := hid (HB.out.trans (hB2.mono HB.out.size))
    clear hB2 DE
    go_wp2_with fail
    refine (EN.out _).mono ?_
    rintro e' w4 ⟨rfl, hB4⟩
    have p0 : w4.cell? ⟨w2.heap.size, 0, none⟩ = some (.bool false) := by rw [hB4.cell (p := ⟨w2.heap.size, 0, none⟩) (by simp)]; simp only [World.cell?, heap_alloc_new]; rfl
    have p1 : w4.cell? ⟨w2.heap.size, 1, none⟩ = some (.int .i64 0) := by rw [hB4.cell (p := ⟨w2.heap.size, 1, none⟩) (by simp)]; simp only [World.cell?, heap_alloc_new]; rfl
    have p2 : w4.cell? ⟨w2.heap.size, 2, none⟩ = some (.int .u64 0) := by rw [hB4.cell (p := ⟨w2.heap.size, 2, none⟩) (by simp)]; simp only [World.cell?, heap_alloc_new]; rfl
    have p3 : w4.cell? ⟨w2.heap.size, 3, none⟩ = some (.int .i64 0) := by rw [hB4.cell (p := ⟨w2.heap.size, 3, none⟩) (by simp)]; simp only [World.cell?, heap_alloc_new]; rfl
    have HB4 := hid ((Below.alloc HB2.out HB2.out.size _).trans (hB4.mono (Below.alloc HB2.out HB2.out.size _).size))
    clear hB4 EN
    go_wp2_with fail
    go_quiet ((go_at_call 10; with_reducible exact Calls.quiet_of_same (CL.out _)))
    rename_i nq
    have o0 : (w4.drewN nq).cell? ⟨w2.heap.size, 0, none⟩ = some (.bool false) := p0
    have o1 : (w4.drewN nq).cell? ⟨w2.heap.size, 1, none⟩ = some (.int .i64 0) := p1
    have o2 : (w4.drewN nq).cell? ⟨w2.heap.size, 2, none⟩ = some (.int .u64 0) := p2
    have o3 : (w4.drewN nq).cell? ⟨w2.heap.size, 3, none⟩ = some (.int .i64 0) := p3
    have HB5 := hid (below_drewN HB4.out nq)
    clear p0 p1 p2 p3
    generalize w4.drewN nq = w5 at *
    have o3a : (w5.alloc (.cells #[.int .u64 0] 22)).cell? ⟨w2.heap.size, 3, none⟩ = some (.int .i64 0) := by rw [(alloc_below w5 _).cell (p := ⟨w2.heap.size, 3, none⟩) (cell_lt o3)]; exact o3
    go_wp2_with fail
    refine (AB.out _).mono ?_
    rintro e' w' ⟨rfl, rfl⟩
    go_wp2_with fail
    refine (NG.out _).mono ?_
    rintro e' w' ⟨rfl, rfl⟩
    go_wp2_with fail
    refine (NG.out _).mono ?_
    rintro e' w' ⟨rfl, rfl⟩
    go_wp2_with fail
    refine (NN.out _).mono ?_
    rintro e' w' ⟨rfl, rfl⟩
    go_wp2_with fail
    refine (RO.out _ HB5.out _ _ rfl).mono ?_
    rintro e' w6 ⟨rfl, hB6⟩
    have q0 : w6.cell? ⟨w2.heap.size, 0, none⟩ = some (.bool false) := by rw [hB6.cell (p := ⟨w2.heap.size, 0, none⟩) (cell_lt o0)]; exact o0
    have q2 : w6.cell? ⟨w2.heap.size, 2, none⟩ = some (.int .u64 0) := by rw [hB6.cell (p := ⟨w2.heap.size, 2, none⟩) (cell_lt o2)]; exact o2
    have q3 : w6.cell? ⟨w2.heap.size, 3, none⟩ = some (.int .i64 0) := by rw [hB6.cell (p := ⟨w2.heap.size, 3, none⟩) (cell_lt o3)]; exact o3
    have q3a : (w6.alloc (.cells #[.int .u64 0] 22)).cell? ⟨w2.heap.size, 3, none⟩ = some (.int .i64 0) := by rw [(alloc_below w6 _).cell (p := ⟨w2.heap.size, 3, none⟩) (cell_lt q3)]; exact q3
    have HB6 := hid (HB5.out.trans (hB6.mono HB5.out.size))
    clear hB6
    go_wp2_with fail
    refine (RO.out _ HB6.out _ _ rfl).mono ?_
    rintro e' w7 ⟨rfl, hB7⟩
    have HB7 := hid (HB6.out.trans (hB7.mono HB6.out.size))
    clear hB7
    go_wp2_with fail
    go_ret
    exact ⟨by simp, HB7.out⟩
  · have RO := hid (RS.out false SB (by omega) (by omega) r (-1074) (.inr ⟨by rw [Ie.man, if_pos k2], by rw [Ie.ex]; omega⟩))
    clear RS SB
    go_enter Tryd.func3, Tryd.ntmps3
    go_wp2_with fail
    refine AW.out.mono ?_
    rintro e' w1 ⟨rfl, hB⟩
    have HB := hid hB
    clear hB AW
    go_wp2_with fail
    refine (DE.out _).mono ?_
    rintro e' w2 ⟨rfl, hB2⟩
    have HB2 := hid (HB.out.trans (hB2.mono HB.out.size))
    clear hB2 DE
    go_wp2_with fail
    refine (EN.out _).mono ?_
    rintro e' w4 ⟨rfl, hB4⟩
    have p0 : w4.cell? ⟨w2.heap.size, 0, none⟩ = some (.bool false) := by rw [hB4.cell (p := ⟨w2.heap.size, 0, none⟩) (by simp)]; simp only [World.cell?, heap_alloc_new]; rfl
    have p1 : w4.cell? ⟨w2.heap.size, 1, none⟩ = some (.int .i64 1) := by rw [hB4.cell (p := ⟨w2.heap.size, 1, none⟩) (by simp)]; simp only [World.cell?, heap_alloc_new]; rfl
    have p2 : w4.cell? ⟨w2.heap.size, 2, none⟩ = some (.int .u64 r) := by rw [hB4.cell (p := ⟨w2.heap.size, 2, none⟩) (by simp)]; simp only [World.cell?, heap_alloc_new]; rfl
    have p3 : w4.cell? ⟨w2.heap.size, 3, none⟩ = some (.int .i64 (-1074)) := by rw [hB4.cell (p := ⟨w2.heap.size, 3, none⟩) (by simp)]; simp only [World.cell?, heap_alloc_new]; rfl
    have HB4 := hid ((Below.alloc HB2.out HB2.out.size _).trans (hB4.mono (Below.alloc HB2.out HB2.out.size _).size))
    clear hB4 EN
    go_wp2_with fail
    go_quiet ((go_at_call 10; with_reducible exact Calls.quiet_of_same (CL.out _)))
    rename_i nq
    have o0 : (w4.drewN nq).cell? ⟨w2.heap.size, 0, none⟩ = some (.bool false) := p0
    have o1 : (w4.drewN nq).cell? ⟨w2.heap.size, 1, none⟩ = some (.int .i64 1) := p1
    have o2 : (w4.drewN nq).cell? ⟨w2.heap.size, 2, none⟩ = some (.int .u64 r) := p2
    have o3 : (w4.drewN nq).cell? ⟨w2.heap.size, 3, none⟩ = some (.int .i64 (-1074)) := p3
    have HB5 := hid (below_drewN HB4.out nq)
    clear p0 p1 p2 p3
    generalize w4.drewN nq = w5 at *
    have o3a : (w5.alloc (.cells #[.int .u64 r] 22)).cell? ⟨w2.heap.size, 3, none⟩ = some (.int .i64 (-1074)) := by rw [(alloc_below w5 _).cell (p := ⟨w2.heap.size, 3, none⟩) (cell_lt o3)]; exact o3
    go_wp2_with fail
    refine (AB.out _).mono ?_
    rintro e' w' ⟨rfl, rfl⟩
    go_wp2_with fail
    refine (NG.out _).mono ?_
    rintro e' w' ⟨rfl, rfl⟩
    go_wp2_with fail
    refine (NG.out _).mono ?_
    rintro e' w' ⟨rfl, rfl⟩
    go_wp2_with fail
    refine (NN.out _).mono ?_
    rintro e' w' ⟨rfl, rfl⟩
    go_wp2_with fail
    refine (RO.out _ HB5.out _ _ rfl).mono ?_
    rintro e' w6 ⟨rfl, hB6⟩
    have q0 : w6.cell? ⟨w2.heap.size, 0, none⟩ = some (.bool false) := by rw [hB6.cell (p := ⟨w2.heap.size, 0, none⟩) (cell_lt o0)]; exact o0
    have q2 : w6.cell? ⟨w2.heap.size, 2, none⟩ = some (.int .u64 r) := by rw [hB6.cell (p := ⟨w2.heap.size, 2, none⟩) (cell_lt o2)]; exact o2
    have q3 : w6.cell? ⟨w2.heap.size, 3, none⟩ = some (.int .i64 (-1074)) := by rw [hB6.cell (p := ⟨w2.heap.size, 3, none⟩) (cell_lt o3)]; exact o3
    have q3a : (w6.alloc (.cells #[.int .u64 r] 22)).cell? ⟨w2.heap.size, 3, none⟩ = some (.int .i64 (-1074)) := by rw [(alloc_below w6 _).cell (p := ⟨w2.heap.size, 3, none⟩) (cell_lt q3)]; exact q3
    have HB6 := hid (HB5.out.trans (hB6.mono HB5.out.size))
    clear hB6
    go_wp2_with fail
    refine (RO.out _ HB6.out _ _ rfl).mono ?_
    rintro e' w7 ⟨rfl, hB7⟩
    have HB7 := hid (HB6.out.trans (hB7.mono HB6.out.size))
    clear hB7
    go_wp2_with fail
    go_ret
    exact ⟨by simp, HB7.out⟩
  · have RO := hid (RS.out false SB (by omega) (by omega) _ _ (.inr ⟨rfl, rfl⟩))
    have mb : 4503599627370496 ≤ Ie.man r ∧ Ie.man r < 9007199254740992 := by rw [Ie.man, if_neg (by omega)]; omega
    have eb : (Ie.ex r : Int) ≤ 2045 := by simp only [Ie.ex]; omega
    generalize Ie.man r = mm at *
    generalize Ie.ex r = E at *
    obtain ⟨mb0, mb1⟩ := mb
    clear RS SB
    go_enter Tryd.func3, Tryd.ntmps3
    go_wp2_with fail
    refine AW.out.mono ?_
    rintro e' w1 ⟨rfl, hB⟩
    have HB := hid hB
    clear hB AW
    go_wp2_with fail
    refine (DE.out _).mono ?_
    rintro e' w2 ⟨rfl, hB2⟩
    have HB2 := hid (HB.out.trans (hB2.mono HB.out.size))
    clear hB2 DE
    go_wp2_with fail
    refine (EN.out _).mono ?_
    rintro e' w4 ⟨rfl, hB4⟩
    have p0 : w4.cell? ⟨w2.heap.size, 0, none⟩ = some (.bool false) := by rw [hB4.cell (p := ⟨w2.heap.size, 0, none⟩) (by simp)]; simp only [World.cell?, heap_alloc_new]; rfl
    have p1 : w4.cell? ⟨w2.heap.size, 1, none⟩ = some (.int .i64 2) := by rw [hB4.cell (p := ⟨w2.heap.size, 1, none⟩) (by simp)]; simp only [World.cell?, heap_alloc_new]; rfl
    have p2 : w4.cell? ⟨w2.heap.size, 2, none⟩ = some (.int .u64 mm) := by rw [hB4.cell (p := ⟨w2.heap.size, 2, none⟩) (by simp)]; simp only [World.cell?, heap_alloc_new]; rfl
    have p3 : w4.cell? ⟨w2.heap.size, 3, none⟩ = some (.int .i64 ((E : Int) - 1074)) := by rw [hB4.cell (p := ⟨w2.heap.size, 3, none⟩) (by simp)]; simp only [World.cell?, heap_alloc_new]; rfl
    have HB4 := hid ((Below.alloc HB2.out HB2.out.size _).trans (hB4.mono (Below.alloc HB2.out HB2.out.size _).size))
    clear hB4 EN
    go_wp2_with fail
    go_quiet ((go_at_call 10; with_reducible exact Calls.quiet_of_same (CL.out _)))
    rename_i nq
    have o0 : (w4.drewN nq).cell? ⟨w2.heap.size, 0, none⟩ = some (.bool false) := p0
    have o1 : (w4.drewN nq).cell? ⟨w2.heap.size, 1, none⟩ = some (.int .i64 2) := p1
    have o2 : (w4.drewN nq).cell? ⟨w2.heap.size, 2, none⟩ = some (.int .u64 mm) := p2
    have o3 : (w4.drewN nq).cell? ⟨w2.heap.size, 3, none⟩ = some (.int .i64 ((E : Int) - 1074)) := p3
    have HB5 := hid (below_drewN HB4.out nq)
    clear p0 p1 p2 p3
    generalize w4.drewN nq = w5 at *
    have o3a : (w5.alloc (.cells #[.int .u64 mm] 22)).cell? ⟨w2.heap.size, 3, none⟩ = some (.int .i64 ((E : Int) - 1074)) := by rw [(alloc_below w5 _).cell (p := ⟨w2.heap.size, 3, none⟩) (cell_lt o3)]; exact o3
    go_wp2_with fail
    refine (AB.out _).mono ?_
    rintro e' w' ⟨rfl, rfl⟩
    go_wp2_with fail
    refine (NG.out _).mono ?_
    rintro e' w' ⟨rfl, rfl⟩
    go_wp2_with fail
    refine (NG.out _).mono ?_
    rintro e' w' ⟨rfl, rfl⟩
    go_wp2_with fail
    refine (NN.out _).mono ?_
    rintro e' w' ⟨rfl, rfl⟩
    go_wp2_with fail
    refine (RO.out _ HB5.out _ _ rfl).mono ?_
    rintro e' w6 ⟨rfl, hB6⟩
    have q0 : w6.cell? ⟨w2.heap.size, 0, none⟩ = some (.bool false) := by rw [hB6.cell (p := ⟨w2.heap.size, 0, none⟩) (cell_lt o0)]; exact o0
    have q2 : w6.cell? ⟨w2.heap.size, 2, none⟩ = some (.int .u64 mm) := by rw [hB6.cell (p := ⟨w2.heap.size, 2, none⟩) (cell_lt o2)]; exact o2
    have q3 : w6.cell? ⟨w2.heap.size, 3, none⟩ = some (.int .i64 ((E : Int) - 1074)) := by rw [hB6.cell (p := ⟨w2.heap.size, 3, none⟩) (cell_lt o3)]; exact o3
    have q3a : (w6.alloc (.cells #[.int .u64 mm] 22)).cell? ⟨w2.heap.size, 3, none⟩ = some (.int .i64 ((E : Int) - 1074)) := by rw [(alloc_below w6 _).cell (p := ⟨w2.heap.size, 3, none⟩) (cell_lt q3)]; exact q3
    have HB6 := hid (HB5.out.trans (hB6.mono HB5.out.size))
    clear hB6
    go_wp2_with fail
    refine (RO.out _ HB6.out _ _ rfl).mono ?_
    rintro e' w7 ⟨rfl, hB7⟩
    have HB7 := hid (HB6.out.trans (hB7.mono HB6.out.size))
    clear hB7
    go_wp2_with fail
    go_ret
    exact ⟨by simp, HB7.out⟩
  · subst k1
    clear RS SB
    go_enter Tryd.func3, Tryd.ntmps3
    go_wp2_with fail
    refine AW.out.mono ?_
    rintro e' w1 ⟨rfl, hB⟩
    have HB := hid hB
    clear hB AW
    go_wp2_with fail
    refine (DE.out _).mono ?_
    rintro e' w2 ⟨rfl, hB2⟩
    have HB2 := hid (HB.out.trans (hB2.mono HB.out.size))
    clear hB2 DE
    go_wp2_with fail
    refine (EN.out _).mono ?_
    rintro e' w4 ⟨rfl, hB4⟩
    have p0 : w4.cell? ⟨w2.heap.size, 0, none⟩ = some (.bool false) := by rw [hB4.cell (p := ⟨w2.heap.size, 0, none⟩) (by simp)]; simp only [World.cell?, heap_alloc_new]; rfl
    have p1 : w4.cell? ⟨w2.heap.size, 1, none⟩ = some (.int .i64 3) := by rw [hB4.cell (p := ⟨w2.heap.size, 1, none⟩) (by simp)]; simp only [World.cell?, heap_alloc_new]; rfl
    have p2 : w4.cell? ⟨w2.heap.size, 2, none⟩ = some (.int .u64 0) := by rw [hB4.cell (p := ⟨w2.heap.size, 2, none⟩) (by simp)]; simp only [World.cell?, heap_alloc_new]; rfl
    have p3 : w4.cell? ⟨w2.heap.size, 3, none⟩ = some (.int .i64 0) := by rw [hB4.cell (p := ⟨w2.heap.size, 3, none⟩) (by simp)]; simp only [World.cell?, heap_alloc_new]; rfl
    have HB4 := hid ((Below.alloc HB2.out HB2.out.size _).trans (hB4.mono (Below.alloc HB2.out HB2.out.size _).size))
    clear hB4 EN
    go_wp2_with fail
    go_quiet ((go_at_call 10; with_reducible exact Calls.quiet_of_same (CL.out _)))
    rename_i nq
    have o0 : (w4.drewN nq).cell? ⟨w2.heap.size, 0, none⟩ = some (.bool false) := p0
    have o1 : (w4.drewN nq).cell? ⟨w2.heap.size, 1, none⟩ = some (.int .i64 3) := p1
    have o2 : (w4.drewN nq).cell? ⟨w2.heap.size, 2, none⟩ = some (.int .u64 0) := p2
    have o3 : (w4.drewN nq).cell? ⟨w2.heap.size, 3, none⟩ = some (.int .i64 0) := p3
    have HB5 := hid (below_drewN HB4.out nq)
    clear p0 p1 p2 p3
    generalize w4.drewN nq = w5 at *
    go_wp2_with fail
    refine (AB.out _).mono ?_
    rintro e' w' ⟨rfl, rfl⟩
    go_wp2_with fail
    refine (NG.out _).mono ?_
    rintro e' w' ⟨rfl, rfl⟩
    go_wp2_with fail
    refine (NG.out _).mono ?_
    rintro e' w' ⟨rfl, rfl⟩
    go_wp2_with fail
    refine (NN.out _).mono ?_
    rintro e' w' ⟨rfl, rfl⟩
    go_wp2_with fail
    go_ret
    exact ⟨by simp, HB5.out⟩
  · clear RS SB
    go_enter Tryd.func3, Tryd.ntmps3
    go_wp2_with fail
    refine AW.out.mono ?_
    rintro e' w1 ⟨rfl, hB⟩
    have HB := hid hB
    clear hB AW
    go_wp2_with fail
    refine (DE.out _).mono ?_
    rintro e' w2 ⟨rfl, hB2⟩
    have HB2 := hid (HB.out.trans (hB2.mono HB.out.size))
    clear hB2 DE
    go_wp2_with fail
    refine (EN.out _).mono ?_
    rintro e' w4 ⟨rfl, hB4⟩
    have p0 : w4.cell? ⟨w2.heap.size, 0, none⟩ = some (.bool false) := by rw [hB4.cell (p := ⟨w2.heap.size, 0, none⟩) (by simp)]; simp only [World.cell?, heap_alloc_new]; rfl
    have p1 : w4.cell? ⟨w2.heap.size, 1, none⟩ = some (.int .i64 4) := by rw [hB4.cell (p := ⟨w2.heap.size, 1, none⟩) (by simp)]; simp only [World.cell?, heap_alloc_new]; rfl
    have p2 : w4.cell? ⟨w2.heap.size, 2, none⟩ = some (.int .u64 (r - 9218868437227405312)) := by rw [hB4.cell (p := ⟨w2.heap.size, 2, none⟩) (by simp)]; simp only [World.cell?, heap_alloc_new]; rfl
    have p3 : w4.cell? ⟨w2.heap.size, 3, none⟩ = some (.int .i64 0) := by rw [hB4.cell (p := ⟨w2.heap.size, 3, none⟩) (by simp)]; simp only [World.cell?, heap_alloc_new]; rfl
    have HB4 := hid ((Below.alloc HB2.out HB2.out.size _).trans (hB4.mono (Below.alloc HB2.out HB2.out.size _).size))
    clear hB4 EN
    go_wp2_with fail
    go_quiet ((go_at_call 10; with_reducible exact Calls.quiet_of_same (CL.out _)))
    rename_i nq
    have o0 : (w4.drewN nq).cell? ⟨w2.heap.size, 0, none⟩ = some (.bool false) := p0
    have o1 : (w4.drewN nq).cell? ⟨w2.heap.size, 1, none⟩ = some (.int .i64 4) := p1
    have o2 : (w4.drewN nq).cell? ⟨w2.heap.size, 2, none⟩ = some (.int .u64 (r - 9218868437227405312)) := p2
    have o3 : (w4.drewN nq).cell? ⟨w2.heap.size, 3, none⟩ = some (.int .i64 0) := p3
    have HB5 := hid (below_drewN HB4.out nq)
    clear p0 p1 p2 p3
    generalize w4.drewN nq = w5 at *
    go_wp2_with fail
    refine (AB.out _).mono ?_
    rintro e' w' ⟨rfl, rfl⟩
    go_wp2_with fail
    refine (NG.out _).mono ?_
    rintro e' w' ⟨rfl, rfl⟩
    go_wp2_with fail
    refine (NG.out _).mono ?_
    rintro e' w' ⟨rfl, rfl⟩
    go_wp2_with fail
    refine (NN.out _).mono ?_
    rintro e' w' ⟨rfl, rfl⟩
    go_wp2_with fail
    go_ret
    exact ⟨by simp, HB5.out⟩
  · subst k1
    have RO := hid (RS.out true SB (by omega) (by omega) 0 0 (.inl ⟨rfl, rfl, rfl⟩))
    clear RS SB
    go_enter Tryd.func3, Tryd.ntmps3
    go_wp2_with fail
    refine AW.out.mono ?_
    rintro e' w1 ⟨rfl, hB⟩
    have HB := hid hB
    clear hB AW
    go_wp2_with fail
    refine (DE.out _).mono ?_
    rintro e' w2 ⟨rfl, hB2⟩
    have HB2 := hid (HB.out.trans (hB2.mono HB.out.size))
    clear hB2 DE
    go_wp2_with fail
    refine (EN.out _).mono ?_
    rintro e' w4 ⟨rfl, hB4⟩
    have p0 : w4.cell? ⟨w2.heap.size, 0, none⟩ = some (.bool true) := by rw [hB4.cell (p := ⟨w2.heap.size, 0, none⟩) (by simp)]; simp only [World.cell?, heap_alloc_new]; rfl
    have p1 : w4.cell? ⟨w2.heap.size, 1, none⟩ = some (.int .i64 0) := by rw [hB4.cell (p := ⟨w2.heap.size, 1, none⟩) (by simp)]; simp only [World.cell?, heap_alloc_new]; rfl
    have p2 : w4.cell? ⟨w2.heap.size, 2, none⟩ = some (.int .u64 0) := by rw [hB4.cell (p := ⟨w2.heap.size, 2, none⟩) (by simp)]; simp only [World.cell?, heap_alloc_new]; rfl
    have p3 : w4.cell? ⟨w2.heap.size, 3, none⟩ = some (.int .i64 0) := by rw [hB4.cell (p := ⟨w2.heap.size, 3, none⟩) (by simp)]; simp only [World.cell?, heap_alloc_new]; rfl
    have HB4 := hid ((Below.alloc HB2.out HB2.out.size _).trans (hB4.mono (Below.alloc HB2.out HB2.out.size _).size))
    clear hB4 EN
    go_wp2_with fail
    go_quiet ((go_at_call 10; with_reducible exact Calls.quiet_of_same (CL.out _)))
    rename_i nq
    have o0 : (w4.drewN nq).cell? ⟨w2.heap.size, 0, none⟩ = some (.bool true) := p0
    have o1 : (w4.drewN nq).cell? ⟨w2.heap.size, 1, none⟩ = some (.int .i64 0) := p1
    have o2 : (w4.drewN nq).cell? ⟨w2.heap.size, 2, none⟩ = some (.int .u64 0) := p2
    have o3 : (w4.drewN nq).cell? ⟨w2.heap.size, 3, none⟩ = some (.int .i64 0) := p3
    have HB5 := hid (below_drewN HB4.out nq)
    clear p0 p1 p2 p3
    generalize w4.drewN nq = w5 at *
    have o3a : (w5.alloc (.cells #[.int .u64 0] 22)).cell? ⟨w2.heap.size, 3, none⟩ = some (.int .i64 0) := by rw [(alloc_below w5 _).cell (p := ⟨w2.heap.size, 3, none⟩) (cell_lt o3)]; exact o3
    go_wp2_with fail
    refine (AB.out _).mono ?_
    rintro e' w' ⟨rfl, rfl⟩
    go_wp2_with fail
    refine (NG.out _).mono ?_
    rintro e' w' ⟨rfl, rfl⟩
    go_wp2_with fail
    refine (NG.out _).mono ?_
    rintro e' w' ⟨rfl, rfl⟩
    go_wp2_with fail
    refine (NN.out _).mono ?_
    rintro e' w' ⟨rfl, rfl⟩
    go_wp2_with fail
    refine (RO.out _ HB5.out _ _ rfl).mono ?_
    rintro e' w6 ⟨rfl, hB6⟩
    have q0 : w6.cell? ⟨w2.heap.size, 0, none⟩ = some (.bool true) := by rw [hB6.cell (p := ⟨w2.heap.size, 0, none⟩) (cell_lt o0)]; exact o0
    have q2 : w6.cell? ⟨w2.heap.size, 2, none⟩ = some (.int .u64 0) := by rw [hB6.cell (p := ⟨w2.heap.size, 2, none⟩) (cell_lt o2)]; exact o2
    have q3 : w6.cell? ⟨w2.heap.size, 3, none⟩ = some (.int .i64 0) := by rw [hB6.cell (p := ⟨w2.heap.size, 3, none⟩) (cell_lt o3)]; exact o3
    have q3a : (w6.alloc (.cells #[.int .u64 0] 22)).cell? ⟨w2.heap.size, 3, none⟩ = some (.int .i64 0) := by rw [(alloc_below w6 _).cell (p := ⟨w2.heap.size, 3, none⟩) (cell_lt q3)]; exact q3
    have HB6 := hid (HB5.out.trans (hB6.mono HB5.out.size))
    clear hB6
    go_wp2_with fail
    refine (RO.out _ HB6.out _ _ rfl).mono ?_
    rintro e' w7 ⟨rfl, hB7⟩
    have HB7 := hid (HB6.out.trans (hB7.mono HB6.out.size))
    clear hB7
    go_wp2_with fail
    go_ret
    exact ⟨by simp, HB7.out⟩
  · have RO := hid (RS.out true SB (by omega) (by omega) r (-1074) (.inr ⟨by rw [Ie.man, if_pos k2], by rw [Ie.ex]; omega⟩))
    clear RS SB
    go_enter Tryd.func3, Tryd.ntmps3
    go_wp2_with fail
    refine AW.out.mono ?_
    rintro e' w1 ⟨rfl, hB⟩
    have HB := hid hB
    clear hB AW
    go_wp2_with fail
    refine (DE.out _).mono ?_
    rintro e' w2 ⟨rfl, hB2⟩
    have HB2 := hid (HB.out.trans (hB2.mono HB.out.size))
    clear hB2 DE
    go_wp2_with fail
    refine (EN.out _).mono ?_
    rintro e' w4 ⟨rfl, hB4⟩
    have p0 : w4.cell? ⟨w2.heap.size, 0, none⟩ = some (.bool true) := by rw [hB4.cell (p := ⟨w2.heap.size, 0, none⟩) (by simp)]; simp only [World.cell?, heap_alloc_new]; rfl
    have p1 : w4.cell? ⟨w2.heap.size, 1, none⟩ = some (.int .i64 1) := by rw [hB4.cell (p := ⟨w2.heap.size, 1, none⟩) (by simp)]; simp only [World.cell?, heap_alloc_new]; rfl
    have p2 : w4.cell? ⟨w2.heap.size, 2, none⟩ = some (.int .u64 r) := by rw [hB4.cell (p := ⟨w2.heap.size, 2, none⟩) (by simp)]; simp only [World.cell?, heap_alloc_new]; rfl
    have p3 : w4.cell? ⟨w2.heap.size, 3, none⟩ = some (.int .i64 (-1074)) := by rw [hB4.cell (p := ⟨w2.heap.size, 3, none⟩) (by simp)]; simp only [World.cell?, heap_alloc_new]; rfl
    have HB4 := hid ((Below.alloc HB2.out HB2.out.size _).trans (hB4.mono (Below.alloc HB2.out HB2.out.size _).size))
    clear hB4 EN
    go_wp2_with fail
    go_quiet ((go_at_call 10; with_reducible exact Calls.quiet_of_same (CL.out _)))
    rename_i nq
    have o0 : (w4.drewN nq).cell? ⟨w2.heap.size, 0, none⟩ = some (.bool true) := p0
    have o1 : (w4.drewN nq).cell? ⟨w2.heap.size, 1, none⟩ = some (.int .i64 1) := p1
    have o2 : (w4.drewN nq).cell? ⟨w2.heap.size, 2, none⟩ = some (.int .u64 r) := p2
    have o3 : (w4.drewN nq).cell? ⟨w2.heap.size, 3, none⟩ = some (.int .i64 (-1074)) := p3
    have HB5 := hid (below_drewN HB4.out nq)
    clear p0 p1 p2 p3
    generalize w4.drewN nq = w5 at *
    have o3a : (w5.alloc (.cells #[.int .u64 r] 22)).cell? ⟨w2.heap.size, 3, none⟩ = some (.int .i64 (-1074)) := by rw [(alloc_below w5 _).cell (p := ⟨w2.heap.size, 3, none⟩) (cell_lt o3)]; exact o3
    go_wp2_with fail
    refine (AB.out _).mono ?_
    rintro e' w' ⟨rfl, rfl⟩
    go_wp2_with fail
    refine (NG.out _).mono ?_
    rintro e' w' ⟨rfl, rfl⟩
    go_wp2_with fail
    refine (NG.out _).mono ?_
    rintro e' w' ⟨rfl, rfl⟩
    go_wp2_with fail
    refine (NN.out _).mono ?_
    rintro e' w' ⟨rfl, rfl⟩
    go_wp2_with fail
    refine (RO.out _ HB5.out _ _ rfl).mono ?_
    rintro e' w6 ⟨rfl, hB6⟩
    have q0 : w6.cell? ⟨w2.heap.size, 0, none⟩ = some (.bool true) := by rw [hB6.cell (p := ⟨w2.heap.size, 0, none⟩) (cell_lt o0)]; exact o0
    have q2 : w6.cell? ⟨w2.heap.size, 2, none⟩ = some (.int .u64 r) := by rw [hB6.cell (p := ⟨w2.heap.size, 2, none⟩) (cell_lt o2)]; exact o2
    have q3 : w6.cell? ⟨w2.heap.size, 3, none⟩ = some (.int .i64 (-1074)) := by rw [hB6.cell (p := ⟨w2.heap.size, 3, none⟩) (cell_lt o3)]; exact o3
    have q3a : (w6.alloc (.cells #[.int .u64 r] 22)).cell? ⟨w2.heap.size, 3, none⟩ = some (.int .i64 (-1074)) := by rw [(alloc_below w6 _).cell (p := ⟨w2.heap.size, 3, none⟩) (cell_lt q3)]; exact q3
    have HB6 := hid (HB5.out.trans (hB6.mono HB5.out.size))
    clear hB6
    go_wp2_with fail
    refine (RO.out _ HB6.out _ _ rfl).mono ?_
    rintro e' w7 ⟨rfl, hB7⟩
    have HB7 := hid (HB6.out.trans (hB7.mono HB6.out.size))
    clear hB7
    go_wp2_with fail
    go_ret
    exact ⟨by simp, HB7.out⟩
  · have RO := hid (RS.out true SB (by omega) (by omega) _ _ (.inr ⟨rfl, rfl⟩))
    have mb : 4503599627370496 ≤ Ie.man r ∧ Ie.man r < 9007199254740992 := by rw [Ie.man, if_neg (by omega)]; omega
    have eb : (Ie.ex r : Int) ≤ 2045 := by simp only [Ie.ex]; omega
    generalize Ie.man r = mm at *
    generalize Ie.ex r = E at *
    obtain ⟨mb0, mb1⟩ := mb
    clear RS SB
    go_enter Tryd.func3, Tryd.ntmps3
    go_wp2_with fail
    refine AW.out.mono ?_
    rintro e' w1 ⟨rfl, hB⟩
    have HB := hid hB
    clear hB AW
    go_wp2_with fail
    refine (DE.out _).mono ?_
    rintro e' w2 ⟨rfl, hB2⟩
    have HB2 := hid (HB.out.trans (hB2.mono HB.out.size))
    clear hB2 DE
    go_wp2_with fail
    refine (EN.out _).mono ?_
    rintro e' w4 ⟨rfl, hB4⟩
    have p0 : w4.cell? ⟨w2.heap.size, 0, none⟩ = some (.bool true) := by rw [hB4.cell (p := ⟨w2.heap.size, 0, none⟩) (by simp)]; simp only [World.cell?, heap_alloc_new]; rfl
    have p1 : w4.cell? ⟨w2.heap.size, 1, none⟩ = some (.int .i64 2) := by rw [hB4.cell (p := ⟨w2.heap.size, 1, none⟩) (by simp)]; simp only [World.cell?, heap_alloc_new]; rfl
    have p2 : w4.cell? ⟨w2.heap.size, 2, none⟩ = some (.int .u64 mm) := by rw [hB4.cell (p := ⟨w2.heap.size, 2, none⟩) (by simp)]; simp only [World.cell?, heap_alloc_new]; rfl
    have p3 : w4.cell? ⟨w2.heap.size, 3, none⟩ = some (.int .i64 ((E : Int) - 1074)) := by rw [hB4.cell (p := ⟨w2.heap.size, 3, none⟩) (by simp)]; simp only [World.cell?, heap_alloc_new]; rfl
    have HB4 := hid ((Below.alloc HB2.out HB2.out.size _).trans (hB4.mono (Below.alloc HB2.out HB2.out.size _).size))
    clear hB4 EN
    go_wp2_with fail
    go_quiet ((go_at_call 10; with_reducible exact Calls.quiet_of_same (CL.out _)))
    rename_i nq
    have o0 : (w4.drewN nq).cell? ⟨w2.heap.size, 0, none⟩ = some (.bool true) := p0
    have o1 : (w4.drewN nq).cell? ⟨w2.heap.size, 1, none⟩ = some (.int .i64 2) := p1
    have o2 : (w4.drewN nq).cell? ⟨w2.heap.size, 2, none⟩ = some (.int .u64 mm) := p2
    have o3 : (w4.drewN nq).cell? ⟨w2.heap.size, 3, none⟩ = some (.int .i64 ((E : Int) - 1074)) := p3
    have HB5 := hid (below_drewN HB4.out nq)
    clear p0 p1 p2 p3
    generalize w4.drewN nq = w5 at *
    have o3a : (w5.alloc (.cells #[.int .u64 mm] 22)).cell? ⟨w2.heap.size, 3, none⟩ = some (.int .i64 ((E : Int) - 1074)) := by rw [(alloc_below w5 _).cell (p := ⟨w2.heap.size, 3, none⟩) (cell_lt o3)]; exact o3
    go_wp2_with fail
    refine (AB.out _).mono ?_
    rintro e' w' ⟨rfl, rfl⟩
    go_wp2_with fail
    refine (NG.out _).mono ?_
    rintro e' w' ⟨rfl, rfl⟩
    go_wp2_with fail
    refine (NG.out _).mono ?_
    rintro e' w' ⟨rfl, rfl⟩
    go_wp2_with fail
    refine (NN.out _).mono ?_
    rintro e' w' ⟨rfl, rfl⟩
    go_wp2_with fail
    refine (RO.out _ HB5.out _ _ rfl).mono ?_
    rintro e' w6 ⟨rfl, hB6⟩
    have q0 : w6.cell? ⟨w2.heap.size, 0, none⟩ = some (.bool true) := by rw [hB6.cell (p := ⟨w2.heap.size, 0, none⟩) (cell_lt o0)]; exact o0
    have q2 : w6.cell? ⟨w2.heap.size, 2, none⟩ = some (.int .u64 mm) := by rw [hB6.cell (p := ⟨w2.heap.size, 2, none⟩) (cell_lt o2)]; exact o2
    have q3 : w6.cell? ⟨w2.heap.size, 3, none⟩ = some (.int .i64 ((E : Int) - 1074)) := by rw [hB6.cell (p := ⟨w2.heap.size, 3, none⟩) (cell_lt o3)]; exact o3
    have q3a : (w6.alloc (.cells #[.int .u64 mm] 22)).cell? ⟨w2.heap.size, 3, none⟩ = some (.int .i64 ((E : Int) - 1074)) := by rw [(alloc_below w6 _).cell (p := ⟨w2.heap.size, 3, none⟩) (cell_lt q3)]; exact q3
    have HB6 := hid (HB5.out.trans (hB6.mono HB5.out.size))
    clear hB6
    go_wp2_with fail
    refine (RO.out _ HB6.out _ _ rfl).mono ?_
    rintro e' w7 ⟨rfl, hB7⟩
    have HB7 := hid (HB6.out.trans (hB7.mono HB6.out.size))
    clear hB7
    go_wp2_with fail
    go_ret
    exact ⟨by simp, HB7.out⟩
  · subst k1
    clear RS SB
    go_enter Tryd.func3, Tryd.ntmps3
    go_wp2_with fail
    refine AW.out.mono ?_
    rintro e' w1 ⟨rfl, hB⟩
    have HB := hid hB
    clear hB AW
    go_wp2_with fail
    refine (DE.out _).mono ?_
    rintro e' w2 ⟨rfl, hB2⟩
    have HB2 := hid (HB.out.trans (hB2.mono HB.out.size))
    clear hB2 DE
    go_wp2_with fail
    refine (EN.out _).mono ?_
    rintro e' w4 ⟨rfl, hB4⟩
    have p0 : w4.cell? ⟨w2.heap.size, 0, none⟩ = some (.bool true) := by rw [hB4.cell (p := ⟨w2.heap.size, 0, none⟩) (by simp)]; simp only [World.cell?, heap_alloc_new]; rfl
    have p1 : w4.cell? ⟨w2.heap.size, 1, none⟩ = some (.int .i64 3) := by rw [hB4.cell (p := ⟨w2.heap.size, 1, none⟩) (by simp)]; simp only [World.cell?, heap_alloc_new]; rfl
    have p2 : w4.cell? ⟨w2.heap.size, 2, none⟩ = some (.int .u64 0) := by rw [hB4.cell (p := ⟨w2.heap.size, 2, none⟩) (by simp)]; simp only [World.cell?, heap_alloc_new]; rfl
    have p3 : w4.cell? ⟨w2.heap.size, 3, none⟩ = some (.int .i64 0) := by rw [hB4.cell (p := ⟨w2.heap.size, 3, none⟩) (by simp)]; simp only [World.cell?, heap_alloc_new]; rfl
    have HB4 := hid ((Below.alloc HB2.out HB2.out.size _).trans (hB4.mono (Below.alloc HB2.out HB2.out.size _).size))
    clear hB4 EN
    go_wp2_with fail
    go_quiet ((go_at_call 10; with_reducible exact Calls.quiet_of_same (CL.out _)))
    rename_i nq
    have o0 : (w4.drewN nq).cell? ⟨w2.heap.size, 0, none⟩ = some (.bool true) := p0
    have o1 : (w4.drewN nq).cell? ⟨w2.heap.size, 1, none⟩ = some (.int .i64 3) := p1
    have o2 : (w4.drewN nq).cell? ⟨w2.heap.size, 2, none⟩ = some (.int .u64 0) := p2
    have o3 : (w4.drewN nq).cell? ⟨w2.heap.size, 3, none⟩ = some (.int .i64 0) := p3
    have HB5 := hid (below_drewN HB4.out nq)
    clear p0 p1 p2 p3
    generalize w4.drewN nq = w5 at *
    go_wp2_with fail
    refine (AB.out _).mono ?_
    rintro e' w' ⟨rfl, rfl⟩
    go_wp2_with fail
    refine (NG.out _).mono ?_
    rintro e' w' ⟨rfl, rfl⟩
    go_wp2_with fail
    refine (NG.out _).mono ?_
    rintro e' w' ⟨rfl, rfl⟩
    go_wp2_with fail
    refine (NN.out _).mono ?_
    rintro e' w' ⟨rfl, rfl⟩
    go_wp2_with fail
    go_ret
    exact ⟨by simp, HB5.out⟩
  · clear RS SB
    go_enter Tryd.func3, Tryd.ntmps3
    go_wp2_with fail
    refine AW.out.mono ?_
    rintro e' w1 ⟨rfl, hB⟩
    have HB := hid hB
    clear hB AW
    go_wp2_with fail
    refine (DE.out _).mono ?_
    rintro e' w2 ⟨rfl, hB2⟩
    have HB2 := hid (HB.out.trans (hB2.mono HB.out.size))
    clear hB2 DE
    go_wp2_with fail
    refine (EN.out _).mono ?_
    rintro e' w4 ⟨rfl, hB4⟩
    have p0 : w4.cell? ⟨w2.heap.size, 0, none⟩ = some (.bool true) := by rw [hB4.cell (p := ⟨w2.heap.size, 0, none⟩) (by simp)]; simp only [World.cell?, heap_alloc_new]; rfl
    have p1 : w4.cell? ⟨w2.heap.size, 1, none⟩ = some (.int .i64 4) := by rw [hB4.cell (p := ⟨w2.heap.size, 1, none⟩) (by simp)]; simp only [World.cell?, heap_alloc_new]; rfl
    have p2 : w4.cell? ⟨w2.heap.size, 2, none⟩ = some (.int .u64 (r - 9218868437227405312)) := by rw [hB4.cell (p := ⟨w2.heap.size, 2, none⟩) (by simp)]; simp only [World.cell?, heap_alloc_new]; rfl
    have p3 : w4.cell? ⟨w2.heap.size, 3, none⟩ = some (.int .i64 0) := by rw [hB4.cell (p := ⟨w2.heap.size, 3, none⟩) (by simp)]; simp only [World.cell?, heap_alloc_new]; rfl
    have HB4 := hid ((Below.alloc HB2.out HB2.out.size _).trans (hB4.mono (Below.alloc HB2.out HB2.out.size _).size))
    clear hB4 EN
    go_wp2_with fail
    go_quiet ((go_at_call 10; with_reducible exact Calls.quiet_of_same (CL.out _)))
    rename_i nq
    have o0 : (w4.drewN nq).cell? ⟨w2.heap.size, 0, none⟩ = some (.bool true) := p0
    have o1 : (w4.drewN nq).cell? ⟨w2.heap.size, 1, none⟩ = some (.int .i64 4) := p1
    have o2 : (w4.drewN nq).cell? ⟨w2.heap.size, 2, none⟩ = some (.int .u64 (r - 9218868437227405312)) := p2
    have o3 : (w4.drewN nq).cell? ⟨w2.heap.size, 3, none⟩ = some (.int .i64 0) := p3
    have HB5 := hid (below_drewN HB4.out nq)
    clear p0 p1 p2 p3
    generalize w4.drewN nq = w5 at *
    go_wp2_with fail
    refine (AB.out _).mono ?_
    rintro e' w' ⟨rfl, rfl⟩
    go_wp2_with fail
    refine (NG.out _).mono ?_
    rintro e' w' ⟨rfl, rfl⟩
    go_wp2_with fail
    refine (NG.out _).mono ?_
    rintro e' w' ⟨rfl, rfl⟩
    go_wp2_with fail
    refine (NN.out _).mono ?_
    rintro e' w' ⟨rfl, rfl⟩
    go_wp2_with fail
    go_ret
    exact ⟨by simp, HB5.out⟩
end Go.Proofs.YtpnjafacoeinnaaDoor
