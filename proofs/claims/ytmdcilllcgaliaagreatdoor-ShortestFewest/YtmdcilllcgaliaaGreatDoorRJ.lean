/-
  Texts put together: LFew, FTab, LTab.
-/
import Derived.Test.YtmdcilllcgaliaaGreatDoorRH
import Derived.Test.YtmdcilllcgaliaaGreatDoorRI
import Derived.Test.YtmdcilllcgaliaaGreatDoorRD
import Derived.Lib.LaidTab
import Derived.Test.YtmdcilllcgaliaaGreatDoorRE
namespace Go.Proofs.YtmdcilllcgaliaaGreatDoor
open Go Go.RowKit Go.Deep

theorem Sh.sg_mod {neg : Bool} {y : Int} (h0 : 0 ≤ y) (h1 : y ≤ 9218868437227405312) : Ie.sg neg y % 9223372036854775808 = y := by
  cases neg <;> simp [Ie.sg] <;> omega

set_option maxRecDepth 100000 in
set_option maxHeartbeats 4000000 in
theorem fewest_law (d : Int) (s : ByteArray) (xs : List Int) (e : Int) (w : World) (hT : Tab w) (hT10 : Tab10 w) (h0 : 0 ≤ d) (h1 : d < 18446744073709551616) (hs : Str s xs) (hn : xs.length ≤ 140737488355328) :
    Calls Tryz.prog 5 #[.int .u64 d, .string s, .int .i64 e] w fun r w' => r = .returned (.bool true) ∧ Below w.heap.size w w' := by
  have AW := hid (lawake_any w hT10)
  have DG : Hid (∀ wx : World, Below w.heap.size w wx → Calls Tryz.prog 11 #[.int .u64 d] wx fun e w' => ∃ t, e = .returned (.tuple #[.agg #[.bool (Sh.zD d).neg, .string t, .int .i64 (Sh.zD d).e], .int .i64 (Sh.zR d)]) ∧ Hid (Str t (Sh.zD d).ds) ∧ Below wx.heap.size wx w') := fun wx h => zdig_any d wx h0 h1 (tab10_below hT10 h)
  have LD := hid (fun wx : World => ldigits_any s xs wx hs (by omega))
  have LF := hid (fun wx : World => lfinite_any d wx h0)
  have hsz := hs.size
  have nb : (xs.length : Int) ≤ 140737488355328 := by omega
  have fi := @Sh.fnt_iff d
  have EM : d.tmod 9223372036854775808 = d % 9223372036854775808 := Int.tmod_eq_emod_of_nonneg h0
  obtain ⟨a, ha⟩ : ∃ a, d % 9223372036854775808 = a := ⟨_, rfl⟩
  have a0 : 0 ≤ a := by omega
  rw [ha] at LF fi EM
  by_cases hf : a < 9218868437227405312
  · have zr : Sh.zR d = 0 := by rw [Sh.zR, fi, if_pos (decide_eq_true hf)]
    have zd : (Sh.zD d).ds = (Sh.dd (Sh.dgt a)).ds := by rw [Sh.zD, fi, if_pos (decide_eq_true hf), ha]
    rw [decide_eq_true hf] at LF
    rw [zr] at DG
    obtain ⟨y, hy⟩ := dr_ex xs e
    obtain ⟨neg, hneg⟩ : ∃ neg, decide (9223372036854775808 ≤ d) = neg := ⟨_, rfl⟩
    have EX : Hid (∀ wx : World, Below w.heap.size w wx → Calls Tryz.prog 14 #[.agg #[.bool neg, .string s, .int .i64 e]] wx fun r w' => r = .returned (.tuple #[.int .u64 (if Sc.IsDec xs e then Ie.sg neg y else 0), .int .i64 (errOf xs e)]) ∧ Below wx.heap.size wx w') := fun wx h => exact_bare10 neg s xs e y wx (hT.below h) hs (by omega) hy
    have MAIN : Hid (0 < a → Fx.Nml xs → xs.length ≤ 17 → Ie.sg neg y = d → (Sh.zD d).ds.length ≤ xs.length) := by
      intro ap nm l17 hyd
      have yb := hy.bd
      have ya : y = a := by rw [← ha, ← hyd]; exact (Sh.sg_mod yb.1 yb.2).symm
      subst ya
      rcases Nat.lt_or_ge xs.length (Sh.zD d).ds.length with c | c
      · exfalso
        rw [zd] at c
        have hv := (dv_bd nm.digs)
        have l1 := List.length_pos_iff.2 nm.ne
        have hy' : Ie.Rnd (dv xs * 10 ^ e.toNat) (10 ^ (-e).toNat) 0 false y := by rw [dw_dv]; exact hy
        have q := Sh.near_in ap hf (Int.lt_of_lt_of_le hv.2 (Fx.p_le l17)) hy'
        have q2 := Sh.few_none (c := dv xs) (m := xs.length) (s := (e + 1075).toNat) ap l1 hv.2 c
        rw [q.2] at q2
        exact absurd q2 (by decide)
      · exact c
    generalize hXD : Sh.zD d = XD at *
    generalize hgs : Ie.sg neg y = g at *
    clear hy fi hXD zd zr hgs hT hT10
    by_cases hz : a = 0
    · have bz : (a == 0) = true := by simpa using hz
      subst hz
      clear EX MAIN hf a0 ha h1
      go_enter Tryz.func5, Tryz.ntmps5
      go_wp2_with fail
      refine AW.out.mono ?_
      rintro e w1 ⟨rfl, hB⟩
      have HB1 := hid hB
      have D1 := hid (DG.out _ hB)
      clear hB AW DG
      go_wp2_with fail
      refine D1.out.mono ?_
      rintro e w2 ⟨t, rfl, HTx, hB⟩
      have aX := alloc_b w2 (.cells #[.bool XD.neg, .string t, .int .i64 XD.e] 28)
      have HB2 := hid (HB1.out.trans ((hB.trans (aX.mono hB.size)).mono HB1.out.size))
      have RX := hid (FR3.new w2 (.bool XD.neg) (.string t) (.int .i64 XD.e))
      clear hB D1 HB1 aX
      go_wp2_with fail
      refine (LD.out _).mono ?_
      rintro e wz ⟨r, rfl, hr, hz⟩
      subst hz
      have HR := hid hr
      clear hr LD
      go_wp2_with fail
      refine (LF.out _).mono ?_
      rintro e wz ⟨rfl, hz⟩
      subst hz
      go_wp2_with fail
      refine (LF.out _).mono ?_
      rintro e wz ⟨rfl, hz⟩
      subst hz
      go_wp2_with fail
      go_ret
      exact ⟨rfl, HB2.out⟩
    · have bz : (a == 0) = false := by rw [beq_eq_false_iff_ne]; exact hz
      have ap : 0 < a := by omega
      go_enter Tryz.func5, Tryz.ntmps5
      go_wp2_with fail
      refine AW.out.mono ?_
      rintro e w1 ⟨rfl, hB⟩
      have HB1 := hid hB
      have D1 := hid (DG.out _ hB)
      clear hB AW DG
      go_wp2_with fail
      refine D1.out.mono ?_
      rintro e w2 ⟨t, rfl, HTx, hB⟩
      have aX := alloc_b w2 (.cells #[.bool XD.neg, .string t, .int .i64 XD.e] 28)
      have HB2 := hid (HB1.out.trans ((hB.trans (aX.mono hB.size)).mono HB1.out.size))
      have RX := hid (FR3.new w2 (.bool XD.neg) (.string t) (.int .i64 XD.e))
      clear hB D1 HB1 aX
      go_wp2_with fail
      refine (LD.out _).mono ?_
      rintro e wz ⟨r, rfl, hr, hz⟩
      subst hz
      have HR := hid hr
      clear hr LD
      cases r
      · clear EX MAIN HR
        go_wp2_with fail
        refine (LF.out _).mono ?_
        rintro e wz ⟨rfl, hz⟩
        subst hz
        go_wp2_with fail
        refine (LF.out _).mono ?_
        rintro e wz ⟨rfl, hz⟩
        subst hz
        go_wp2_with fail
        go_ret
        exact ⟨rfl, HB2.out⟩
      · have M2 := hid (MAIN.out ap (HR.out rfl))
        clear MAIN HR
        by_cases l17 : xs.length ≤ 17
        · have l17' : ¬ (17 : Int) < (xs.length : Int) := by omega
          have M3 := hid (M2.out l17)
          have EX2 := hid (EX.out _ HB2.out)
          clear M2 l17
          go_wp2_with fail
          refine (LF.out _).mono ?_
          rintro e wz ⟨rfl, hz⟩
          subst hz
          go_wp2_with fail
          by_cases hd : Sc.IsDec xs e
          · have E1 : errOf xs e = 0 := by rw [errOf, if_pos hd]
            rw [if_pos hd, E1] at EX2
            refine EX2.out.mono ?_
            rintro e' w3 ⟨rfl, hB⟩
            have HB3 := hid (HB2.out.trans (hB.mono HB2.out.size))
            obtain ⟨⟨-, c1, -⟩, -⟩ := (RX.out.below hB RX.out.lt).cells
            have tsz := HTx.out.size
            by_cases hg : g = d
            · have b1 : (g == d) = true := by simpa using hg
              have b2 : (g != d) = false := by simp [hg]
              have len : (XD.ds.length : Int) ≤ (xs.length : Int) := by have := M3.out hg; omega
              clear hB EX2 EX M3 hd E1 HTx RX hg
              go_wp2_with fail
              go_ret
              exact ⟨rfl, HB3.out⟩
            · have b1 : (g == d) = false := by rw [beq_eq_false_iff_ne]; exact hg
              have b2 : (g != d) = true := by simp [hg]
              clear hB EX2 EX M3 hd E1 HTx RX hg
              go_wp2_with fail
              go_ret
              exact ⟨rfl, HB3.out⟩
          · have E1 : errOf xs e = 80 := by rw [errOf, if_neg hd]
            rw [if_neg hd, E1] at EX2
            refine EX2.out.mono ?_
            rintro e' w3 ⟨rfl, hB⟩
            have HB3 := hid (HB2.out.trans (hB.mono HB2.out.size))
            clear hB EX2 EX M3 hd E1 HTx RX
            go_wp2_with fail
            go_ret
            exact ⟨rfl, HB3.out⟩
        · have l17' : (17 : Int) < (xs.length : Int) := by omega
          clear M2 l17 EX
          go_wp2_with fail
          refine (LF.out _).mono ?_
          rintro e wz ⟨rfl, hz⟩
          subst hz
          go_wp2_with fail
          refine (LF.out _).mono ?_
          rintro e wz ⟨rfl, hz⟩
          subst hz
          go_wp2_with fail
          go_ret
          exact ⟨rfl, HB2.out⟩
  · have zr : Sh.zR d = 5 := by rw [Sh.zR, fi, if_neg (by rw [decide_eq_false hf]; decide)]
    rw [decide_eq_false hf] at LF
    rw [zr] at DG
    generalize Sh.zD d = XD at *
    clear zr fi hT hT10 hf
    go_enter Tryz.func5, Tryz.ntmps5
    go_wp2_with fail
    refine AW.out.mono ?_
    rintro e w1 ⟨rfl, hB⟩
    have HB1 := hid hB
    have D1 := hid (DG.out _ hB)
    clear hB AW DG
    go_wp2_with fail
    refine D1.out.mono ?_
    rintro e w2 ⟨t, rfl, HTx, hB⟩
    have aX := alloc_b w2 (.cells #[.bool XD.neg, .string t, .int .i64 XD.e] 28)
    have HB2 := hid (HB1.out.trans ((hB.trans (aX.mono hB.size)).mono HB1.out.size))
    have RX := hid (FR3.new w2 (.bool XD.neg) (.string t) (.int .i64 XD.e))
    clear hB D1 HB1 aX
    go_wp2_with fail
    refine (LD.out _).mono ?_
    rintro e wz ⟨r, rfl, hr, hz⟩
    subst hz
    have HR := hid hr
    clear hr LD
    go_wp2_with fail
    refine (LF.out _).mono ?_
    rintro e wz ⟨rfl, hz⟩
    subst hz
    go_wp2_with fail
    refine (LF.out _).mono ?_
    rintro e wz ⟨rfl, hz⟩
    subst hz
    go_wp2_with fail
    go_ret
    exact ⟨rfl, HB2.out⟩
end Go.Proofs.YtmdcilllcgaliaaGreatDoor

namespace Go.Proofs.YtmdcilllcgaliaaGreatDoor
open Go Go.RowKit Go.Deep

theorem tab_laid : (Rows.laid_math_bits_deBruijn64tab : DataW Unit) = Lib.tabData .u8 (List.map Int.ofNat Lib.deBruijn64tab) := by kernel_rfl

theorem tab_of {W : World} {rest : List (String × DataW Unit)} (h : laidMet Tryz.prog (("math/bits.deBruijn64tab", Rows.laid_math_bits_deBruijn64tab) :: rest) W) : Tab W := by
  rw [tab_laid] at h
  have ht := Lib.tabIs_of_head (g := 0) (t := 128) (e := 5) (n := 64) (k := .u8) (zs := List.map Int.ofNat Lib.deBruijn64tab) (by kernel_rfl) (by kernel_rfl) Tryz.underlying128 Tryz.underlying5 (by kernel_rfl) (by kernel_rfl) h
  intro j hj
  have hl : (List.map Int.ofNat Lib.deBruijn64tab).length = Lib.deBruijn64tab.length := by simp
  rw [ht.cell (g := 0) (by kernel_rfl) j (by omega)]
  simp [List.getD, hj]

end Go.Proofs.YtmdcilllcgaliaaGreatDoor

namespace Go.Proofs.YtmdcilllcgaliaaGreatDoor
open Go Go.RowKit Go.Deep

theorem laid_tail12 {P : Program} {W : World} {x : String × DataW Unit} {rest : List (String × DataW Unit)} (h : laidMet P (x :: rest) W) : laidMet P rest W := by
  obtain ⟨ps, ⟨g, t, cs, fuel, p, q, _, _, _, _, hr, rfl⟩, hn, hc⟩ := h
  exact ⟨q, hr, (List.nodup_append.1 hn).2.1, fun b off hm => hc b off (List.mem_append_right _ hm)⟩

theorem pow_laid12 : (Rows.laid_internal_strconv_uint64pow10 : DataW Unit) = Lib.tabData .u64 Lib.pow10Tab := by kernel_rfl

theorem tables12 {W : World} {a : String × DataW Unit} {rest : List (String × DataW Unit)} (h : laidMet Tryz.prog (a :: ("math/bits.deBruijn64tab", Rows.laid_math_bits_deBruijn64tab) :: ("internal/strconv.uint64pow10", Rows.laid_internal_strconv_uint64pow10) :: rest) W) : Tab W ∧ Tab10 W := by
  have h1 := laid_tail12 h
  have h2 := laid_tail12 h1
  rw [pow_laid12] at h2
  exact ⟨tab_of h1, Lib.tabIs_of_head (g := 3) (t := 195) (e := 25) (n := 20) (by kernel_rfl) (by kernel_rfl) Tryz.underlying195 Tryz.underlying25 (by kernel_rfl) (by kernel_rfl) h2⟩
end Go.Proofs.YtmdcilllcgaliaaGreatDoor
