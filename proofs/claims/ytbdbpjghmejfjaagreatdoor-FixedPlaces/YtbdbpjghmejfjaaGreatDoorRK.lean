/-
  Texts put together: FPlacesL, FTab.
-/
import Derived.Test.YtbdbpjghmejfjaaGreatDoorRJ
import Derived.Deep.RegionHeld3
import Derived.Test.YtbdbpjghmejfjaaGreatDoorRD
import Derived.Lib.LaidTab
namespace Go.Proofs.YtbdbpjghmejfjaaGreatDoor
open Go Go.RowKit Go.Deep

set_option maxRecDepth 100000 in
set_option maxHeartbeats 2000000 in
theorem lplaces_any (d n : Int) (w : World) (hT : Tab w) (h0 : 0 ≤ d) (h1 : d < 18446744073709551616) (n0 : -9223372036854775808 ≤ n) (n1 : n ≤ 9223372036854775807) :
    Calls Tryz.prog 7 #[.int .u64 d, .int .i64 n] w fun e w' => e = .returned (.bool true) ∧ Below w.heap.size w w' := by
  have RA := hid (rplaces_any d n w h0 h1 n0 n1)
  have FA : Hid (∀ wx : World, Below w.heap.size w wx → Calls Tryz.prog 9 #[.int .u64 d, .int .i64 n] wx fun e w' => PlacesTold d n wx e w') := fun wx hB => places_any d n wx (hT.below hB) h0 h1
  have EA : Hid (∀ (s t : ByteArray), Str s (Fx.pA d n) → Str t (Fx.pA d n) → t = s) := fun s t h g => g.inj h
  have EB : Hid (∀ (s t : ByteArray), Str s (Fx.pB d n) → Str t (Fx.pB d n) → t = s) := fun s t h g => g.inj h
  unfold PlacesTold at RA FA
  generalize Fx.pA d n = A at *
  generalize Fx.pB d n = B at *
  generalize Fx.rf d n 0 = R at *
  clear hT h0 h1 n0 n1
  go_enter Tryz.func7, Tryz.ntmps7
  go_wp2_with fail
  refine RA.out.mono ?_
  rintro e w1 ⟨s, t, rfl, hs, ht, B1⟩
  have HS := hid (And.intro hs ht)
  have F1 := hid (FA.out w1 B1)
  have HB1 := hid B1
  clear hs ht B1 FA RA
  go_wp2_with fail
  refine F1.out.mono ?_
  rintro e w2 ⟨s2, t2, rfl, hs2, ht2, B2⟩
  obtain rfl := EA.out s s2 HS.out.1 hs2
  obtain rfl := EB.out t t2 HS.out.2 ht2
  have HB2 := hid (HB1.out.trans (B2.mono HB1.out.size))
  clear hs2 ht2 B2 F1 HB1 EA EB HS
  go_wp2_with fail
  go_ret
  exact ⟨by simp, HB2.out⟩

set_option maxRecDepth 100000 in
set_option maxHeartbeats 2000000 in
theorem lfigures_any (d n : Int) (w : World) (hT : Tab w) (h0 : 0 ≤ d) (h1 : d < 18446744073709551616) (n0 : -9223372036854775808 ≤ n) (n1 : n ≤ 9223372036854775807) :
    Calls Tryz.prog 8 #[.int .u64 d, .int .i64 n] w fun e w' => e = .returned (.bool true) ∧ Below w.heap.size w w' := by
  have RA := hid (rfigures_any d n w h0 h1 n0 n1)
  have FA : Hid (∀ wx : World, Below w.heap.size w wx → Calls Tryz.prog 19 #[.int .u64 d, .int .i64 n] wx fun e w' => FiguresTold d n wx e w') := fun wx hB => figures_any d n wx (hT.below hB) h0 h1
  have EA : Hid (∀ (s t : ByteArray), Str s (Fx.gS d n) → Str t (Fx.gS d n) → t = s) := fun s t h g => g.inj h
  unfold FiguresTold at RA FA
  generalize Fx.gS d n = A at *
  generalize Fx.gK d n = K at *
  generalize Fx.rf d n 1 = R at *
  clear hT h0 h1 n0 n1
  go_enter Tryz.func8, Tryz.ntmps8
  go_wp2_with fail
  refine RA.out.mono ?_
  rintro e w1 ⟨s, rfl, hs, B1⟩
  have HS := hid hs
  have F1 := hid (FA.out w1 B1)
  have HB1 := hid B1
  clear hs B1 FA RA
  go_wp2_with fail
  refine F1.out.mono ?_
  rintro e w2 ⟨s2, rfl, hs2, B2⟩
  obtain rfl := EA.out s s2 HS.out hs2
  have HB2 := hid (HB1.out.trans (B2.mono HB1.out.size))
  clear hs2 B2 F1 HB1 EA HS
  go_wp2_with fail
  go_ret
  exact ⟨by simp, HB2.out⟩

set_option maxRecDepth 100000 in
set_option maxHeartbeats 4000000 in
theorem places_law (a : Option Addr) (len cap : Nat) (its : List Ak) (w : World) (hl : its.length = len) (hc : len ≤ cap) (hm : cap ≤ 17592186044416) (hh : Ak.Holds w a its) (hb : ∀ it ∈ its, Ak.Bd it) (hT : Tab w) :
    Calls Tryz.prog 3 #[.slice a len cap] w fun e w' => e = .returned (.bool true) ∧ Below w.heap.size w w' := by
  have PL : Hid (∀ (d n : Int) (wx : World), Below w.heap.size w wx → 0 ≤ d → d < 18446744073709551616 → -9223372036854775808 ≤ n → n ≤ 9223372036854775807 → Calls Tryz.prog 7 #[.int .u64 d, .int .i64 n] wx fun e w' => e = .returned (.bool true) ∧ Below wx.heap.size wx w') := fun d n wx hB a b c e => lplaces_any d n wx (hT.below hB) a b c e
  have FG : Hid (∀ (d n : Int) (wx : World), Below w.heap.size w wx → 0 ≤ d → d < 18446744073709551616 → -9223372036854775808 ≤ n → n ≤ 9223372036854775807 → Calls Tryz.prog 8 #[.int .u64 d, .int .i64 n] wx fun e w' => e = .returned (.bool true) ∧ Below wx.heap.size wx w') := fun d n wx hB a b c e => lfigures_any d n wx (hT.below hB) a b c e
  have GT : Hid (∀ i, i < len → ∃ b off A N, a = some ⟨b, off, none⟩ ∧ 0 ≤ A ∧ A < 18446744073709551616 ∧ -9223372036854775808 ≤ N ∧ N ≤ 9223372036854775807 ∧ ∀ wx : World, Below w.heap.size w wx → wx.cell? ⟨b, off + i * 2, none⟩ = some (.int .u64 A) ∧ wx.cell? ⟨b, off + i * 2 + 1, none⟩ = some (.int .i64 N)) := by
    intro i hi
    have he : its[i]? = some its[i] := List.getElem?_eq_getElem (by omega)
    rcases hh with c | ⟨b, off, e, h⟩
    · rw [c] at hl; simp at hl; omega
    · have hc2 := h i _ he
      have hbd := hb _ (List.getElem_mem (show i < its.length by omega))
      exact ⟨b, off, its[i].A, its[i].B, e, hbd.1.1, hbd.1.2, hbd.2.1, hbd.2.2, fun wx hB => ⟨by rw [hB.cell (p := ⟨b, off + i * 2, none⟩) (cell_lt hc2.1)]; exact hc2.1, by rw [hB.cell (p := ⟨b, off + i * 2 + 1, none⟩) (cell_lt hc2.2)]; exact hc2.2⟩⟩
  have A0 := hid (PL.out 4593671619917905920 2 w (Below.refl _ _) (by omega) (by omega) (by omega) (by omega))
  have A1 : Hid (∀ wx : World, Below w.heap.size w wx → Calls Tryz.prog 7 #[.int .u64 4636702106982547456, .int .i64 0] wx fun e w' => e = .returned (.bool true) ∧ Below wx.heap.size wx w') := fun wx hB => PL.out 4636702106982547456 0 wx hB (by omega) (by omega) (by omega) (by omega)
  have A2 : Hid (∀ wx : World, Below w.heap.size w wx → Calls Tryz.prog 8 #[.int .u64 4652002910794678272, .int .i64 3] wx fun e w' => e = .returned (.bool true) ∧ Below wx.heap.size wx w') := fun wx hB => FG.out 4652002910794678272 3 wx hB (by omega) (by omega) (by omega) (by omega)
  have A3 : Hid (∀ wx : World, Below w.heap.size w wx → Calls Tryz.prog 8 #[.int .u64 4620974692658839552, .int .i64 1] wx fun e w' => e = .returned (.bool true) ∧ Below wx.heap.size wx w') := fun wx hB => FG.out 4620974692658839552 1 wx hB (by omega) (by omega) (by omega) (by omega)
  have lb : (len : Int) ≤ 17592186044416 := by omega
  clear hh hb hT hl
  go_enter Tryz.func3, Tryz.ntmps3
  go_wp2_with fail
  refine A0.out.mono ?_
  rintro e w1 ⟨rfl, B1⟩
  have HB1 := hid B1
  clear B1 A0
  go_wp2_with fail
  refine (A1.out _ HB1.out).mono ?_
  rintro e w2 ⟨rfl, B2⟩
  have HB2 := hid (HB1.out.trans (B2.mono HB1.out.size))
  clear B2 A1 HB1
  go_wp2_with fail
  refine (A2.out _ HB2.out).mono ?_
  rintro e w3 ⟨rfl, B3⟩
  have HB3 := hid (HB2.out.trans (B3.mono HB2.out.size))
  clear B3 A2 HB2
  go_wp2_with fail
  refine (A3.out _ HB3.out).mono ?_
  rintro e w4 ⟨rfl, B4⟩
  have HB4 := hid (HB3.out.trans (B4.mono HB3.out.size))
  clear B4 A3 HB3
  go_wp2_with fail
  go_loopg [3] len (fun j i wr => ∃ k : Nat, k + j = len ∧ i = .int .i64 (k : Int) ∧ Hid (Below w.heap.size w wr))
  case atStart => exact ⟨0, by omega, rfl, HB4.out⟩
  case round =>
    obtain ⟨k, hk, rfl, I⟩ := hrel
    cases gk with
    | zero =>
      have hki : ¬ (k : Int) < (len : Int) := by omega
      go_wp2_with fail
      go_ret
      exact ⟨rfl, I.out⟩
    | succ u =>
      have hki : (k : Int) < (len : Int) := by omega
      have hk0 : (0 : Int) ≤ (k : Int) := by omega
      obtain ⟨b, off, A, N, ha, a0, a1, c0, c1, hcell⟩ := GT.out k (by omega)
      subst ha
      have HC := hid hcell
      have P1 : Hid (∀ wx : World, Below w.heap.size w wx → Calls Tryz.prog 7 #[.int .u64 A, .int .i64 N] wx fun e w' => e = .returned (.bool true) ∧ Below wx.heap.size wx w') := fun wx hB => PL.out A N wx hB a0 a1 c0 c1
      have P2 : Hid (∀ wx : World, Below w.heap.size w wx → Calls Tryz.prog 8 #[.int .u64 A, .int .i64 N] wx fun e w' => e = .returned (.bool true) ∧ Below wx.heap.size wx w') := fun wx hB => FG.out A N wx hB a0 a1 c0 c1
      have T1 := hid (I.out.trans ((drew_nil wr).mono I.out.size))
      obtain ⟨q0, q1⟩ := HC.out wr I.out
      clear hcell
      go_upto_region 6 with fail
      go_region_held3 (fun w' => w'.cell? ⟨b, off + k * 2, none⟩ = some (.int .u64 A) ∧ w'.cell? ⟨b, off + k * 2 + 1, none⟩ = some (.int .i64 N)) (first | (with_reducible exact HC.out _ T3.out) | (with_reducible exact HC.out _ T2.out) | (with_reducible exact HC.out _ T1.out)) (first
        | (go_at_call 7; refine (P1.out _ T1.out).mono ?_; rintro e w5 ⟨rfl, hB⟩; have T2 := hid (T1.out.trans (hB.mono T1.out.size)); clear hB)
        | (go_at_call 8; refine (P2.out _ T2.out).mono ?_; rintro e w6 ⟨rfl, hB⟩; have T3 := hid (T2.out.trans (hB.mono T2.out.size)); clear hB))
      all_goals
        go_wp2_with fail
        go_roundg u
        case measure => omega
        case rel => exact ⟨k + 1, by omega, by go_num, T3.out⟩
end Go.Proofs.YtbdbpjghmejfjaaGreatDoor

namespace Go.Proofs.YtbdbpjghmejfjaaGreatDoor
open Go Go.RowKit Go.Deep

theorem tab_laid : (Rows.laid_math_bits_deBruijn64tab : DataW Unit) = Lib.tabData .u8 (List.map Int.ofNat Lib.deBruijn64tab) := by kernel_rfl

theorem tab_of {W : World} {rest : List (String × DataW Unit)} (h : laidMet Tryz.prog (("math/bits.deBruijn64tab", Rows.laid_math_bits_deBruijn64tab) :: rest) W) : Tab W := by
  rw [tab_laid] at h
  have ht := Lib.tabIs_of_head (g := 0) (t := 99) (e := 5) (n := 64) (k := .u8) (zs := List.map Int.ofNat Lib.deBruijn64tab) (by kernel_rfl) (by kernel_rfl) Tryz.underlying99 Tryz.underlying5 (by kernel_rfl) (by kernel_rfl) h
  intro j hj
  have hl : (List.map Int.ofNat Lib.deBruijn64tab).length = Lib.deBruijn64tab.length := by simp
  rw [ht.cell (g := 0) (by kernel_rfl) j (by omega)]
  simp [List.getD, hj]

end Go.Proofs.YtbdbpjghmejfjaaGreatDoor
