/-
  Texts put together: PoAll, FTab, LTab, PoCase.
-/
import Derived.Test.YtaoaniigbooihaaGreatDoorRJ
import Derived.Test.YtaoaniigbooihaaGreatDoorTrailW
import Derived.Lib.LaidTab
import Derived.Test.YtaoaniigbooihaaGreatDoorRF
import Derived.Test.YtaoaniigbooihaaGreatDoorRows
import Derived.Lib.LaidCaseMet
import Derived.Deep.DeepWitnessRowRef
namespace Go.Proofs.YtaoaniigbooihaaGreatDoor
open Go Go.RowKit Go.Deep Go.Shelf

def Row6 (w : World) (b : Nat) (K V F W P d : Int) : Prop := w.heap[b]? = some (.cells #[.int .i64 K, .int .u8 V, .int .i64 F, .int .i64 W, .int .i64 P, .int .u64 d] 28 (0, 0))
/-- A call in its box. -/
def OB (w wx : World) (K V F W P d : Int) : Prop := Below w.heap.size w wx ∧ Row6 wx w.heap.size K V F W P d
theorem Row6.lt {w : World} {b : Nat} {K V F W P d : Int} (h : Row6 w b K V F W P d) : b < w.heap.size := by
  rcases Nat.lt_or_ge b w.heap.size with hl | hl
  · exact hl
  · simp [Row6, Array.getElem?_eq_none hl] at h
theorem OB.new (w : World) (K V F W P d : Int) : OB w (w.alloc (.cells #[.int .i64 K, .int .u8 V, .int .i64 F, .int .i64 W, .int .i64 P, .int .u64 d] 28)) K V F W P d := ⟨alloc_b _ _, heap_alloc_new _ _⟩
theorem OB.on {w wx wy : World} {K V F W P d : Int} (h : OB w wx K V F W P d) (k : Below wx.heap.size wx wy) : OB w wy K V F W P d := by
  refine ⟨below_on h.1 k, ?_⟩
  have := h.2
  unfold Row6 at this ⊢
  rw [k.block _ h.2.lt]; exact this
theorem OB.bel {w wx : World} {K V F W P d : Int} (h : OB w wx K V F W P d) : Below w.heap.size w wx := h.1
theorem OB.cells {w wx : World} {K V F W P d : Int} (h : OB w wx K V F W P d) :
    wx.cell? ⟨w.heap.size, 0, none⟩ = some (.int .i64 K) ∧ wx.cell? ⟨w.heap.size, 1, none⟩ = some (.int .u8 V) ∧ wx.cell? ⟨w.heap.size, 2, none⟩ = some (.int .i64 F) ∧ wx.cell? ⟨w.heap.size, 3, none⟩ = some (.int .i64 W) ∧ wx.cell? ⟨w.heap.size, 4, none⟩ = some (.int .i64 P) ∧ wx.cell? ⟨w.heap.size, 5, none⟩ = some (.int .u64 d) := by
  have h := h.2
  simp only [Row6] at h
  refine ⟨?_, ?_, ?_, ?_, ?_, ?_⟩ <;> simp [World.cell?, h]

set_option maxRecDepth 100000 in
set_option maxHeartbeats 4000000 in
theorem prenders_any (K V F W P d : Int) (w : World) (hT : Tab w) (hX : Tab10 w) (v0 : 0 ≤ V) (v1 : V < 256) (h0 : 0 ≤ d) (h1 : d < 18446744073709551616) :
    Calls Tryz.prog 10 #[.agg #[.int .i64 K, .int .u8 V, .int .i64 F, .int .i64 W, .int .i64 P, .int .u64 d]] w fun e w' => e = .returned (.bool true) ∧ Below w.heap.size w w' := by
  have B0 := hid (OB.new w K V F W P d)
  have TB : Hid (∀ wk, Below w.heap.size w wk → Tab wk ∧ Tab10 wk) := fun wk k => ⟨hT.below k, hX.bel k⟩
  have PA := hid (fun W' (k : Tab W') => render_any V F W P d W' k v0 v1 h0 h1)
  have PB := hid (fun W' (k : Tab10 W') => xrender_any V F W P d W' k v0 v1 h0 h1)
  unfold RenTold at PA PB
  clear hT hX v0 v1 h0 h1
  generalize Po.ren V F W P d = R at *
  generalize Po.renE V F W P = E at *
  obtain ⟨c0, c1, c2, c3, c4, c5⟩ := B0.out.cells
  go_enter Tryz.func10, Tryz.ntmps10
  go_wp2_with fail
  with_reducible refine (PA.out _ (TB.out _ B0.out.bel).1).mono ?_
  rintro e w1 ⟨rfl, b1⟩
  have B1 := hid (B0.out.on b1)
  clear b1 B0 PA c0 c1 c2 c3 c4 c5
  obtain ⟨c0, c1, c2, c3, c4, c5⟩ := B1.out.cells
  go_wp2_with fail
  with_reducible refine (PB.out _ (TB.out _ B1.out.bel).2).mono ?_
  rintro e w2 ⟨rfl, b2⟩
  have B2 := hid (B1.out.on b2)
  clear b2 B1 PB c0 c1 c2 c3 c4 c5 TB
  go_wp2_with fail
  go_ret
  exact ⟨rfl, B2.out.bel⟩

set_option maxRecDepth 100000 in
set_option maxHeartbeats 4000000 in
theorem pspecials_any (K V F W P d : Int) (w : World) (hT : Tab w) (hX : Tab10 w) (v0 : 0 ≤ V) (v1 : V < 256) (h0 : 0 ≤ d) (h1 : d < 18446744073709551616) :
    Calls Tryz.prog 11 #[.agg #[.int .i64 K, .int .u8 V, .int .i64 F, .int .i64 W, .int .i64 P, .int .u64 d]] w fun e w' => e = .returned (.bool true) ∧ Below w.heap.size w w' := by
  have B0 := hid (OB.new w K V F W P d)
  have TB : Hid (∀ wk, Below w.heap.size w wk → Tab wk ∧ Tab10 wk) := fun wk k => ⟨hT.below k, hX.bel k⟩
  have PA := hid (fun W' (k : Tab W') => special_any V F W P d W' v0 v1 h0 h1)
  have PB := hid (fun W' (k : Tab10 W') => xspecial_any V F W P d W' v0 v1 h0 h1)
  unfold SpcTold at PA PB
  clear hT hX v0 v1 h0 h1
  generalize Po.spc V F W P d = R at *
  generalize Po.spb F W P d = S at *
  generalize Wh.chk F W P = E at *
  obtain ⟨c0, c1, c2, c3, c4, c5⟩ := B0.out.cells
  go_enter Tryz.func11, Tryz.ntmps11
  go_wp2_with fail
  with_reducible refine (PA.out _ (TB.out _ B0.out.bel).1).mono ?_
  rintro e w1 ⟨rfl, b1⟩
  have B1 := hid (B0.out.on b1)
  clear b1 B0 PA c0 c1 c2 c3 c4 c5
  obtain ⟨c0, c1, c2, c3, c4, c5⟩ := B1.out.cells
  go_wp2_with fail
  with_reducible refine (PB.out _ (TB.out _ B1.out.bel).2).mono ?_
  rintro e w2 ⟨rfl, b2⟩
  have B2 := hid (B1.out.on b2)
  clear b2 B1 PB c0 c1 c2 c3 c4 c5 TB
  go_wp2_with fail
  go_ret
  exact ⟨rfl, B2.out.bel⟩

theorem O15.Holds.below {w w' : World} {a : Option Addr} {its : List O15} (h : O15.Holds w a its) (hb : Below w.heap.size w w') : O15.Holds w' a its := by
  rcases h with rfl | ⟨b, off, rfl, h⟩
  · exact .inl rfl
  · refine .inr ⟨b, off, rfl, fun i it hi => ?_⟩
    obtain ⟨h0, h1, h2, h3, h4, h5⟩ := h i it hi
    exact ⟨by rw [hb.cell (p := ⟨b, off + i * 6, none⟩) (cell_lt h0)]; exact h0, by rw [hb.cell (p := ⟨b, off + i * 6 + 1, none⟩) (cell_lt h1)]; exact h1, by rw [hb.cell (p := ⟨b, off + i * 6 + 2, none⟩) (cell_lt h2)]; exact h2, by rw [hb.cell (p := ⟨b, off + i * 6 + 3, none⟩) (cell_lt h3)]; exact h3, by rw [hb.cell (p := ⟨b, off + i * 6 + 4, none⟩) (cell_lt h4)]; exact h4, by rw [hb.cell (p := ⟨b, off + i * 6 + 5, none⟩) (cell_lt h5)]; exact h5⟩

set_option maxRecDepth 100000 in
set_option maxHeartbeats 4000000 in
theorem all_law15 (a : Option Addr) (len cap : Nat) (its : List O15) (w : World) (hl : its.length = len) (hc : len ≤ cap) (hm : cap ≤ 17592186044416) (hp : O15.Holds w a its) (hi : ∀ it ∈ its, O15.Bd it) (hT : Tab w ∧ Tab10 w) :
    Calls Tryz.prog 3 #[.slice a len cap] w fun e w' => e = .returned (.bool true) ∧ Below w.heap.size w w' := by
  have HL := hid hl
  have HP := hid hp
  have HI := hid hi
  have AW := hid (pawake_any w hT.1)
  have PL := hid (fun (K V F W P d : Int) (wx : World) (b : Below w.heap.size w wx) (v0 : 0 ≤ V) (v1 : V < 256) (h0 : 0 ≤ d) (h1 : d < 18446744073709551616) => prenders_any K V F W P d wx (hT.1.below b) (hT.2.bel b) v0 v1 h0 h1)
  have PS := hid (fun (K V F W P d : Int) (wx : World) (b : Below w.heap.size w wx) (v0 : 0 ≤ V) (v1 : V < 256) (h0 : 0 ≤ d) (h1 : d < 18446744073709551616) => pspecials_any K V F W P d wx (hT.1.below b) (hT.2.bel b) v0 v1 h0 h1)
  clear hl hp hi hT
  go_enter Tryz.func3, Tryz.ntmps3
  go_wp2_with fail
  with_reducible refine AW.out.mono ?_
  rintro e w1 ⟨rfl, hB⟩
  have D1 := hid hB
  clear hB AW
  go_wp2_with fail
  go_loopg [3, 4] len (fun g ok i wr => ∃ j : Nat, j + g = len ∧ ok = .bool true ∧ i = .int .i64 j ∧ Hid (Below w.heap.size w wr))
  case atStart => exact ⟨0, by omega, rfl, rfl, D1⟩
  case round =>
    clear D1
    obtain ⟨j, hj, rfl, rfl, D⟩ := hrel
    by_cases hlt : j < len
    · obtain ⟨it, hit⟩ : ∃ it, its[j]? = some it := ⟨_, List.getElem?_eq_getElem (by have := HL.out; omega)⟩
      have hPH := HP.out.below D.out
      obtain ⟨⟨v0, v1⟩, ⟨d0, d1⟩⟩ := HI.out it (List.mem_of_getElem? hit)
      rcases hPH with h | ⟨b0, off, rfl, h⟩
      · rw [h] at hit
        simp at hit
      · obtain ⟨c0, c1, c2, c3, c4, c5⟩ := h j it hit
        obtain ⟨K, V, F, WW, P, d⟩ := it
        simp only at c0 c1 c2 c3 c4 c5 v0 v1 d0 d1
        have hjl : (j : Int) < (len : Int) := by omega
        clear h hit HP HI HL
        by_cases k1 : K = 1
        · subst k1
          have WC := hid (PL.out 1 V F WW P d _ D.out v0 v1 d0 d1)
          go_wp2_with fail
          with_reducible refine WC.out.mono ?_
          rintro e w2 ⟨rfl, hB⟩
          have D2 := hid (below_on D.out hB)
          clear hB c0 c1 c2 c3 c4 c5 D WC
          go_wp2_with fail
          go_roundg (len - (j + 1))
          case measure => omega
          case rel => exact ⟨j + 1, by omega, rfl, by go_num, D2⟩
        · have k1' : (K == 1) = false := by simpa using k1
          by_cases k2 : K = 2
          · subst k2
            have WC := hid (PS.out 2 V F WW P d _ D.out v0 v1 d0 d1)
            clear k1
            go_wp2_with fail
            with_reducible refine WC.out.mono ?_
            rintro e w2 ⟨rfl, hB⟩
            have D2 := hid (below_on D.out hB)
            clear hB c0 c1 c2 c3 c4 c5 D WC
            go_wp2_with fail
            go_roundg (len - (j + 1))
            case measure => omega
            case rel => exact ⟨j + 1, by omega, rfl, by go_num, D2⟩
          · have k2' : (K == 2) = false := by simpa using k2
            clear k1 k2
            go_wp2_with fail
            go_roundg (len - (j + 1))
            case measure => omega
            case rel => exact ⟨j + 1, by omega, rfl, by go_num, D⟩
    · have hjl : ¬ (j : Int) < (len : Int) := by omega
      go_wp2_with fail
      go_ret
      exact ⟨rfl, D.out⟩
end Go.Proofs.YtaoaniigbooihaaGreatDoor

namespace Go.Proofs.YtaoaniigbooihaaGreatDoor
open Go Go.RowKit Go.Deep

theorem tab_laid : (Rows.laid_math_bits_deBruijn64tab : DataW Unit) = Lib.tabData .u8 (List.map Int.ofNat Lib.deBruijn64tab) := by kernel_rfl

theorem tab_of {W : World} {rest : List (String × DataW Unit)} (h : laidMet Tryz.prog (("math/bits.deBruijn64tab", Rows.laid_math_bits_deBruijn64tab) :: rest) W) : Tab W := by
  rw [tab_laid] at h
  have ht := Lib.tabIs_of_head (g := 0) (t := 139) (e := 5) (n := 64) (k := .u8) (zs := List.map Int.ofNat Lib.deBruijn64tab) (by kernel_rfl) (by kernel_rfl) Tryz.underlying139 Tryz.underlying5 (by kernel_rfl) (by kernel_rfl) h
  intro j hj
  have hl : (List.map Int.ofNat Lib.deBruijn64tab).length = Lib.deBruijn64tab.length := by simp
  rw [ht.cell (g := 0) (by kernel_rfl) j (by omega)]
  simp [List.getD, hj]

end Go.Proofs.YtaoaniigbooihaaGreatDoor

namespace Go.Proofs.YtaoaniigbooihaaGreatDoor
open Go Go.RowKit Go.Deep

theorem laid_tail12 {P : Program} {W : World} {x : String × DataW Unit} {rest : List (String × DataW Unit)} (h : laidMet P (x :: rest) W) : laidMet P rest W := by
  obtain ⟨ps, ⟨g, t, cs, fuel, p, q, _, _, _, _, hr, rfl⟩, hn, hc⟩ := h
  exact ⟨q, hr, (List.nodup_append.1 hn).2.1, fun b off hm => hc b off (List.mem_append_right _ hm)⟩

theorem pow_laid12 : (Rows.laid_internal_strconv_uint64pow10 : DataW Unit) = Lib.tabData .u64 Lib.pow10Tab := by kernel_rfl

theorem tables12 {W : World} {a : String × DataW Unit} {rest : List (String × DataW Unit)} (h : laidMet Tryz.prog (a :: ("math/bits.deBruijn64tab", Rows.laid_math_bits_deBruijn64tab) :: ("internal/strconv.uint64pow10", Rows.laid_internal_strconv_uint64pow10) :: rest) W) : Tab W ∧ Tab10 W := by
  have h1 := laid_tail12 h
  have h2 := laid_tail12 h1
  rw [pow_laid12] at h2
  exact ⟨tab_of h1, Lib.tabIs_of_head (g := 5) (t := 235) (e := 26) (n := 20) (by kernel_rfl) (by kernel_rfl) Tryz.underlying235 Tryz.underlying26 (by kernel_rfl) (by kernel_rfl) h2⟩
end Go.Proofs.YtaoaniigbooihaaGreatDoor

namespace Go.Proofs.YtaoaniigbooihaaGreatDoor
open Go Go.RowKit Go.Deep Go.Shelf

theorem case_laid : Rows.laid_unicode_CaseRanges = Lib.caseData := by kernel_rfl

theorem laidVars_swap {P : Program} {w : World} {x y : String × DataW Unit} : ∀ {l : List (String × DataW Unit)} {ps : List MemPlace}, DataW.LaidVars P w (l ++ [y, x]) ps → ∃ qs, DataW.LaidVars P w (l ++ [x, y]) qs ∧ qs.Perm ps
  | [], ps, h => by
    obtain ⟨x1, x2⟩ := x
    obtain ⟨y1, y2⟩ := y
    obtain ⟨g, t, cs, fuel, p, q, h1, h2, h3, h4, ⟨g', t', cs', fuel', p', q', k1, k2, k3, k4, k5, rfl⟩, rfl⟩ := h
    have k5 : q' = [] := k5
    subst k5
    refine ⟨_, ⟨g', t', cs', fuel', p', _, k1, k2, k3, k4, ⟨g, t, cs, fuel, p, [], h1, h2, h3, h4, rfl, rfl⟩, rfl⟩, ?_⟩
    simp only [List.append_nil]
    exact List.perm_append_comm
  | (n, d) :: l, ps, h => by
    obtain ⟨g, t, cs, fuel, p, q, h1, h2, h3, h4, h5, rfl⟩ := h
    obtain ⟨qs, k1, k2⟩ := laidVars_swap h5
    exact ⟨_, ⟨g, t, cs, fuel, p, qs, h1, h2, h3, h4, k1, rfl⟩, List.Perm.append_left _ k2⟩
theorem laidMet_swap {P : Program} {w : World} {x y : String × DataW Unit} {l : List (String × DataW Unit)} (h : laidMet P (l ++ [y, x]) w) : laidMet P (l ++ [x, y]) w := by
  obtain ⟨ps, h1, h2, h3⟩ := h
  obtain ⟨qs, k1, k2⟩ := laidVars_swap h1
  exact ⟨qs, k1, (k2.nodup_iff).2 h2, fun b off hp => h3 b off (k2.mem_iff.1 hp)⟩
end Go.Proofs.YtaoaniigbooihaaGreatDoor
