/-
  law08: ScanNorms.
-/
import Derived.Test.YtjghlpkjbfaoiaaDoorVNorms1
import Derived.Test.YtjghlpkjbfaoiaaDoorOpenDecs
import Derived.Deep.LoopGhost
namespace Go.Proofs.YtjghlpkjbfaoiaaDoor
open Go Go.RowKit Go.Deep

theorem Dc.Holds.below {w w' : World} {a : Option Addr} {its : List Dc} (h : Dc.Holds w a its) (hb : Below w.heap.size w w') : Dc.Holds w' a its := by
  rcases h with rfl | ⟨b, off, rfl, h⟩
  · exact .inl rfl
  · refine .inr ⟨b, off, rfl, fun i it hi => ?_⟩
    obtain ⟨h0, h1, h2⟩ := h i it hi
    exact ⟨by rw [hb.cell (p := ⟨b, off + i * 3, none⟩) (cell_lt h0)]; exact h0, by rw [hb.cell (p := ⟨b, off + i * 3 + 1, none⟩) (cell_lt h1)]; exact h1, by rw [hb.cell (p := ⟨b, off + i * 3 + 2, none⟩) (cell_lt h2)]; exact h2⟩

/-- Two of the list's Decs, still there. -/
def Two (w wx : World) (b o p : Nat) (x y : Dc) : Prop := Below w.heap.size w wx ∧ Dc.Cells wx b o x ∧ Dc.Cells wx b p y
theorem Dc.Cells.below {w w' : World} {b o : Nat} {x : Dc} (h : Dc.Cells w b o x) (hb : Below w.heap.size w w') : Dc.Cells w' b o x :=
  ⟨by rw [hb.cell (p := ⟨b, o, none⟩) (cell_lt h.1)]; exact h.1, by rw [hb.cell (p := ⟨b, o + 1, none⟩) (cell_lt h.2.1)]; exact h.2.1, by rw [hb.cell (p := ⟨b, o + 2, none⟩) (cell_lt h.2.2)]; exact h.2.2⟩
theorem Two.on {w wx w' : World} {b o p : Nat} {x y : Dc} (h : Two w wx b o p x y) (k : Below wx.heap.size wx w') : Two w w' b o p x y := ⟨below_on h.1 k, h.2.1.below k, h.2.2.below k⟩
theorem Two.bel {w wx : World} {b o p : Nat} {x y : Dc} (h : Two w wx b o p x y) : Below w.heap.size w wx := h.1
theorem Two.drew {w wx : World} {b o p : Nat} {x y : Dc} (h : Two w wx b o p x y) : Two w wx.drew b o p x y := h.on (below_drewN (Below.refl _ _) 1)
theorem Two.flat {w wx : World} {b o p : Nat} {x y : Dc} (h : Two w wx b o p x y) : (wx.cell? ⟨b, o, none⟩ = some (.bool x.n) ∧ wx.cell? ⟨b, o + 1, none⟩ = some (.string x.s) ∧ wx.cell? ⟨b, o + 2, none⟩ = some (.int .i64 x.e)) ∧ (wx.cell? ⟨b, p, none⟩ = some (.bool y.n) ∧ wx.cell? ⟨b, p + 1, none⟩ = some (.string y.s) ∧ wx.cell? ⟨b, p + 2, none⟩ = some (.int .i64 y.e)) := ⟨h.2.1, h.2.2⟩

set_option maxRecDepth 100000 in
set_option maxHeartbeats 8000000 in
theorem norms_of (a : Option Addr) (len cap : Nat) (its : List Dc) (w : World) (hl : its.length = len) (hc : len ≤ cap) (hm : cap ≤ 17592186044416) (hp : Dc.Holds w a its) (hi : ∀ it ∈ its, Dc.Bd it) (hT : Tab10 w) :
    Calls Tryd.prog 4 #[.slice a len cap] w fun e w' => e = .returned (.bool true) ∧ Below w.heap.size w w' := by
  have N0 : Hid (∀ wx, Tab10 wx → Calls Tryd.prog 12 #[.agg #[.bool false, .string ⟨#[48, 48, 49, 50, 48]⟩, .int .i64 3]] wx fun r w' => r = .returned (.bool true) ∧ Below wx.heap.size wx w') := fun wx hx => norms_any false ⟨#[48, 48, 49, 50, 48]⟩ [48, 48, 49, 50, 48] 3 wx rfl (by decide) hx
  have C0 : Hid (∀ wx, Calls Tryd.prog 13 #[.agg #[.bool false, .string ⟨#[49, 50]⟩, .int .i64 0], .agg #[.bool false, .string ⟨#[49, 49, 57]⟩, .int .i64 (-1)]] wx fun r w' => r = .returned (.bool true) ∧ Below wx.heap.size wx w') := fun wx => cmps_any false false ⟨#[49, 50]⟩ ⟨#[49, 49, 57]⟩ [49, 50] [49, 49, 57] 0 (-1) wx rfl rfl (by decide) (by decide)
  have NS : Hid (∀ (x : Dc) wx, Dc.Bd x → Tab10 wx → Calls Tryd.prog 12 #[.agg #[.bool x.n, .string x.s, .int .i64 x.e]] wx fun r w' => r = .returned (.bool true) ∧ Below wx.heap.size wx w') := fun x wx h hx => norms_any x.n x.s _ x.e wx (Str.self x.s) (Nat.le_trans (str_len x.s h.1) (by omega)) hx
  have CS : Hid (∀ (x y : Dc) wx, Dc.Bd x → Dc.Bd y → Calls Tryd.prog 13 #[.agg #[.bool x.n, .string x.s, .int .i64 x.e], .agg #[.bool y.n, .string y.s, .int .i64 y.e]] wx fun r w' => r = .returned (.bool true) ∧ Below wx.heap.size wx w') := fun x y wx h k => cmps_any x.n y.n x.s y.s _ _ x.e y.e wx (Str.self x.s) (Str.self y.s) (Nat.le_trans (str_len x.s h.1) (by omega)) (Nat.le_trans (str_len y.s k.1) (by omega))
  have HL := hid hl
  have HP := hid hp
  have HI := hid hi
  have HT := hid hT
  have hlm : (len : Int) ≤ 17592186044416 := by omega
  clear hl hp hi hT hc hm
  go_enter Tryd.func4, Tryd.ntmps4
  go_wp2_with fail
  refine (N0.out _ HT.out).mono ?_
  rintro e w1 ⟨rfl, hB⟩
  have D1 := hid hB
  clear hB N0
  go_wp2_with fail
  refine (C0.out _).mono ?_
  rintro e w2 ⟨rfl, hB⟩
  have D2 := hid (below_on D1.out hB)
  clear hB C0 D1
  go_wp2_with fail
  go_loopw [3] (fun i wr => ∃ j : Nat, j ≤ len ∧ i = .int .i64 j ∧ Hid (Below w.heap.size w wr)) (fun i _ => len - (vInt i).toNat)
  case atStart => exact ⟨0, Nat.zero_le _, rfl, D2.out⟩
  case round =>
    clear D2
    obtain ⟨j, hj, rfl, D⟩ := hrel
    by_cases hlt : j < len
    · obtain ⟨x, hx⟩ : ∃ it, its[j]? = some it := ⟨_, List.getElem?_eq_getElem (by have := HL.out; omega)⟩
      obtain ⟨y, hy⟩ : ∃ it, its[0]? = some it := ⟨_, List.getElem?_eq_getElem (by have := HL.out; omega)⟩
      have bx := HI.out x (List.mem_of_getElem? hx)
      have b_y := HI.out y (List.mem_of_getElem? hy)
      have hPH := HP.out.below D.out
      rcases hPH with h | ⟨b, off, rfl, h⟩
      · rw [h] at hx
        simp at hx
      · have hjl : (j : Int) < (len : Int) := by omega
        have T0 : Hid (Two w wr b (off + j * 3) off x y) := ⟨D.out, h j x hx, by have := h 0 y hy; rw [Nat.zero_mul, Nat.add_zero] at this; exact this⟩
        have NX := hid (fun wx (hx : Below w.heap.size w wx) => NS.out x wx bx (HT.out.below hx))
        have CX := hid (fun wx => CS.out x x wx bx bx)
        have CY := hid (fun wx => CS.out x y wx bx b_y)
        have hl0 : (0 : Int) < (len : Int) := by omega
        have hl1 : 0 < len := by omega
        have hl2 : ¬ len = 0 := by omega
        go_upto_region 6 with fail
        have T1 := hid T0.out.drew
        go_region_held3 (fun wx => (wx.cell? ⟨b, off + j * 3, none⟩ = some (.bool x.n) ∧ wx.cell? ⟨b, off + j * 3 + 1, none⟩ = some (.string x.s) ∧ wx.cell? ⟨b, off + j * 3 + 2, none⟩ = some (.int .i64 x.e)) ∧ (wx.cell? ⟨b, off, none⟩ = some (.bool y.n) ∧ wx.cell? ⟨b, off + 1, none⟩ = some (.string y.s) ∧ wx.cell? ⟨b, off + 2, none⟩ = some (.int .i64 y.e))) (first | (with_reducible exact T4.out.flat) | (with_reducible exact T3.out.flat) | (with_reducible exact T2.out.flat) | (with_reducible exact T1.out.flat)) (first
          | (go_at_call 12; with_reducible refine (NX.out _ T1.out.bel).mono ?_; rintro e wn ⟨rfl, hB⟩; have T2 := hid (T1.out.on hB); clear hB)
          | (go_at_call 13; (first
              | (with_reducible refine (CX.out _).mono ?_; rintro e wn ⟨rfl, hB⟩; have T3 := hid (T2.out.on hB); clear hB)
              | (with_reducible refine (CY.out _).mono ?_; rintro e wn ⟨rfl, hB⟩; have T4 := hid (T3.out.on hB); clear hB))))
        have D4 : Hid (Below w.heap.size w wn) := T4.out.bel
        clear T0 T1 T2 T3 T4 NX CX CY
        rcases Nat.eq_zero_or_pos j with h0 | h0
        · subst h0
          go_upto_region 8 with fail
          go_quiet (fail)
          go_wp2_with fail
          go_roundw
          case rel => exact ⟨1, by omega, by go_num, below_drewN D4.out _⟩
          case measure => simp [vInt]; omega
        · obtain ⟨k, hk⟩ : ∃ k, j = k + 1 := ⟨j - 1, by omega⟩
          obtain ⟨z, hz⟩ : ∃ it, its[k]? = some it := ⟨_, List.getElem?_eq_getElem (by have := HL.out; omega)⟩
          have b_z := HI.out z (List.mem_of_getElem? hz)
          have hkj : (j : Int) - 1 = (k : Int) := by omega
          have hkl : (k : Int) < (len : Int) := by omega
          have hkn : k < len := by omega
          have hkn2 : ¬ len ≤ k := by omega
          have hk0 : (0 : Int) ≤ (k : Int) := by omega
          have hj0 : (0 : Int) < (j : Int) := by omega
          have HK := hid hk
          have WS : IntKind.i64.wrap (k : Int) = (k : Int) := by rw [IntKind.wrap_i64]; omega
          have WK : IntKind.i64.wrap ((j : Int) - 1) = (k : Int) := by rw [IntKind.wrap_i64]; omega
          have U0 : Hid (Two w wn b (off + j * 3) (off + k * 3) x z) := by
            rcases HP.out.below D4.out with h' | ⟨b', off', hq, h'⟩
            · rw [h'] at hx; simp at hx
            · cases hq
              exact ⟨D4.out, h' j x hx, h' k z hz⟩
          have CA := hid (fun wx => CS.out z x wx b_z bx)
          have CB := hid (fun wx => CS.out x z wx bx b_z)
          clear hk
          go_upto_region 8 with fail
          have T1 := hid U0.out.drew
          go_region_held3 (fun wx => (wx.cell? ⟨b, off + j * 3, none⟩ = some (.bool x.n) ∧ wx.cell? ⟨b, off + j * 3 + 1, none⟩ = some (.string x.s) ∧ wx.cell? ⟨b, off + j * 3 + 2, none⟩ = some (.int .i64 x.e)) ∧ (wx.cell? ⟨b, off + k * 3, none⟩ = some (.bool z.n) ∧ wx.cell? ⟨b, off + k * 3 + 1, none⟩ = some (.string z.s) ∧ wx.cell? ⟨b, off + k * 3 + 2, none⟩ = some (.int .i64 z.e))) (first | (with_reducible exact T3.out.flat) | (with_reducible exact T2.out.flat) | (with_reducible exact T1.out.flat)) (first
            | (go_at_call 13; (first
                | (with_reducible refine (CA.out _).mono ?_; rintro e wm ⟨rfl, hB⟩; have T2 := hid (T1.out.on hB); clear hB)
                | (with_reducible refine (CB.out _).mono ?_; rintro e wm ⟨rfl, hB⟩; have T3 := hid (T2.out.on hB); clear hB))))
          have D5 : Hid (Below w.heap.size w wm) := T3.out.bel
          clear U0 T1 T2 T3
          go_wp2_with fail
          go_roundw
          case rel => exact ⟨j + 1, by omega, by go_num, D5.out⟩
          case measure => simp [vInt]; omega
    · have hjl : ¬ (j : Int) < (len : Int) := by omega
      go_wp2_with fail
      go_ret
      exact ⟨rfl, D.out⟩
end Go.Proofs.YtjghlpkjbfaoiaaDoor
