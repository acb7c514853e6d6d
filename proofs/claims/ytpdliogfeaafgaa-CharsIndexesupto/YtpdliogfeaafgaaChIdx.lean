/-
  law20: CharsIndexes.
-/
import Derived.Test.YtpdliogfeaafgaaChJ
import Derived.Test.YtpdliogfeaafgaaOpenAsk20
import Derived.Deep.RegionHeld3
import Derived.Deep.CutRange
namespace Go.Proofs.Ytpdliogfeaafgaa
open Go Go.RowKit Go.Deep Go.Shelf

namespace Ch
theorem closedIx : Lib.index [104, 101, 108, 108, 111] [108, 111] + 1 = 4 := by decide +kernel
theorem closedLow : tx (([65, 98, 90, 91] : L8).map lowc) = ⟨#[97, 98, 122, 91]⟩ := by decide +kernel
theorem closedUp : tx (([97, 122, 123] : L8).map upc) = ⟨#[65, 90, 123]⟩ := by decide +kernel
end Ch

set_option maxRecDepth 100000 in
set_option maxHeartbeats 4000000 in
theorem indexes_law (a : Option Addr) (cap : Nat) (qs : List Ak) (w : World) (hm : ML w) (hq : LK20 w a qs) (hz : ∀ q ∈ qs, AkB 1048576 q) (hn : qs.length ≤ 2199023255552) :
    Calls Try.prog 3 #[.slice a qs.length cap] w fun e w' => e = .returned (.bool true) ∧ Below w.heap.size w w' := by
  have IX0 : Hid (Calls Try.prog 6 #[.string ⟨#[104, 101, 108, 108, 111]⟩, .string ⟨#[108, 111]⟩] w fun e w' => e = .returned (.int .i64 4) ∧ w' = w) := by
    refine (cindex_any ⟨#[104, 101, 108, 108, 111]⟩ ⟨#[108, 111]⟩ w hm (by decide)).mono ?_
    rintro e w' ⟨rfl, hw⟩
    exact ⟨by rw [show Lib.index (⟨#[104, 101, 108, 108, 111]⟩ : ByteArray).data.toList (⟨#[108, 111]⟩ : ByteArray).data.toList + 1 = 4 from Ch.closedIx], hw⟩
  have LO0 : Hid (Calls Try.prog 7 #[.string ⟨#[65, 98, 90, 91]⟩] w fun e w' => e = .returned (.string ⟨#[97, 98, 122, 91]⟩) ∧ Below w.heap.size w w') := by
    refine (clower_any ⟨#[65, 98, 90, 91]⟩ w (by decide)).mono ?_
    rintro e w' ⟨rfl, hw⟩
    exact ⟨by rw [show Ch.tx ((⟨#[65, 98, 90, 91]⟩ : ByteArray).data.toList.map Ch.lowc) = ⟨#[97, 98, 122, 91]⟩ from Ch.closedLow], hw⟩
  have UP0 : Hid (∀ wx, Calls Try.prog 8 #[.string ⟨#[97, 122, 123]⟩] wx fun e w' => e = .returned (.string ⟨#[65, 90, 123]⟩) ∧ Below wx.heap.size wx w') := fun wx => by
    refine (cupper_any ⟨#[97, 122, 123]⟩ wx (by decide)).mono ?_
    rintro e w' ⟨rfl, hw⟩
    exact ⟨by rw [show Ch.tx ((⟨#[97, 122, 123]⟩ : ByteArray).data.toList.map Ch.upc) = ⟨#[65, 90, 123]⟩ from Ch.closedUp], hw⟩
  have MW : Hid (∀ w', Below w.heap.size w w' → ML w') := fun w' b => hm.b b
  have HQ := hid hq
  have HZ := hid hz
  have HN := hid hn
  clear hm hq hz hn
  go_enter Try.func3, Try.ntmps3
  go_wp2_with fail
  refine IX0.out.mono ?_
  rintro e w1 ⟨rfl, hw⟩
  rw [hw]
  clear hw IX0
  go_wp2_with fail
  refine LO0.out.mono ?_
  rintro e w2 ⟨rfl, hb⟩
  have B2 := hid hb
  clear hb LO0
  go_wp2_with fail
  refine (UP0.out w2).mono ?_
  rintro e w3 ⟨rfl, hb⟩
  have B3 := hid (below_on B2.out hb)
  clear hb UP0 B2
  go_wp2_with fail
  go_loopg [3] qs.length (fun m iv wr => ∃ k : Nat, k + m = qs.length ∧ iv = .int .i64 (k : Int) ∧ Hid (Below w.heap.size w wr))
  case atStart => exact ⟨0, by omega, rfl, B3.out⟩
  case round =>
    obtain ⟨k, hk, rfl, J⟩ := hrel
    clear B3
    by_cases kl : k < qs.length
    · have kli : (k : Int) < (qs.length : Int) := by omega
      have kb : (k : Int) ≤ 2199023255552 := by have := HN.out; omega
      obtain ⟨b, off, rfl, hc⟩ := (HQ.out.below J.out).at k kl
      obtain ⟨d0, d1, d2, d3, d4, d5, d6⟩ := hc.flat
      obtain ⟨z0, z1, -⟩ := HZ.out _ (ak_getD kl)
      clear hc
      generalize (qs.getD k Ak.no).S = s at *
      generalize (qs.getD k Ak.no).T = T at *
      generalize (qs.getD k Ak.no).V = V at *
      generalize (qs.getD k Ak.no).M = M at *
      generalize (qs.getD k Ak.no).N = N at *
      generalize (qs.getD k Ak.no).a = la at *
      generalize (qs.getD k Ak.no).xs.length = ln at *
      generalize (qs.getD k Ak.no).cap = lc at *
      generalize (qs.getD k Ak.no).most = mo at *
      have A1 := alloc_b wr (.cells #[.string s, .string T, .string V, .int .u64 M, .int .u64 N, .slice la ln lc, .int .i64 mo] 28)
      have BW := below_on J.out A1
      have HB := heap_alloc_new wr (.cells #[.string s, .string T, .string V, .int .u64 M, .int .u64 N, .slice la ln lc, .int .i64 mo] 28)
      have CS : Hid (∀ wx, Below (wr.alloc (.cells #[.string s, .string T, .string V, .int .u64 M, .int .u64 N, .slice la ln lc, .int .i64 mo] 28)).heap.size (wr.alloc (.cells #[.string s, .string T, .string V, .int .u64 M, .int .u64 N, .slice la ln lc, .int .i64 mo] 28)) wx → wx.cell? ⟨wr.heap.size, 0, none⟩ = some (.string s) ∧ wx.cell? ⟨wr.heap.size, 1, none⟩ = some (.string T)) := fun wx bx => by
        have hlt : wr.heap.size < (wr.alloc (.cells #[.string s, .string T, .string V, .int .u64 M, .int .u64 N, .slice la ln lc, .int .i64 mo] 28)).heap.size := by rw [World.size_alloc]; omega
        constructor
        · rw [bx.cell hlt, cell_of_row _ _ _ _ _ _ HB]; rfl
        · rw [bx.cell hlt, cell_of_row _ _ _ _ _ _ HB]; rfl
      have BA := hid BW
      clear BW A1 HB
      go_upto_region 7 with fail
      clear d0 d1 d2 d3 d4 d5 d6
      generalize wr.alloc (.cells #[.string s, .string T, .string V, .int .u64 M, .int .u64 N, .slice la ln lc, .int .i64 mo] 28) = wA at *
      generalize wr.heap.size = bx at *
      have SS0 := hid (Below.refl wA.heap.size wA)
      have SSD : Hid (Below wA.heap.size wA wA.drew) := ⟨rfl, rfl, rfl, Nat.le_refl _, fun _ _ => rfl⟩
      have MA : Hid (∀ wx, Below wA.heap.size wA wx → ML wx) := fun wx b2 => MW.out _ (below_on BA.out b2)
      have I1 := hid (fun wx (bx : Below wA.heap.size wA wx) => cindex_any s T wx (MA.out _ bx) (by omega))
      have I2 := hid (fun wx (_ : Below wA.heap.size wA wx) => rindex_any s T wx (by omega) (by omega))
      have I3 := hid (fun wx (bx : Below wA.heap.size wA wx) => cindex_any T s wx (MA.out _ bx) (by omega))
      have I4 := hid (fun wx (_ : Below wA.heap.size wA wx) => rindex_any T s wx (by omega) (by omega))
      have P1 := hid (fun wx (_ : Below wA.heap.size wA wx) => clower_any s wx (by omega))
      have P2 := hid (fun wx (_ : Below wA.heap.size wA wx) => rlower_any s wx (by omega))
      have P3 := hid (fun wx (_ : Below wA.heap.size wA wx) => cupper_any s wx (by omega))
      have P4 := hid (fun wx (_ : Below wA.heap.size wA wx) => rupper_any s wx (by omega))
      generalize Lib.index s.data.toList T.data.toList + 1 = x1 at *
      generalize Lib.index T.data.toList s.data.toList + 1 = x2 at *
      generalize Ch.tx (s.data.toList.map Ch.lowc) = y1 at *
      generalize Ch.tx (s.data.toList.map Ch.upc) = y2 at *
      obtain ⟨r0, r1⟩ := CS.out _ SS0.out
      clear z0 z1 J
      go_region_held3 (fun w' => w'.cell? ⟨bx, 0, none⟩ = some (.string s) ∧ w'.cell? ⟨bx, 1, none⟩ = some (.string T)) (first | (with_reducible exact CS.out _ U4.out) | (with_reducible exact CS.out _ U3.out) | (with_reducible exact CS.out _ U2.out) | (with_reducible exact CS.out _ U1.out) | (with_reducible exact CS.out _ SSD.out)) (first
        | (go_at_call 6; first
          | ((with_reducible refine (I1.out _ SSD.out).mono ?_); rintro e v1 ⟨rfl, hw⟩; have U1 : Hid (Below wA.heap.size wA v1) := (by rw [hw]; exact SSD.out); clear hw)
          | ((with_reducible refine (I3.out _ U2.out).mono ?_); rintro e v3 ⟨rfl, hw⟩; have U3 : Hid (Below wA.heap.size wA v3) := (by rw [hw]; exact U2.out); clear hw))
        | (go_at_call 9; first
          | ((with_reducible refine (I2.out _ U1.out).mono ?_); rintro e v2 ⟨rfl, hw⟩; have U2 : Hid (Below wA.heap.size wA v2) := (by rw [hw]; exact U1.out); clear hw)
          | ((with_reducible refine (I4.out _ U3.out).mono ?_); rintro e v4 ⟨rfl, hw⟩; have U4 : Hid (Below wA.heap.size wA v4) := (by rw [hw]; exact U3.out); clear hw)))
      all_goals
        obtain ⟨r0, r1⟩ := CS.out _ U4.out
        go_upto_region 9 with fail
        have D4 := hid (below_on U4.out (show Below v4.heap.size v4 v4.drew from ⟨rfl, rfl, rfl, Nat.le_refl _, fun _ _ => rfl⟩))
        go_region_held3 (fun w' => w'.cell? ⟨bx, 0, none⟩ = some (.string s) ∧ w'.cell? ⟨bx, 1, none⟩ = some (.string T)) (first | (with_reducible exact CS.out _ X4.out) | (with_reducible exact CS.out _ X3.out) | (with_reducible exact CS.out _ X2.out) | (with_reducible exact CS.out _ X1.out) | (with_reducible exact CS.out _ D4.out)) (first
          | (go_at_call 7; (with_reducible refine (P1.out _ D4.out).mono ?_); rintro e t1 ⟨rfl, hB⟩; have X1 := hid (below_on D4.out hB); clear hB)
          | (go_at_call 10; (with_reducible refine (P2.out _ X1.out).mono ?_); rintro e t2 ⟨rfl, hB⟩; have X2 := hid (below_on X1.out hB); clear hB)
          | (go_at_call 8; (with_reducible refine (P3.out _ X2.out).mono ?_); rintro e t3 ⟨rfl, hB⟩; have X3 := hid (below_on X2.out hB); clear hB)
          | (go_at_call 11; (with_reducible refine (P4.out _ X3.out).mono ?_); rintro e t4 ⟨rfl, hB⟩; have X4 := hid (below_on X3.out hB); clear hB))
        all_goals
          have FB := hid (below_on BA.out X4.out)
          go_wp2_with fail
          go_roundg (qs.length - (k + 1))
          case measure => omega
          case rel => exact ⟨k + 1, by omega, by go_num, FB⟩
    · have kli : ¬ (k : Int) < (qs.length : Int) := by omega
      go_wp2_with fail
      go_ret
      exact ⟨rfl, J.out⟩
theorem indexes_len (a : Option Addr) (len cap : Nat) (qs : List Ak) (w : World) (n : Nat) (hm : ML w) (e : qs.length = len) (hq : LK20 w a qs) (hz : ∀ q ∈ qs, AkB n q) (hb : n ≤ 1048576) (hn : len ≤ 2199023255552) :
    Calls Try.prog 3 #[.slice a len cap] w fun e w' => e = .returned (.bool true) ∧ Below w.heap.size w w' := by
  subst e
  exact indexes_law a cap qs w hm hq (fun q h => ⟨Nat.le_trans (hz q h).1 hb, Nat.le_trans (hz q h).2.1 hb, Nat.le_trans (hz q h).2.2 hb⟩) hn
end Go.Proofs.Ytpdliogfeaafgaa
