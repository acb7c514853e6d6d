/-
  law20: CharsReplaces.
-/
import Derived.Test.YtgliefdefklfeaaChQ
import Derived.Test.YtgliefdefklfeaaOpenAsk20
import Derived.Deep.CutRange
namespace Go.Proofs.Ytgliefdefklfeaa
open Go Go.RowKit Go.Deep Go.Shelf

set_option maxRecDepth 100000 in
set_option maxHeartbeats 4000000 in
theorem replaces_law (a : Option Addr) (cap : Nat) (qs : List Ak) (w : World) (hm : ML w) (hq : LK20 w a qs) (hk : ∀ q ∈ qs, AkW w q) (hn : qs.length ≤ 2199023255552) :
    Calls Try.prog 4 #[.slice a qs.length cap] w fun e w' => e = .returned (.bool true) ∧ Below w.heap.size w w' := by
  have R0 := hid (lreplaces_yes ⟨#[98, 97, 110, 97, 110, 97]⟩ ⟨#[97, 110]⟩ ⟨#[60, 62]⟩ (-1) w hm (by decide) (by decide) (by decide) (by decide) (by decide))
  have MW : Hid (∀ w', Below w.heap.size w w' → ML w') := fun w' b => hm.b b
  have HQ := hid hq
  have HK := hid hk
  have HN := hid hn
  clear hm hq hk hn
  go_enter Try.func4, Try.ntmps4
  go_wp2_with fail
  refine R0.out.mono ?_
  rintro e w1 ⟨rfl, hb⟩
  have B1 := hid hb
  clear hb R0
  go_wp2_with fail
  go_loopg [3] qs.length (fun m iv wr => ∃ k : Nat, k + m = qs.length ∧ iv = .int .i64 (k : Int) ∧ Hid (Below w.heap.size w wr))
  case atStart => exact ⟨0, by omega, rfl, B1.out⟩
  case round =>
    obtain ⟨k, hk, rfl, J⟩ := hrel
    clear B1
    by_cases kl : k < qs.length
    · have kli : (k : Int) < (qs.length : Int) := by omega
      have kb : (k : Int) ≤ 2199023255552 := by have := HN.out; omega
      obtain ⟨b, off, rfl, hc⟩ := (HQ.out.below J.out).at k kl
      obtain ⟨d0, d1, d2, d3, d4, d5, d6⟩ := hc.flat
      obtain ⟨z0, z1, z2, -, -, ⟨o1, o2⟩, -⟩ := HK.out _ (ak_getD kl)
      clear hc
      generalize (qs.getD k Ak.no).S = s at *
      generalize (qs.getD k Ak.no).T = T at *
      generalize (qs.getD k Ak.no).V = V at *
      generalize (qs.getD k Ak.no).M = M at *
      generalize (qs.getD k Ak.no).N = N at *
      generalize (qs.getD k Ak.no).a = la at *
      generalize (qs.getD k Ak.no).xs.length = ln at *
      generalize (qs.getD k Ak.no).cap = lc at *
      generalize (qs.getD k Ak.no).most = mo at *
      have ssi : (s.size : Int) ≤ 140737488351232 := by omega
      have A1 := alloc_b wr (.cells #[.string s, .string T, .string V, .int .u64 M, .int .u64 N, .slice la ln lc, .int .i64 mo] 28)
      have BW := below_on J.out A1
      have HB := heap_alloc_new wr (.cells #[.string s, .string T, .string V, .int .u64 M, .int .u64 N, .slice la ln lc, .int .i64 mo] 28)
      have CS : Hid (∀ wx, Below (wr.alloc (.cells #[.string s, .string T, .string V, .int .u64 M, .int .u64 N, .slice la ln lc, .int .i64 mo] 28)).heap.size (wr.alloc (.cells #[.string s, .string T, .string V, .int .u64 M, .int .u64 N, .slice la ln lc, .int .i64 mo] 28)) wx → wx.cell? ⟨wr.heap.size, 0, none⟩ = some (.string s) ∧ wx.cell? ⟨wr.heap.size, 1, none⟩ = some (.string T) ∧ wx.cell? ⟨wr.heap.size, 2, none⟩ = some (.string V) ∧ wx.cell? ⟨wr.heap.size, 6, none⟩ = some (.int .i64 mo)) := fun wx bx => by
        have hlt : wr.heap.size < (wr.alloc (.cells #[.string s, .string T, .string V, .int .u64 M, .int .u64 N, .slice la ln lc, .int .i64 mo] 28)).heap.size := by rw [World.size_alloc]; omega
        refine ⟨?_, ?_, ?_, ?_⟩ <;> (rw [bx.cell hlt, cell_of_row _ _ _ _ _ _ HB]; rfl)
      have BA := hid BW
      clear BW A1 HB
      by_cases sz : 16777216 < s.size
      · have szi : (16777216 : Int) < (s.size : Int) := by omega
        clear z0 z1 z2 o1 o2 J CS
        go_wp2_with fail
        go_roundg (qs.length - (k + 1))
        case measure => omega
        case rel => exact ⟨k + 1, by omega, by go_num, BA⟩
      have szi : ¬ (16777216 : Int) < (s.size : Int) := by omega
      go_upto_region 7 with fail
      clear d0 d1 d2 d3 d4 d5 d6
      generalize wr.alloc (.cells #[.string s, .string T, .string V, .int .u64 M, .int .u64 N, .slice la ln lc, .int .i64 mo] 28) = wA at *
      generalize wr.heap.size = bx at *
      have SS0 := hid (Below.refl wA.heap.size wA)
      have MA : Hid (∀ wx, Below wA.heap.size wA wx → ML wx) := fun wx b2 => MW.out _ (below_on BA.out b2)
      have I1 := hid (lreplaces_yes s T V mo wA (MA.out _ SS0.out) (by omega) (by omega) (by omega) o1 o2)
      have I2 := hid (fun wx (b2 : Below wA.heap.size wA wx) => lreplaces_yes s T V (-1) wx (MA.out _ b2) (by omega) (by omega) (by omega) (by decide) (by decide))
      have I3 := hid (fun wx (b2 : Below wA.heap.size wA wx) => lreplaces_yes s ⟨#[]⟩ V mo wx (MA.out _ b2) (by omega) (by decide) (by omega) o1 o2)
      obtain ⟨r0, r1, r2, r6⟩ := CS.out _ SS0.out
      clear z0 z1 z2 o1 o2 J
      go_wp2_with fail
      refine I1.out.mono ?_
      rintro e v1 ⟨rfl, hb⟩
      have U1 := hid hb
      clear hb I1 r0 r1 r2 r6
      obtain ⟨r0, r1, r2, r6⟩ := CS.out _ U1.out
      go_wp2_with fail
      refine (I2.out _ U1.out).mono ?_
      rintro e v2 ⟨rfl, hb⟩
      have U2 := hid (below_on U1.out hb)
      clear hb I2 r0 r1 r2 r6
      obtain ⟨r0, r1, r2, r6⟩ := CS.out _ U2.out
      go_wp2_with fail
      refine (I3.out _ U2.out).mono ?_
      rintro e v3 ⟨rfl, hb⟩
      have U3 := hid (below_on BA.out (below_on U2.out hb))
      clear hb I3 r0 r1 r2 r6
      go_wp2_with fail
      go_roundg (qs.length - (k + 1))
      case measure => omega
      case rel => exact ⟨k + 1, by omega, by go_num, U3⟩
    · have kli : ¬ (k : Int) < (qs.length : Int) := by omega
      go_wp2_with fail
      go_ret
      exact ⟨rfl, J.out⟩
theorem replaces_len (a : Option Addr) (len cap : Nat) (qs : List Ak) (w : World) (hm : ML w) (e : qs.length = len) (hq : LK20 w a qs) (hk : ∀ q ∈ qs, AkW w q) (hn : len ≤ 2199023255552) :
    Calls Try.prog 4 #[.slice a len cap] w fun e w' => e = .returned (.bool true) ∧ Below w.heap.size w w' := by
  subst e
  exact replaces_law a cap qs w hm hq hk hn
end Go.Proofs.Ytgliefdefklfeaa
