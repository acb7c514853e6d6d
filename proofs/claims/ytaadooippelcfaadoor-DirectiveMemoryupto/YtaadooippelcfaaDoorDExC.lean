/-
  THE WALK OF DirectiveExact.
-/
import Derived.Test.YtaadooippelcfaaDoorDExB
namespace Go.Proofs.YtaadooippelcfaaDoor
open Go Go.RowKit Go.Deep Go.Shelf

theorem B12.set9 {w : World} {b : Nat} {K : Value} {S : ByteArray} {p : Dr.Pc} {a r : Option Addr} {cap c : Nat} {ps : List Dr.Pc} {WW RR : Int} (h : B12 w b K S p a cap ps WW RR) : B12 (w.setCell ⟨b, 9, none⟩ (.slice r ps.length c)) b K S p r c ps WW RR := by
  simp only [B12] at *
  simp [World.setCell, Array.getElem?_modify, h]

set_option maxRecDepth 100000 in
set_option maxHeartbeats 8000000 in
theorem exact_law (a : Option Addr) (len cap : Nat) (qs : List O13) (w : World) (hl : qs.length = len) (hp : L13 w a qs) (hq : ∀ q ∈ qs, O13W w 1048576 q) (hm : len ≤ 2199023255552) (hT : T10 w.heap.size w) :
    Calls Tryd.prog 3 #[.slice a len cap] w fun e w' => e = .returned (.bool true) ∧ Below w.heap.size w w' := by
  have HL := hid hl
  have HP := hid (fun W (hB : Below w.heap.size w W) => hp.below hB)
  have HQ := hid (fun q (h : q ∈ qs) W (hB : Below w.heap.size w W) => (hq q h).below hB)
  have AW := hid (awake_any w hT)
  have HT := hid (fun W (hB : Below w.heap.size w W) => (hT.on hB).up hB.size)
  have lb : (len : Int) ≤ 2199023255552 := by omega
  clear hl hp hq hT hm
  go_enter Tryd.func3, Tryd.ntmps3
  go_wp2_with fail
  refine AW.out.mono ?_
  rintro e w1 ⟨rfl, b1⟩
  have B1 := hid b1
  clear b1 AW
  go_wp2_with fail
  go_loopg [3] len (fun m iv wr => ∃ i : Nat, i + m = len ∧ iv = .int .i64 (i : Int) ∧ Hid (Below w.heap.size w wr))
  case atStart => exact ⟨0, by omega, rfl, B1.out⟩
  case round =>
    obtain ⟨i, hi, rfl, I⟩ := hrel
    clear B1
    by_cases il : i < len
    · have ili : (i : Int) < (len : Int) := by omega
      have ib : (i : Int) ≤ 2199023255552 := by omega
      obtain ⟨q, hqi⟩ : ∃ q, qs[i]? = some q := ⟨_, List.getElem?_eq_getElem (by have := HL.out; omega)⟩
      have QW := hid (HQ.out q (List.mem_of_getElem? hqi))
      obtain ⟨b, off, rfl, cc⟩ := (HP.out wr I.out).at hqi
      obtain ⟨c0, c1, c2, c3, c4, c5, c6, c7, c8, c9, c10, c11⟩ := cc.flat
      obtain ⟨K, S, p, a', cap', ps, WW, RR⟩ := q
      simp only at c0 c1 c2 c3 c4 c5 c6 c7 c8 c9 c10 c11
      clear cc hqi
      have aS := alloc_b wr (.cells #[.int .i64 K, .string S, .string (strOfNums p.t), .int .u8 p.v, .int .i64 p.fl, .int .i64 p.wk, .int .i64 p.wd, .int .i64 p.pk, .int .i64 p.pr, .slice a' ps.length cap', .int .i64 WW, .int .i64 RR] 28)
      have BX : Hid (B12 (wr.alloc (.cells #[.int .i64 K, .string S, .string (strOfNums p.t), .int .u8 p.v, .int .i64 p.fl, .int .i64 p.wk, .int .i64 p.wd, .int .i64 p.pk, .int .i64 p.pr, .slice a' ps.length cap', .int .i64 WW, .int .i64 RR] 28)) wr.heap.size (.int .i64 K) S p a' cap' ps WW RR) := heap_alloc_new wr _
      have J := hid (below_on I.out aS)
      have WB : Hid (w.heap.size ≤ wr.heap.size) := I.out.size
      clear aS I
      go_upto_region 7 with fail
      clear c0 c1 c2 c3 c4 c5 c6 c7 c8 c9 c10 c11
      generalize wr.alloc (.cells #[.int .i64 K, .string S, .string (strOfNums p.t), .int .u8 p.v, .int .i64 p.fl, .int .i64 p.wk, .int .i64 p.wd, .int .i64 p.pk, .int .i64 p.pr, .slice a' ps.length cap', .int .i64 WW, .int .i64 RR] 28) = wX at *
      obtain ⟨xb, hxb⟩ : ∃ xb, wr.heap.size = xb := ⟨_, rfl⟩
      rw [hxb] at BX WB ⊢
      clear hxb
      obtain ⟨-, -, d9, -, -⟩ := BX.out.cells
      have CP := hid (copied_any a' cap' ps wX (QW.out wX J.out).lp (by have := (QW.out wX J.out).ln; simp only at this; omega))
      have fz : wX.frozen? ⟨xb, 9, none⟩ = false := by have := BX.out; simp only [B12] at this; simp [World.frozen?, this]
      go_wp2_with fail
      refine CP.out.mono ?_
      rintro e w2 ⟨r, c, rfl, lp, rp, b2⟩
      have J2 := hid (below_on J.out b2)
      have BX2 := hid (BX.out.below b2)
      have LT : Hid (xb < wX.heap.size) := BX.out.lt
      have RP2 := hid rp
      clear lp rp b2 J BX CP d9 fz
      have fz : w2.frozen? ⟨xb, 9, none⟩ = false := by have := BX2.out; simp only [B12] at this; simp [World.frozen?, this]
      obtain ⟨y9, hy9⟩ : ∃ y9, w2.cell? ⟨xb, 9, none⟩ = some y9 := ⟨_, BX2.out.cells.2.2.1⟩
      have BX3 := hid (BX2.out.set9 (r := r) (c := c))
      have K3 := hid (sb_below (o := 9) (v := .slice r ps.length c) J2.out WB.out)
      have LP3 : Hid (LP (w2.setCell ⟨xb, 9, none⟩ (.slice r ps.length c)) r ps) := by
        obtain ⟨a3, c3, e3, _, l3⟩ := RowP.lp (RowP.oth (b := xb) RP2.out (w' := w2.setCell ⟨xb, 9, none⟩ (.slice r ps.length c)) ⟨rfl, rfl, rfl, by simp [World.setCell], fun j _ hj => far_heap (Ne.symm hj)⟩ LT.out)
        cases e3
        exact l3
      go_upto_region 8 with fail
      clear fz hy9 RP2 LT BX2 J2
      generalize w2.setCell ⟨xb, 9, none⟩ (.slice r ps.length c) = wZ at *
      obtain ⟨⟨d0, d1⟩, ⟨e0, e1, e2, e3, e4, e5, e6⟩, d9, d10, d11⟩ := BX3.out.cells
      have QZ := QW.out wZ K3.out
      have RT := hid (right_any ⟨K, S, p, r, c, ps, WW, RR⟩ wZ ⟨QZ.s, QZ.p, QZ.pl, LP3.out, QZ.pw, QZ.pt, QZ.ln, QZ.wb, QZ.rb⟩ (HT.out wZ K3.out))
      clear QZ BX3 LP3
      go_wp2_with fail
      refine RT.out.mono ?_
      rintro e w5 ⟨rfl, b5⟩
      have B5 := hid (below_on K3.out b5)
      clear b5 RT d0 d1 e0 e1 e2 e3 e4 e5 e6 d9 d10 d11
      go_wp2_with fail
      go_roundg (len - (i + 1))
      case measure => omega
      case rel => exact ⟨i + 1, by omega, by go_num, B5.out⟩
    · have ili : ¬ (i : Int) < (len : Int) := by omega
      go_wp2_with fail
      go_ret
      exact ⟨rfl, I.out⟩
end Go.Proofs.YtaadooippelcfaaDoor
