/-
  law13's right, kind by kind (mkdexb.py).
-/
import Derived.Test.YtaadooippelcfaaDoorGC
import Derived.Test.YtaadooippelcfaaDoorDExA
import Derived.Test.YtaadooippelcfaaDoorDRefF
import Derived.Test.YtaadooippelcfaaDoorDRefT
import Derived.Test.YtaadooippelcfaaDoorDSettle
import Derived.Test.YtaadooippelcfaaDoorDPrint
namespace Go.Proofs.YtaadooippelcfaaDoor
open Go Go.RowKit Go.Deep Go.Shelf

/-- A call's box. -/
def B12 (w : World) (b : Nat) (K : Value) (S : ByteArray) (p : Dr.Pc) (a : Option Addr) (cap : Nat) (ps : List Dr.Pc) (WW RR : Int) : Prop := w.heap[b]? = some (.cells #[K, .string S, .string (strOfNums p.t), .int .u8 p.v, .int .i64 p.fl, .int .i64 p.wk, .int .i64 p.wd, .int .i64 p.pk, .int .i64 p.pr, .slice a ps.length cap, .int .i64 WW, .int .i64 RR] 28 (0, 0))
section
variable {w w' : World} {b : Nat} {K : Value} {S : ByteArray} {p : Dr.Pc} {a : Option Addr} {cap : Nat} {ps : List Dr.Pc} {WW RR : Int}
theorem B12.lt (h : B12 w b K S p a cap ps WW RR) : b < w.heap.size := by
  rcases Nat.lt_or_ge b w.heap.size with hl | hl
  · exact hl
  · simp [B12, Array.getElem?_eq_none hl] at h
theorem B12.below (h : B12 w b K S p a cap ps WW RR) (hB : Below w.heap.size w w') : B12 w' b K S p a cap ps WW RR := by
  rw [B12, hB.block b h.lt]; exact h
theorem B12.cells (h : B12 w b K S p a cap ps WW RR) : (w.cell? ⟨b, 0, none⟩ = some K ∧ w.cell? ⟨b, 1, none⟩ = some (.string S)) ∧ (w.cell? ⟨b, 2, none⟩ = some (.string (strOfNums p.t)) ∧ w.cell? ⟨b, 3, none⟩ = some (.int .u8 p.v) ∧ w.cell? ⟨b, 4, none⟩ = some (.int .i64 p.fl) ∧ w.cell? ⟨b, 5, none⟩ = some (.int .i64 p.wk) ∧ w.cell? ⟨b, 6, none⟩ = some (.int .i64 p.wd) ∧ w.cell? ⟨b, 7, none⟩ = some (.int .i64 p.pk) ∧ w.cell? ⟨b, 8, none⟩ = some (.int .i64 p.pr)) ∧ w.cell? ⟨b, 9, none⟩ = some (.slice a ps.length cap) ∧ w.cell? ⟨b, 10, none⟩ = some (.int .i64 WW) ∧ w.cell? ⟨b, 11, none⟩ = some (.int .i64 RR) := by
  simp only [B12] at h
  refine ⟨⟨?_, ?_⟩, ⟨?_, ?_, ?_, ?_, ?_, ?_, ?_⟩, ?_, ?_, ?_⟩ <;> simp [World.cell?, h]
end
theorem spv_shape (p : Dr.Pc) (x y : Int) : ∃ a b c d : Int, spv p x y = #[.int .u8 a, .int .i64 b, .int .i64 c, .int .i64 d] := by
  unfold spv
  split <;> exact ⟨_, _, _, _, rfl⟩
theorem sgS_shape (xs : List Int) : ∃ a b c d : Int, Dr.sgS xs = #[.int .u8 a, .int .i64 b, .int .i64 c, .int .i64 d] := by
  unfold Dr.sgS
  split
  · exact spv_shape _ _ _
  · exact ⟨_, _, _, _, rfl⟩
theorem str_nums (s : ByteArray) : ∃ xs, Str s xs ∧ xs.length = s.size := ⟨_, Str.self s, by simp⟩
theorem dtok (w : World) : Below w.heap.size w w.drew := Below.drew (Below.refl _ _)

set_option maxRecDepth 100000 in
set_option maxHeartbeats 4000000 in
theorem right_0 (K : Int) (S : ByteArray) (p : Dr.Pc) (a : Option Addr) (cap : Nat) (ps : List Dr.Pc) (WW RR : Int) (w : World) (h1 : K ≠ 1) (h2 : K ≠ 2) (h3 : K ≠ 3) (h4 : K ≠ 4) (h5 : K ≠ 5) (h6 : K ≠ 6) :
    Calls Tryd.prog 7 #[.agg #[.int .i64 K, .string S, .string (strOfNums p.t), .int .u8 p.v, .int .i64 p.fl, .int .i64 p.wk, .int .i64 p.wd, .int .i64 p.pk, .int .i64 p.pr, .slice a ps.length cap, .int .i64 WW, .int .i64 RR]] w fun e w' => e = .returned (.bool true) ∧ Below w.heap.size w w' := by
  have B0 := hid (alloc_b w (.cells #[.int .i64 K, .string S, .string (strOfNums p.t), .int .u8 p.v, .int .i64 p.fl, .int .i64 p.wk, .int .i64 p.wd, .int .i64 p.pk, .int .i64 p.pr, .slice a ps.length cap, .int .i64 WW, .int .i64 RR] 28))
  have C0 : Hid (B12 (w.alloc (.cells #[.int .i64 K, .string S, .string (strOfNums p.t), .int .u8 p.v, .int .i64 p.fl, .int .i64 p.wk, .int .i64 p.wd, .int .i64 p.pk, .int .i64 p.pr, .slice a ps.length cap, .int .i64 WW, .int .i64 RR] 28)) w.heap.size (.int .i64 K) S p a cap ps WW RR) := heap_alloc_new w _
  have k1 : (K == 1) = false := by simpa using h1
  have k2 : (K == 2) = false := by simpa using h2
  have k3 : (K == 3) = false := by simpa using h3
  have k4 : (K == 4) = false := by simpa using h4
  have k5 : (K == 5) = false := by simpa using h5
  have k6 : (K == 6) = false := by simpa using h6
  clear h1 h2 h3 h4 h5 h6
  go_enter Tryd.func7, Tryd.ntmps7
  go_upto_region 1 with fail
  generalize w.alloc (.cells #[.int .i64 K, .string S, .string (strOfNums p.t), .int .u8 p.v, .int .i64 p.fl, .int .i64 p.wk, .int .i64 p.wd, .int .i64 p.pk, .int .i64 p.pr, .slice a ps.length cap, .int .i64 WW, .int .i64 RR] 28) = wA at *
  obtain ⟨⟨d0, d1⟩, ⟨c0, c1, c2, c3, c4, c5, c6⟩, d2, d3, d4⟩ := C0.out.cells
  go_wp2_with fail
  go_ret
  exact ⟨rfl, B0.out⟩

set_option maxRecDepth 100000 in
set_option maxHeartbeats 4000000 in
theorem right_1 (S : ByteArray) (p : Dr.Pc) (a : Option Addr) (cap : Nat) (ps : List Dr.Pc) (WW RR : Int) (w : World) (h : O13W w 1048576 ⟨1, S, p, a, cap, ps, WW, RR⟩) :
    Calls Tryd.prog 7 #[.agg #[.int .i64 1, .string S, .string (strOfNums p.t), .int .u8 p.v, .int .i64 p.fl, .int .i64 p.wk, .int .i64 p.wd, .int .i64 p.pk, .int .i64 p.pr, .slice a ps.length cap, .int .i64 WW, .int .i64 RR]] w fun e w' => e = .returned (.bool true) ∧ Below w.heap.size w w' := by
  have B0 := hid (alloc_b w (.cells #[.int .i64 1, .string S, .string (strOfNums p.t), .int .u8 p.v, .int .i64 p.fl, .int .i64 p.wk, .int .i64 p.wd, .int .i64 p.pk, .int .i64 p.pr, .slice a ps.length cap, .int .i64 WW, .int .i64 RR] 28))
  have C0 : Hid (B12 (w.alloc (.cells #[.int .i64 1, .string S, .string (strOfNums p.t), .int .u8 p.v, .int .i64 p.fl, .int .i64 p.wk, .int .i64 p.wd, .int .i64 p.pk, .int .i64 p.pr, .slice a ps.length cap, .int .i64 WW, .int .i64 RR] 28)) w.heap.size (.int .i64 1) S p a cap ps WW RR) := heap_alloc_new w _
  obtain ⟨xs, hs, hl⟩ := str_nums S
  have sl := h.s
  simp only at sl
  have PA := hid (fun W => parse_any S xs W hs (by omega))
  have PB := hid (fun W => rparse_any S xs W hs (by omega))
  have LG := hid (Dr.prs_lng _ xs (Nat.le_refl _))
  have LL : Hid (xs.length ≤ 1048576) := by show _ ≤ _; omega
  clear h hs hl sl
  go_enter Tryd.func7, Tryd.ntmps7
  go_upto_region 1 with fail
  generalize w.alloc (.cells #[.int .i64 1, .string S, .string (strOfNums p.t), .int .u8 p.v, .int .i64 p.fl, .int .i64 p.wk, .int .i64 p.wd, .int .i64 p.pk, .int .i64 p.pr, .slice a ps.length cap, .int .i64 WW, .int .i64 RR] 28) = wA at *
  obtain ⟨⟨d0, d1⟩, ⟨c0, c1, c2, c3, c4, c5, c6⟩, d2, d3, d4⟩ := C0.out.cells
  go_wp2_with fail
  refine (PA.out _).mono ?_
  rintro e w1 ⟨mv, rfl, r1, b1⟩
  obtain ⟨a1, c1', rfl, _, lp⟩ := r1.lp
  have L1 := hid lp
  have B1 := hid (below_on B0.out b1)
  have C1 := hid (C0.out.below b1)
  clear r1 lp b1 C0 B0 PA d0 d1 c0 c1 c2 c3 c4 c5 c6 d2 d3 d4
  obtain ⟨⟨d0, d1⟩, -⟩ := C1.out.cells
  go_wp2_with fail
  refine (PB.out _).mono ?_
  rintro e w2 ⟨mv2, rfl, r2, b2⟩
  obtain ⟨a2, c2', rfl, _, lp2⟩ := r2.lp
  have L1 := hid (L1.out.below b2)
  have L2 := hid lp2
  have B2 := hid (below_on B1.out b2)
  have SM := hid (same_any a1 a2 c1' c2' (Dr.prs xs).1 w2 L1.out L2.out (by have := LG.out; have := LL.out; omega))
  clear r2 lp2 b2 C1 B1 PB d0 d1 L1 L2 LG LL
  generalize (Dr.prs xs).1 = qs at *
  generalize (((Dr.prs xs).2.1 : Nat) : Int) = at_ at *
  generalize (Dr.prs xs).2.2 = er at *
  go_wp2_with fail
  refine SM.out.mono ?_
  rintro e w3 ⟨rfl, b3⟩
  have B3 := hid (below_on B2.out b3)
  clear b3 B2 SM
  go_wp2_with fail
  go_ret
  exact ⟨by simp, B3.out⟩

set_option maxRecDepth 100000 in
set_option maxHeartbeats 4000000 in
theorem right_2 (S : ByteArray) (p : Dr.Pc) (a : Option Addr) (cap : Nat) (ps : List Dr.Pc) (WW RR : Int) (w : World) (h : O13W w 1048576 ⟨2, S, p, a, cap, ps, WW, RR⟩) :
    Calls Tryd.prog 7 #[.agg #[.int .i64 2, .string S, .string (strOfNums p.t), .int .u8 p.v, .int .i64 p.fl, .int .i64 p.wk, .int .i64 p.wd, .int .i64 p.pk, .int .i64 p.pr, .slice a ps.length cap, .int .i64 WW, .int .i64 RR]] w fun e w' => e = .returned (.bool true) ∧ Below w.heap.size w w' := by
  have B0 := hid (alloc_b w (.cells #[.int .i64 2, .string S, .string (strOfNums p.t), .int .u8 p.v, .int .i64 p.fl, .int .i64 p.wk, .int .i64 p.wd, .int .i64 p.pk, .int .i64 p.pr, .slice a ps.length cap, .int .i64 WW, .int .i64 RR] 28))
  have C0 : Hid (B12 (w.alloc (.cells #[.int .i64 2, .string S, .string (strOfNums p.t), .int .u8 p.v, .int .i64 p.fl, .int .i64 p.wk, .int .i64 p.wd, .int .i64 p.pk, .int .i64 p.pr, .slice a ps.length cap, .int .i64 WW, .int .i64 RR] 28)) w.heap.size (.int .i64 2) S p a cap ps WW RR) := heap_alloc_new w _
  have K1 := hid (fun W => check_pc p W h.p)
  have K2 := hid (fun W => rcheck_pc p W h.p (by have := h.pl; simp only at this; omega))
  clear h
  go_enter Tryd.func7, Tryd.ntmps7
  go_upto_region 1 with fail
  generalize w.alloc (.cells #[.int .i64 2, .string S, .string (strOfNums p.t), .int .u8 p.v, .int .i64 p.fl, .int .i64 p.wk, .int .i64 p.wd, .int .i64 p.pk, .int .i64 p.pr, .slice a ps.length cap, .int .i64 WW, .int .i64 RR] 28) = wA at *
  obtain ⟨⟨d0, d1⟩, ⟨c0, c1, c2, c3, c4, c5, c6⟩, d2, d3, d4⟩ := C0.out.cells
  clear d2 d3 d4
  go_upto_region 7 with fail
  clear d0 d1 c0 c1 c2 c3 c4 c5 c6
  have FT : Hid (∀ w' : World, Below wA.heap.size wA w' → w'.cell? ⟨w.heap.size, 2, none⟩ = some (.string (strOfNums p.t)) ∧ w'.cell? ⟨w.heap.size, 3, none⟩ = some (.int .u8 p.v) ∧ w'.cell? ⟨w.heap.size, 4, none⟩ = some (.int .i64 p.fl) ∧ w'.cell? ⟨w.heap.size, 5, none⟩ = some (.int .i64 p.wk) ∧ w'.cell? ⟨w.heap.size, 6, none⟩ = some (.int .i64 p.wd) ∧ w'.cell? ⟨w.heap.size, 7, none⟩ = some (.int .i64 p.pk) ∧ w'.cell? ⟨w.heap.size, 8, none⟩ = some (.int .i64 p.pr)) := fun wx hB => (C0.out.below hB).cells.2.1
  have T0 := hid (dtok wA)
  have BB := hid (fun W (hB : Below wA.heap.size wA W) => below_on B0.out hB)
  clear C0 B0
  generalize okN p = E at *
  go_region_held3 (fun w' => w'.cell? ⟨w.heap.size, 2, none⟩ = some (.string (strOfNums p.t)) ∧ w'.cell? ⟨w.heap.size, 3, none⟩ = some (.int .u8 p.v) ∧ w'.cell? ⟨w.heap.size, 4, none⟩ = some (.int .i64 p.fl) ∧ w'.cell? ⟨w.heap.size, 5, none⟩ = some (.int .i64 p.wk) ∧ w'.cell? ⟨w.heap.size, 6, none⟩ = some (.int .i64 p.wd) ∧ w'.cell? ⟨w.heap.size, 7, none⟩ = some (.int .i64 p.pk) ∧ w'.cell? ⟨w.heap.size, 8, none⟩ = some (.int .i64 p.pr)) (first | (with_reducible exact FT.out _ T2.out) | (with_reducible exact FT.out _ T1.out) | (with_reducible exact FT.out _ T0.out)) (first
    | (go_at_call 15; with_reducible refine (K1.out _).mono ?_; rintro e w6 ⟨rfl, hB⟩; have T2 := hid (below_on T1.out hB); clear hB)
    | (go_at_call 16; with_reducible refine (K2.out _).mono ?_; rintro e w6 ⟨rfl, hB⟩; have T2 := hid (below_on T1.out hB); clear hB)
    | (go_at_call 15; with_reducible refine (K1.out _).mono ?_; rintro e w6 ⟨rfl, hB⟩; have T1 := hid (below_on T0.out hB); clear hB)
    | (go_at_call 16; with_reducible refine (K2.out _).mono ?_; rintro e w6 ⟨rfl, hB⟩; have T1 := hid (below_on T0.out hB); clear hB))
  all_goals
    have F := hid (BB.out _ T2.out)
    go_wp2_with fail
    go_ret
    exact ⟨by simp, F.out⟩

set_option maxRecDepth 100000 in
set_option maxHeartbeats 4000000 in
theorem right_3 (S : ByteArray) (p : Dr.Pc) (a : Option Addr) (cap : Nat) (ps : List Dr.Pc) (WW RR : Int) (w : World) (h : O13W w 1048576 ⟨3, S, p, a, cap, ps, WW, RR⟩) (hT : T10 w.heap.size w) :
    Calls Tryd.prog 7 #[.agg #[.int .i64 3, .string S, .string (strOfNums p.t), .int .u8 p.v, .int .i64 p.fl, .int .i64 p.wk, .int .i64 p.wd, .int .i64 p.pk, .int .i64 p.pr, .slice a ps.length cap, .int .i64 WW, .int .i64 RR]] w fun e w' => e = .returned (.bool true) ∧ Below w.heap.size w w' := by
  have B0 := hid (alloc_b w (.cells #[.int .i64 3, .string S, .string (strOfNums p.t), .int .u8 p.v, .int .i64 p.fl, .int .i64 p.wk, .int .i64 p.wd, .int .i64 p.pk, .int .i64 p.pr, .slice a ps.length cap, .int .i64 WW, .int .i64 RR] 28))
  have C0 : Hid (B12 (w.alloc (.cells #[.int .i64 3, .string S, .string (strOfNums p.t), .int .u8 p.v, .int .i64 p.fl, .int .i64 p.wk, .int .i64 p.wd, .int .i64 p.pk, .int .i64 p.pr, .slice a ps.length cap, .int .i64 WW, .int .i64 RR] 28)) w.heap.size (.int .i64 3) S p a cap ps WW RR) := heap_alloc_new w _
  have CP := hid (fun W (hB : Below w.heap.size w W) => copied_any a cap ps W (h.lp.below hB) (by have := h.ln; simp only at this; omega))
  have R1 := hid (fun W (r : Option Addr) (c : Nat) (hl : LP W r ps) => rprint_any r c ps W hl (by have := h.ln; simp only at this; omega) h.pw (fun x hx => by have := h.pt x hx; omega))
  have R2 := hid (fun W (hB : Below w.heap.size w W) => print_any a cap ps W (h.lp.below hB) (by have := h.ln; simp only at this; omega) h.pw (fun x hx => by have := h.pt x hx; omega) ((hT.on hB).up hB.size))
  unfold PrTold at R1 R2
  clear h hT
  generalize Dr.prT ps = TX at *
  generalize Dr.prE ps = EX at *
  go_enter Tryd.func7, Tryd.ntmps7
  go_upto_region 1 with fail
  generalize w.alloc (.cells #[.int .i64 3, .string S, .string (strOfNums p.t), .int .u8 p.v, .int .i64 p.fl, .int .i64 p.wk, .int .i64 p.wd, .int .i64 p.pk, .int .i64 p.pr, .slice a ps.length cap, .int .i64 WW, .int .i64 RR] 28) = wA at *
  obtain ⟨⟨d0, d1⟩, ⟨c0, c1, c2, c3, c4, c5, c6⟩, d2, d3, d4⟩ := C0.out.cells
  go_wp2_with fail
  refine (CP.out _ B0.out).mono ?_
  rintro e w1 ⟨r, c, rfl, lp, _, b1⟩
  have LC := hid lp
  have B1 := hid (below_on B0.out b1)
  have C1 := hid (C0.out.below b1)
  clear lp b1 C0 B0 CP d0 d1 c0 c1 c2 c3 c4 c5 c6 d2 d3 d4
  have LR := hid (R1.out _ r c LC.out)
  clear R1 LC
  go_wp2_with fail
  refine LR.out.mono ?_
  rintro e w2 ⟨rfl, b2⟩
  have B2 := hid (below_on B1.out b2)
  have C2 := hid (C1.out.below b2)
  clear b2 B1 C1 LR
  obtain ⟨⟨d0, d1⟩, -, d2, -, -⟩ := C2.out.cells
  have LR := hid (R2.out _ B2.out)
  clear R2
  go_wp2_with fail
  refine LR.out.mono ?_
  rintro e w3 ⟨rfl, b3⟩
  have B3 := hid (below_on B2.out b3)
  clear b3 B2 C2 LR d0 d1 d2
  go_wp2_with fail
  go_ret
  exact ⟨by simp, B3.out⟩

set_option maxRecDepth 100000 in
set_option maxHeartbeats 4000000 in
theorem right_4 (S : ByteArray) (p : Dr.Pc) (a : Option Addr) (cap : Nat) (ps : List Dr.Pc) (WW RR : Int) (w : World) (h : O13W w 1048576 ⟨4, S, p, a, cap, ps, WW, RR⟩) :
    Calls Tryd.prog 7 #[.agg #[.int .i64 4, .string S, .string (strOfNums p.t), .int .u8 p.v, .int .i64 p.fl, .int .i64 p.wk, .int .i64 p.wd, .int .i64 p.pk, .int .i64 p.pr, .slice a ps.length cap, .int .i64 WW, .int .i64 RR]] w fun e w' => e = .returned (.bool true) ∧ Below w.heap.size w w' := by
  have B0 := hid (alloc_b w (.cells #[.int .i64 4, .string S, .string (strOfNums p.t), .int .u8 p.v, .int .i64 p.fl, .int .i64 p.wk, .int .i64 p.wd, .int .i64 p.pk, .int .i64 p.pr, .slice a ps.length cap, .int .i64 WW, .int .i64 RR] 28))
  have C0 : Hid (B12 (w.alloc (.cells #[.int .i64 4, .string S, .string (strOfNums p.t), .int .u8 p.v, .int .i64 p.fl, .int .i64 p.wk, .int .i64 p.wd, .int .i64 p.pk, .int .i64 p.pr, .slice a ps.length cap, .int .i64 WW, .int .i64 RR] 28)) w.heap.size (.int .i64 4) S p a cap ps WW RR) := heap_alloc_new w _
  have CP := hid (fun W (hB : Below w.heap.size w W) => copied_any a cap ps W (h.lp.below hB) (by have := h.ln; simp only at this; omega))
  have R1 := hid (fun W (r : Option Addr) (c : Nat) (hl : LP W r ps) => rwants_any r c ps W hl (by have := h.ln; simp only at this; omega))
  have R2 := hid (fun W (hB : Below w.heap.size w W) => wants_any a cap ps W (h.lp.below hB) (by have := h.ln; simp only at this; omega))
  clear h
  generalize Dr.wants ps = NX at *
  go_enter Tryd.func7, Tryd.ntmps7
  go_upto_region 1 with fail
  generalize w.alloc (.cells #[.int .i64 4, .string S, .string (strOfNums p.t), .int .u8 p.v, .int .i64 p.fl, .int .i64 p.wk, .int .i64 p.wd, .int .i64 p.pk, .int .i64 p.pr, .slice a ps.length cap, .int .i64 WW, .int .i64 RR] 28) = wA at *
  obtain ⟨⟨d0, d1⟩, ⟨c0, c1, c2, c3, c4, c5, c6⟩, d2, d3, d4⟩ := C0.out.cells
  go_wp2_with fail
  refine (CP.out _ B0.out).mono ?_
  rintro e w1 ⟨r, c, rfl, lp, _, b1⟩
  have LC := hid lp
  have B1 := hid (below_on B0.out b1)
  have C1 := hid (C0.out.below b1)
  clear lp b1 C0 B0 CP d0 d1 c0 c1 c2 c3 c4 c5 c6 d2 d3 d4
  have LR := hid (R1.out _ r c LC.out)
  clear R1 LC
  go_wp2_with fail
  refine LR.out.mono ?_
  rintro e w2 ⟨rfl, b2⟩
  have B2 := hid (below_on B1.out b2)
  have C2 := hid (C1.out.below b2)
  clear b2 B1 C1 LR
  obtain ⟨⟨d0, d1⟩, -, d2, -, -⟩ := C2.out.cells
  have LR := hid (R2.out _ B2.out)
  clear R2
  go_wp2_with fail
  refine LR.out.mono ?_
  rintro e w3 ⟨rfl, b3⟩
  have B3 := hid (below_on B2.out b3)
  clear b3 B2 C2 LR d0 d1 d2
  go_wp2_with fail
  go_ret
  exact ⟨by simp, B3.out⟩

set_option maxRecDepth 100000 in
set_option maxHeartbeats 4000000 in
theorem right_5 (S : ByteArray) (p : Dr.Pc) (a : Option Addr) (cap : Nat) (ps : List Dr.Pc) (WW RR : Int) (w : World) (h : O13W w 1048576 ⟨5, S, p, a, cap, ps, WW, RR⟩) :
    Calls Tryd.prog 7 #[.agg #[.int .i64 5, .string S, .string (strOfNums p.t), .int .u8 p.v, .int .i64 p.fl, .int .i64 p.wk, .int .i64 p.wd, .int .i64 p.pk, .int .i64 p.pr, .slice a ps.length cap, .int .i64 WW, .int .i64 RR]] w fun e w' => e = .returned (.bool true) ∧ Below w.heap.size w w' := by
  have B0 := hid (alloc_b w (.cells #[.int .i64 5, .string S, .string (strOfNums p.t), .int .u8 p.v, .int .i64 p.fl, .int .i64 p.wk, .int .i64 p.wd, .int .i64 p.pk, .int .i64 p.pr, .slice a ps.length cap, .int .i64 WW, .int .i64 RR] 28))
  have C0 : Hid (B12 (w.alloc (.cells #[.int .i64 5, .string S, .string (strOfNums p.t), .int .u8 p.v, .int .i64 p.fl, .int .i64 p.wk, .int .i64 p.wd, .int .i64 p.pk, .int .i64 p.pr, .slice a ps.length cap, .int .i64 WW, .int .i64 RR] 28)) w.heap.size (.int .i64 5) S p a cap ps WW RR) := heap_alloc_new w _
  have R1 := hid (fun W => settle_any p WW RR W h.p h.wb.1 h.wb.2 h.rb.1 h.rb.2)
  have R2 := hid (fun W => rsettle_any p WW RR W h.p h.wb.1 h.wb.2)
  unfold SeTold at R1 R2
  obtain ⟨q1, q2, q3, q4, hq⟩ := spv_shape p WW RR
  rw [hq] at R1 R2
  have EQ := hid (fun W => eq_spec13 q1 q2 q3 q4 q1 q2 q3 q4 W)
  clear h hq
  generalize ste p WW RR = EX at *
  go_enter Tryd.func7, Tryd.ntmps7
  go_upto_region 1 with fail
  generalize w.alloc (.cells #[.int .i64 5, .string S, .string (strOfNums p.t), .int .u8 p.v, .int .i64 p.fl, .int .i64 p.wk, .int .i64 p.wd, .int .i64 p.pk, .int .i64 p.pr, .slice a ps.length cap, .int .i64 WW, .int .i64 RR] 28) = wA at *
  obtain ⟨⟨d0, d1⟩, ⟨c0, c1, c2, c3, c4, c5, c6⟩, d2, d3, d4⟩ := C0.out.cells
  go_wp2_with fail
  refine (R1.out _).mono ?_
  rintro e w1 ⟨rfl, b1⟩
  have B1 := hid (below_on B0.out b1)
  have C1 := hid (C0.out.below b1)
  clear b1 C0 B0 R1 d0 d1 c0 c1 c2 c3 c4 c5 c6 d2 d3 d4
  have aS := alloc_b w1 (.cells #[.int .u8 q1, .int .i64 q2, .int .i64 q3, .int .i64 q4] 46)
  have B2 := hid (below_on B1.out aS)
  have C2 := hid (C1.out.below aS)
  have X2 := hid (S4.new w1 (.int .u8 q1) (.int .i64 q2) (.int .i64 q3) (.int .i64 q4))
  clear aS B1 C1
  go_upto_region 17 with fail
  generalize w1.alloc (.cells #[.int .u8 q1, .int .i64 q2, .int .i64 q3, .int .i64 q4] 46) = wX at *
  obtain ⟨xb, hxb⟩ : ∃ xb, w1.heap.size = xb := ⟨_, rfl⟩
  rw [hxb] at X2 ⊢
  clear hxb
  obtain ⟨-, ⟨c0, c1, c2, c3, c4, c5, c6⟩, -, d3, d4⟩ := C2.out.cells
  go_wp2_with fail
  refine (R2.out _).mono ?_
  rintro e w2 ⟨rfl, b2⟩
  have B3 := hid (below_on B2.out b2)
  have X3 := hid (X2.out.below b2)
  clear b2 B2 C2 R2 X2 c0 c1 c2 c3 c4 c5 c6 d3 d4
  have aS := alloc_b w2 (.cells #[.int .u8 q1, .int .i64 q2, .int .i64 q3, .int .i64 q4] 46)
  have B4 := hid (below_on B3.out aS)
  have X4 := hid (X3.out.below aS)
  have Y4 := hid (S4.new w2 (.int .u8 q1) (.int .i64 q2) (.int .i64 q3) (.int .i64 q4))
  clear aS B3 X3
  go_upto_region 18 with fail
  generalize w2.alloc (.cells #[.int .u8 q1, .int .i64 q2, .int .i64 q3, .int .i64 q4] 46) = wY at *
  obtain ⟨yb, hyb⟩ : ∃ yb, w2.heap.size = yb := ⟨_, rfl⟩
  rw [hyb] at Y4 ⊢
  clear hyb
  obtain ⟨⟨x0, x1, x2, x3⟩, -⟩ := X4.out.cells
  obtain ⟨⟨y0, y1, y2, y3⟩, -⟩ := Y4.out.cells
  have EQ' := EQ.out
  simp only [beq_self_eq_true, Bool.and_self] at EQ'
  go_wp2_with fail
  go_ret
  exact ⟨by simp, B4.out⟩

set_option maxRecDepth 100000 in
set_option maxHeartbeats 4000000 in
theorem right_6 (S : ByteArray) (p : Dr.Pc) (a : Option Addr) (cap : Nat) (ps : List Dr.Pc) (WW RR : Int) (w : World) (h : O13W w 1048576 ⟨6, S, p, a, cap, ps, WW, RR⟩) :
    Calls Tryd.prog 7 #[.agg #[.int .i64 6, .string S, .string (strOfNums p.t), .int .u8 p.v, .int .i64 p.fl, .int .i64 p.wk, .int .i64 p.wd, .int .i64 p.pk, .int .i64 p.pr, .slice a ps.length cap, .int .i64 WW, .int .i64 RR]] w fun e w' => e = .returned (.bool true) ∧ Below w.heap.size w w' := by
  have B0 := hid (alloc_b w (.cells #[.int .i64 6, .string S, .string (strOfNums p.t), .int .u8 p.v, .int .i64 p.fl, .int .i64 p.wk, .int .i64 p.wd, .int .i64 p.pk, .int .i64 p.pr, .slice a ps.length cap, .int .i64 WW, .int .i64 RR] 28))
  have C0 : Hid (B12 (w.alloc (.cells #[.int .i64 6, .string S, .string (strOfNums p.t), .int .u8 p.v, .int .i64 p.fl, .int .i64 p.wk, .int .i64 p.wd, .int .i64 p.pk, .int .i64 p.pr, .slice a ps.length cap, .int .i64 WW, .int .i64 RR] 28)) w.heap.size (.int .i64 6) S p a cap ps WW RR) := heap_alloc_new w _
  obtain ⟨xs, hs, hl⟩ := str_nums S
  have sl := h.s
  simp only at sl
  have R1 := hid (fun W => dsingle_any S xs W hs (by omega))
  have R2 := hid (fun W => rsingle_any S xs W hs (by omega))
  unfold SgTold at R1 R2
  obtain ⟨q1, q2, q3, q4, hq⟩ := sgS_shape xs
  rw [hq] at R1 R2
  have EQ := hid (fun W => eq_spec13 q1 q2 q3 q4 q1 q2 q3 q4 W)
  clear h hq hs hl sl
  generalize strOfNums (Dr.sgA xs) = sA at *
  generalize strOfNums (Dr.sgB xs) = sB at *
  generalize Dr.sgO xs = ok at *
  go_enter Tryd.func7, Tryd.ntmps7
  go_upto_region 1 with fail
  generalize w.alloc (.cells #[.int .i64 6, .string S, .string (strOfNums p.t), .int .u8 p.v, .int .i64 p.fl, .int .i64 p.wk, .int .i64 p.wd, .int .i64 p.pk, .int .i64 p.pr, .slice a ps.length cap, .int .i64 WW, .int .i64 RR] 28) = wA at *
  obtain ⟨⟨d0, d1⟩, ⟨c0, c1, c2, c3, c4, c5, c6⟩, d2, d3, d4⟩ := C0.out.cells
  go_wp2_with fail
  refine (R1.out _).mono ?_
  rintro e w1 ⟨rfl, b1⟩
  have B1 := hid (below_on B0.out b1)
  have C1 := hid (C0.out.below b1)
  clear b1 C0 B0 R1 d0 d1 c0 c1 c2 c3 c4 c5 c6 d2 d3 d4
  have aS := alloc_b w1 (.cells #[.int .u8 q1, .int .i64 q2, .int .i64 q3, .int .i64 q4] 46)
  have B2 := hid (below_on B1.out aS)
  have C2 := hid (C1.out.below aS)
  have X2 := hid (S4.new w1 (.int .u8 q1) (.int .i64 q2) (.int .i64 q3) (.int .i64 q4))
  clear aS B1 C1
  go_upto_region 21 with fail
  generalize w1.alloc (.cells #[.int .u8 q1, .int .i64 q2, .int .i64 q3, .int .i64 q4] 46) = wX at *
  obtain ⟨xb, hxb⟩ : ∃ xb, w1.heap.size = xb := ⟨_, rfl⟩
  rw [hxb] at X2 ⊢
  clear hxb
  obtain ⟨⟨d0, d1⟩, -⟩ := C2.out.cells
  go_wp2_with fail
  refine (R2.out _).mono ?_
  rintro e w2 ⟨rfl, b2⟩
  have B3 := hid (below_on B2.out b2)
  have X3 := hid (X2.out.below b2)
  clear b2 B2 C2 R2 X2 d0 d1
  have aS := alloc_b w2 (.cells #[.int .u8 q1, .int .i64 q2, .int .i64 q3, .int .i64 q4] 46)
  have B4 := hid (below_on B3.out aS)
  have X4 := hid (X3.out.below aS)
  have Y4 := hid (S4.new w2 (.int .u8 q1) (.int .i64 q2) (.int .i64 q3) (.int .i64 q4))
  clear aS B3 X3
  go_upto_region 22 with fail
  generalize w2.alloc (.cells #[.int .u8 q1, .int .i64 q2, .int .i64 q3, .int .i64 q4] 46) = wY at *
  obtain ⟨yb, hyb⟩ : ∃ yb, w2.heap.size = yb := ⟨_, rfl⟩
  rw [hyb] at Y4 ⊢
  clear hyb
  obtain ⟨⟨x0, x1, x2, x3⟩, -⟩ := X4.out.cells
  obtain ⟨⟨y0, y1, y2, y3⟩, -⟩ := Y4.out.cells
  have EQ' := EQ.out
  simp only [beq_self_eq_true, Bool.and_self] at EQ'
  go_wp2_with fail
  go_ret
  exact ⟨by simp, B4.out⟩

theorem right_any (q : O13) (w : World) (h : O13W w 1048576 q) (hT : T10 w.heap.size w) : Calls Tryd.prog 7 #[.agg (o13v q)] w fun e w' => e = .returned (.bool true) ∧ Below w.heap.size w w' := by
  obtain ⟨K, S, p, a, cap, ps, WW, RR⟩ := q
  by_cases h1 : K = 1
  · subst h1; exact right_1 S p a cap ps WW RR w h
  by_cases h2 : K = 2
  · subst h2; exact right_2 S p a cap ps WW RR w h
  by_cases h3 : K = 3
  · subst h3; exact right_3 S p a cap ps WW RR w h hT
  by_cases h4 : K = 4
  · subst h4; exact right_4 S p a cap ps WW RR w h
  by_cases h5 : K = 5
  · subst h5; exact right_5 S p a cap ps WW RR w h
  by_cases h6 : K = 6
  · subst h6; exact right_6 S p a cap ps WW RR w h
  · exact right_0 K S p a cap ps WW RR w h1 h2 h3 h4 h5 h6
end Go.Proofs.YtaadooippelcfaaDoor
