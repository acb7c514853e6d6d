/-
  Texts put together: PoNear, PoNearL, FTab, PoCase, OpenSpc.
-/
import Derived.Test.YtaoaniigbooihaaGreatDoorRI
import Derived.Deep.DeepCutAuto
import Derived.Test.YtaoaniigbooihaaGreatDoorRB
import Derived.Lib.LaidTab
import Derived.Test.YtaoaniigbooihaaGreatDoorRE
import Derived.Test.YtaoaniigbooihaaGreatDoorRows
import Derived.Lib.LaidCaseMet
import Derived.Deep.DeepWitnessRowRef
import Derived.Test.YtaoaniigbooihaaGreatDoorRD
import Derived.SizedLaws
import Derived.ProofKit
namespace Go.Proofs.YtaoaniigbooihaaGreatDoor
open Go Go.RowKit Go.Deep Go.Shelf

theorem S4.set1 {w : World} {b : Nat} {v v0 v1 v2 v3 : Value} (h : S4 w b v0 v1 v2 v3) : S4 (w.setCell ⟨b, 1, none⟩ v) b v0 v v2 v3 := fset1 (o := 1) (v := v) (c' := #[v0, v, v2, v3]) h (by simp [Array.setIfInBounds])
theorem S4.set2 {w : World} {b : Nat} {v v0 v1 v2 v3 : Value} (h : S4 w b v0 v1 v2 v3) : S4 (w.setCell ⟨b, 2, none⟩ v) b v0 v1 v v3 := fset1 (o := 2) (v := v) (c' := #[v0, v1, v, v3]) h (by simp [Array.setIfInBounds])
theorem SB.set1 {w0 wk : World} {V F W P : Int} (h : SB w0 w0.heap.size V F W P wk) (F' : Int) : SB w0 w0.heap.size V F' W P (wk.setCell ⟨w0.heap.size, 1, none⟩ (.int .i64 F')) := ⟨h.bel.setCell (p := ⟨w0.heap.size, 1, none⟩) (Nat.le_refl _) _, h.box.set1⟩
theorem SB.set2 {w0 wk : World} {V F W P : Int} (h : SB w0 w0.heap.size V F W P wk) (W' : Int) : SB w0 w0.heap.size V F W' P (wk.setCell ⟨w0.heap.size, 2, none⟩ (.int .i64 W')) := ⟨h.bel.setCell (p := ⟨w0.heap.size, 2, none⟩) (Nat.le_refl _) _, h.box.set2⟩

/-- The Spec's box, and two Decs'. -/
structure ND (w0 : World) (V F P : Int) (b1 b2 : Nat) (n1 : Bool) (s1 : ByteArray) (e1 : Int) (n2 : Bool) (s2 : ByteArray) (e2 : Int) (wk : World) : Prop where
  sb : SB w0 w0.heap.size V F 0 P wk
  y : FR3 wk b1 (.bool n1) (.string s1) (.int .i64 e1)
  v : FR3 wk b2 (.bool n2) (.string s2) (.int .i64 e2)
theorem ND.on {w0 wk w' : World} {V F P : Int} {b1 b2 : Nat} {n1 n2 : Bool} {s1 s2 : ByteArray} {e1 e2 : Int} (h : ND w0 V F P b1 b2 n1 s1 e1 n2 s2 e2 wk) (k : Below wk.heap.size wk w') : ND w0 V F P b1 b2 n1 s1 e1 n2 s2 e2 w' := ⟨h.sb.on k, h.y.below k h.y.lt, h.v.below k h.v.lt⟩
/-- The same with the first Dec alone. -/
structure NY (w0 : World) (V F P : Int) (b1 : Nat) (n1 : Bool) (s1 : ByteArray) (e1 : Int) (wk : World) : Prop where
  sb : SB w0 w0.heap.size V F 0 P wk
  y : FR3 wk b1 (.bool n1) (.string s1) (.int .i64 e1)
theorem NY.on {w0 wk w' : World} {V F P : Int} {b1 : Nat} {n1 : Bool} {s1 : ByteArray} {e1 : Int} (h : NY w0 V F P b1 n1 s1 e1 wk) (k : Below wk.heap.size wk w') : NY w0 V F P b1 n1 s1 e1 w' := ⟨h.sb.on k, h.y.below k h.y.lt⟩
theorem NY.new {w0 wk : World} {V F P : Int} (h : SB w0 w0.heap.size V F 0 P wk) (n1 : Bool) (s1 : ByteArray) (e1 : Int) : NY w0 V F P wk.heap.size n1 s1 e1 (wk.alloc (.cells #[.bool n1, .string s1, .int .i64 e1] 39)) := ⟨h.on (alloc_b _ _), FR3.new _ _ _ _⟩
theorem ND.new {w0 wk : World} {V F P : Int} {b1 : Nat} {n1 : Bool} {s1 : ByteArray} {e1 : Int} (h : NY w0 V F P b1 n1 s1 e1 wk) (n2 : Bool) (s2 : ByteArray) (e2 : Int) : ND w0 V F P b1 wk.heap.size n1 s1 e1 n2 s2 e2 (wk.alloc (.cells #[.bool n2, .string s2, .int .i64 e2] 39)) := ⟨h.sb.on (alloc_b _ _), h.y.below (alloc_b _ _) h.y.lt, FR3.new _ _ _ _⟩

namespace Po
/-- All that the law's end needs. -/
theorem near_end {V P d : Int} {hh : Bool} {a b : List Int} {k : Int} {xp : Bool} (h : NF V P d hh a b k xp) (hf : Ie.fnt d = true) (neg : Bool) :
    ∃ (yd : List Int) (ye q lo hi m : Int) (t1 t2 n sa sb : Nat), Sc.nrm neg (a ++ b) (k - b.length) = ⟨neg, yd, ye⟩ ∧ Digs yd ∧ yd ≠ [] ∧ yd.length ≤ 4420 ∧ (-4500 ≤ ye ∧ ye ≤ 320) ∧ k - b.length = q ∧ (-4500 ≤ q ∧ q ≤ 308) ∧
      min ye (Fx.P d) = lo ∧ max (ye + yd.length) (Fx.P d + (Fx.X d).length) = hi ∧ hi - lo = (n : Int) ∧ ye - lo = (t1 : Int) ∧ Fx.P d - lo = (t2 : Int) ∧ n ≤ 5000 ∧
      lo = m + sa ∧ q - 1 = m + sb ∧ (sa = 0 ∨ sb = 0) ∧ (-5000 ≤ m ∧ m ≤ 5000) ∧ sa ≤ 10000 ∧ sb ≤ 10000 ∧
      ((dv yd * 10 ^ t1 - dv (Fx.X d) * 10 ^ t2).natAbs : Int) < 10 ^ n ∧
      ((((dv yd * 10 ^ t1 - dv (Fx.X d) * 10 ^ t2).natAbs : Int) * 10 ^ sa < 5 * 10 ^ sb) ∨ (((dv yd * 10 ^ t1 - dv (Fx.X d) * 10 ^ t2).natAbs : Int) * 10 ^ sa = 5 * 10 ^ sb ∧ (q < ye ∨ (yd.getD (yd.length - 1) 0) % 2 = 0))) := by
  have hab : Digs (a ++ b) := by
    intro x hx
    rcases List.mem_append.1 hx with c | c
    · exact h.da x c
    · exact h.db x c
  obtain ⟨c1, c2, c3, c4, c5⟩ := nrm_val (q := k - b.length) neg hab (by have := h.ane; simp [this])
  obtain ⟨r1, r2, r3, r4, r5⟩ := Fx.X_room hf
  have xl := Fx.X_len hf
  have la := h.la
  have q0 := h.q0
  have k1 := h.k1
  have kx := h.kx
  have al := List.length_pos_iff.2 h.ane
  rw [List.length_append] at c4
  obtain ⟨y, hy⟩ : ∃ y, Sc.nrm neg (a ++ b) (k - b.length) = y := ⟨_, rfl⟩
  rw [hy] at c1 c2 c3 c4 c5
  obtain ⟨yn, yd, ye⟩ := y
  simp only at c1 c2 c3 c4 c5
  subst c1
  obtain ⟨q, hq⟩ : ∃ q, k - (b.length : Int) = q := ⟨_, rfl⟩
  have nr := h.nr
  rw [hq] at c5 q0 nr
  have yl := List.length_pos_iff.2 c3
  have yb : -4500 ≤ ye ∧ ye + yd.length ≤ 321 := by
    rcases c5 with ⟨e1, e2, e3⟩ | ⟨e1, t, e2, e3, e4, e5⟩
    · rw [e3, e2]; simp
    · rw [List.length_append] at e2 e5
      omega
  obtain ⟨lo, hlo⟩ : ∃ lo, min ye (Fx.P d) = lo := ⟨_, rfl⟩
  obtain ⟨hi, hhi⟩ : ∃ hi, max (ye + (yd.length : Int)) (Fx.P d + ((Fx.X d).length : Int)) = hi := ⟨_, rfl⟩
  obtain ⟨n, hn⟩ : ∃ n : Nat, hi - lo = (n : Int) := ⟨(hi - lo).toNat, by omega⟩
  obtain ⟨t1, ht1⟩ : ∃ t : Nat, ye - lo = (t : Int) := ⟨(ye - lo).toNat, by omega⟩
  obtain ⟨t2, ht2⟩ : ∃ t : Nat, Fx.P d - lo = (t : Int) := ⟨(Fx.P d - lo).toNat, by omega⟩
  obtain ⟨m, hm⟩ : ∃ m, min lo (q - 1) = m := ⟨_, rfl⟩
  obtain ⟨sa, hsa⟩ : ∃ s : Nat, lo = m + (s : Int) := ⟨(lo - m).toNat, by omega⟩
  obtain ⟨sb, hsb⟩ : ∃ s : Nat, q - 1 = m + (s : Int) := ⟨(q - 1 - m).toNat, by omega⟩
  have y0 := dv_bd c2
  have x0 := dv_bd (Fx.X_digs hf).1
  have b1 : dv yd * 10 ^ t1 < 10 ^ n := by
    have e1 : dv yd * 10 ^ t1 < 10 ^ yd.length * 10 ^ t1 := Int.mul_lt_mul_of_pos_right y0.2 (Fx.p_pos t1)
    rw [← Int.pow_add] at e1
    have := Fx.p_le (show yd.length + t1 ≤ n by omega)
    omega
  have b2 : dv (Fx.X d) * 10 ^ t2 < 10 ^ n := by
    have e1 : dv (Fx.X d) * 10 ^ t2 < 10 ^ (Fx.X d).length * 10 ^ t2 := Int.mul_lt_mul_of_pos_right x0.2 (Fx.p_pos t2)
    rw [← Int.pow_add] at e1
    have := Fx.p_le (show (Fx.X d).length + t2 ≤ n by omega)
    omega
  have b3 : 0 ≤ dv yd * 10 ^ t1 := Int.mul_nonneg y0.1 (Int.le_of_lt (Fx.p_pos t1))
  have b4 : 0 ≤ dv (Fx.X d) * 10 ^ t2 := Int.mul_nonneg x0.1 (Int.le_of_lt (Fx.p_pos t2))
  refine ⟨yd, ye, q, lo, hi, m, t1, t2, n, sa, sb, by rw [hq] at hy; rw [hq]; exact hy, c2, c3, by omega, ⟨yb.1, by omega⟩, hq, by omega, hlo, hhi, hn, ht1, ht2, by omega, hsa, hsb, by omega, by omega, by omega, by omega, ?_, ?_⟩
  · generalize dv yd * 10 ^ t1 = u at *
    generalize dv (Fx.X d) * 10 ^ t2 = v at *
    generalize (10 : Int) ^ n = z at *
    omega
  · refine near_fin nr c2 c3 (by omega) (by omega) (by omega) ?_ ht1 ht2 hsa hsb
    rcases c5 with ⟨e1, e2, e3⟩ | ⟨e1, t, e2, e3, e4, e5⟩
    · exact .inl ⟨e1, e2, e3⟩
    · exact .inr ⟨e1, t, e3, e4⟩
end Po
end Go.Proofs.YtaoaniigbooihaaGreatDoor

namespace Go.Proofs.YtaoaniigbooihaaGreatDoor
open Go Go.RowKit Go.Deep Go.Shelf


set_option maxRecDepth 100000 in
set_option maxHeartbeats 8000000 in
theorem near_main (V F W P d : Int) (w : World) (hT : Tab w) (v0 : 0 ≤ V) (v1 : V < 256) (h0 : 0 ≤ d) (h1 : d < 18446744073709551616) (hE : Po.renE V (if decide (V = 103 ∨ V = 71) = true then bits .or .i64 (bits .and .i64 F 31) 8 else bits .and .i64 F 31) 0 P = 0) (hf : Ie.fnt d = true) :
    Calls Tryz.prog 5 #[.agg #[.int .u8 V, .int .i64 F, .int .i64 W, .int .i64 P], .int .u64 d] w fun e w' => e = .returned (.bool true) ∧ Below w.heap.size w w' := by
  have B0 := hid (SB.new w V F W P)
  have TB : Hid (∀ wk, Below w.heap.size w wk → Tab wk) := fun wk k => hT.below k
  have AW := hid (fun wk (k : Tab wk) => pawake_any wk k)
  have FN := hid (fun wk => plfin_any d wk h0 h1)
  have K0 := hid (TB.out _ B0.out.bel)
  obtain ⟨F1, hF1⟩ : ∃ F1, bits .and .i64 F 31 = F1 := ⟨_, rfl⟩
  rw [hF1] at hE
  have f1b : 0 ≤ F1 ∧ F1 ≤ 31 := by rw [← hF1, Po.i64_and31]; omega
  obtain ⟨gb, hgb⟩ : ∃ gb : Bool, gb = decide (V = 103 ∨ V = 71) := ⟨_, rfl⟩
  rw [← hgb] at hE
  obtain ⟨F3, hF3⟩ : ∃ F3, F3 = if gb = true then bits .or .i64 F1 8 else F1 := ⟨_, rfl⟩
  rw [← hF3] at hE
  have f3b : 0 ≤ F3 ∧ F3 ≤ 31 ∧ (gb = true → Wh.bit F3 8 = true) := by
    have k := (Po.bits_near f1b.1 f1b.2).1
    rw [hF3]
    cases gb with
    | true => exact ⟨k.1, k.2.1, fun _ => k.2.2⟩
    | false => exact ⟨f1b.1, f1b.2, fun c => by cases c⟩
  have RN := hid (fun wk (k : Tab wk) => render_any V F3 0 P d wk k v0 v1 h0 h1)
  unfold RenTold at RN
  have WR := hid (fun wk => pwrong_any V F3 0 P wk)
  have E3 : Hid ((gb = true → bits .or .i64 F1 8 = F3) ∧ (gb = false → F1 = F3)) := by
    refine ⟨fun c => ?_, fun c => ?_⟩
    · rw [hF3, if_pos c]
    · rw [hF3, if_neg (by rw [c]; decide)]
  have GC : Hid ((V = 103 ∧ gb = true) ∨ (V = 71 ∧ gb = true) ∨ (V ≠ 103 ∧ V ≠ 71 ∧ gb = false)) := by
    by_cases c1 : V = 103
    · exact .inl ⟨c1, by rw [hgb]; exact decide_eq_true (.inl c1)⟩
    · by_cases c2 : V = 71
      · exact .inr (.inl ⟨c2, by rw [hgb]; exact decide_eq_true (.inr c2)⟩)
      · exact .inr (.inr ⟨c1, c2, by rw [hgb]; exact decide_eq_false (by omega)⟩)
  obtain ⟨hV, hc⟩ := Po.renE_ok hE
  obtain ⟨-, -, ⟨p0, p1⟩⟩ := Wh.chk_ok hc
  rw [hE] at WR RN
  obtain ⟨a, b, k, xp, nf⟩ := Po.nf_ex (V := V) (P := P) (hh := Wh.bit F3 8) hf hV p0 p1 (fun c => f3b.2.2 (by rw [hgb]; exact decide_eq_true c))
  obtain ⟨-, ⟨a0, a1, a2, a4, a8⟩⟩ := Po.bits_near f3b.1 f3b.2.1
  obtain ⟨F2, hF2⟩ : ∃ F2, bits .andNot .i64 F3 6 = F2 := ⟨_, rfl⟩
  rw [hF2] at a0 a1 a2 a4 a8
  have hE2 : Po.renE V F2 0 P = 0 := by
    unfold Po.renE
    rw [if_pos hV]
    exact Wh.chk_of ⟨⟨a0, a1⟩, by omega, ⟨p0, p1⟩⟩
  have TX : Po.ren V F2 0 P d = (if Po.ng d = true then [45] else []) ++ Po.bd V (Wh.bit F3 8) P d := by
    rw [Po.ren_pad hE2, Wh.padT_zero, Po.tb, if_pos hf, a8]
    congr 1
    unfold Wh.sgn
    rw [a2, a4, if_neg Bool.false_ne_true, if_neg Bool.false_ne_true]
  obtain ⟨TL, TY⟩ := Po.ren_len (V := V) (F := F2) (W := 0) (P := P) (d := d)
  have RN2 : Hid (∀ wk, Tab wk → Calls Tryz.prog 12 #[.agg #[.int .u8 V, .int .i64 F2, .int .i64 0, .int .i64 P], .int .u64 d] wk fun e w' => e = .returned (.tuple #[.string (strOfNums (Po.ren V F2 0 P d)), .int .i64 0]) ∧ Below wk.heap.size wk w') := by
    intro wk kk
    refine (render_any V F2 0 P d wk kk v0 v1 h0 h1).mono ?_
    rintro e w' ⟨rfl, bb⟩
    rw [hE2]
    exact ⟨rfl, bb⟩
  obtain ⟨yd, ye, q, lo, hi, m, t1, t2, n, sa, sb, y1, y2, y3, y4, y5, hq, qb, hlo, hhi, hn, ht1, ht2, nb, hsa, hsb, hs0, mb, s1, s2, gn, fin⟩ := Po.near_end nf hf (Po.ng d)
  have WH : Hid (∀ wk, Calls Tryz.prog 16 #[.string (strOfNums (Po.ren V F2 0 P d))] wk fun e w' => ∃ s, e = .returned (.tuple #[.agg #[.bool (Po.ng d), .string s, .int .i64 ye], .bool true]) ∧ Hid (Str s yd) ∧ Below wk.heap.size wk w') := by
    intro wk
    refine (whole_any _ (Po.ren V F2 0 P d) wk (Str.of_nums TY) (by omega) (fun _ => by have := Sc.lit_len (Po.ren V F2 0 P d) (Sc.run Sc.bl (Po.ren V F2 0 P d) 0); omega)).mono ?_
    rintro e w' ⟨v, rfl, hv, hB⟩
    rw [TX, Po.nf_whl nf, y1] at hv ⊢
    obtain ⟨s, rfl, hs⟩ := hv
    exact ⟨s, rfl, hs, hB⟩
  obtain ⟨j, pli, pnn⟩ := Po.nf_places_text nf (Po.ng d)
  rw [← TX] at pli pnn
  have PS := hid (fun wk => pplaces_any (Po.ren V F2 0 P d) j k wk pli)
  simp only [pnn] at PS
  obtain ⟨r1, r2, r3, r4, r5⟩ := Fx.X_room hf
  have xl := Fx.X_len hf
  have AL : Hid (∀ wk, Tab wk → Calls Tryz.prog 18 #[.int .u64 d] wk fun e w' => ∃ s, e = .returned (.tuple #[.agg #[.bool (Po.ng d), .string s, .int .i64 (Fx.P d)], .int .i64 0]) ∧ Hid (Str s (Fx.X d)) ∧ Below wk.heap.size wk w') := by
    intro wk kk
    refine (fall_any d wk kk h0 h1).mono ?_
    rintro e w' ⟨s, rfl, hs, hB⟩
    rw [Fx.aS, if_pos hf] at hs
    refine ⟨s, ?_, hs, hB⟩
    rw [Fx.aN, Fx.aE, if_pos hf, Fx.aR, if_pos hf, hf, Bool.true_and, ← Po.ng]
  have MO := hid (fun s (hs : Str s (Fx.X d)) wk => modest_any (Po.ng d) s (Fx.X d) (Fx.P d) wk hs (by omega) (by omega) (by omega))
  have GP := hid (fun s t (hs : Str s yd) (ht : Str t (Fx.X d)) wk => gap_any (Po.ng d) (Po.ng d) s t yd (Fx.X d) ye (Fx.P d) lo hi n t1 t2 wk hs ht y2 (Fx.X_digs hf).1 hlo hhi hn ht1 ht2 nb (by omega) (by omega) (by omega) (by omega))
  obtain ⟨gp, hgp⟩ : ∃ gp : Int, ((dv yd * 10 ^ t1 - dv (Fx.X d) * 10 ^ t2).natAbs : Int) = gp := ⟨_, rfl⟩
  have gp0 : 0 ≤ gp := by omega
  rw [hgp] at gn fin
  simp only [hgp] at GP
  have LS : Hid (∀ (wk : World) (g : Nat), OwnB wk g (Dn.dg 10 n gp) → Calls Tryz.prog 21 #[.slice (some ⟨g, 0, none⟩) n n, .int .i64 lo, .slice (some ⟨wk.heap.size, 0, none⟩) 1 1, .int .i64 (q - 1)] (wk.alloc (.cells #[.int .u8 5] 5)) fun r w' => r = .returned (.int .i64 (Sc.cmpI (gp * 10 ^ sa) (5 * 10 ^ sb))) ∧ w' = wk.alloc (.cells #[.int .u8 5] 5)) := by
    intro wk g og
    exact less_any g wk.heap.size n 1 n 1 gp 5 lo (q - 1) _ (og.below (alloc_b _ _) og.lt) (OwnB.alloc wk [5]) gp0 gn (by omega) (by decide) m sa sb hsa hsb hs0 nb (by omega) mb.1 mb.2 s1 s2
  obtain ⟨cm, hcm⟩ : ∃ cm, Sc.cmpI (gp * 10 ^ sa) (5 * 10 ^ sb) = cm := ⟨_, rfl⟩
  simp only [hcm] at LS
  have FI : Hid (cm < 0 ∨ (cm = 0 ∧ (q < ye ∨ (yd.getD (yd.length - 1) 0) % 2 = 0))) := by
    rw [← hcm]
    rcases fin with c | ⟨c1, c2⟩
    · rcases Sc.cmpI_c (gp * 10 ^ sa) (5 * 10 ^ sb) with e | e | e
      · exact .inl (by omega)
      · omega
      · omega
    · rcases Sc.cmpI_c (gp * 10 ^ sa) (5 * 10 ^ sb) with e | e | e
      · omega
      · exact .inr ⟨e.2, c2⟩
      · omega
  obtain ⟨yl, hyl⟩ : ∃ yl, yd.length = yl + 1 := ⟨yd.length - 1, by have := List.length_pos_iff.2 y3; omega⟩
  rw [hyl, Nat.add_sub_cancel] at FI
  have LD : Hid (∀ s, Str s yd → s.size = yl + 1 ∧ ∀ h : yl < s.size, ((s[yl]'h).toNat : Int) = yd.getD yl 0) := fun s hs => ⟨by rw [hs.size, hyl], fun h => by have q := hs.at yl h; first | exact q | (rw [q]; rfl)⟩
  have ldb : 48 ≤ yd.getD yl 0 ∧ yd.getD yl 0 ≤ 57 := Fx.digs_getD y2 (by omega)
  have LPv : Hid (gb = false → (b.length : Int) = Po.pr P) := fun c => nf.lp (by rcases GC.out with ⟨k1, k2⟩ | ⟨k1, k2⟩ | ⟨k1, k3, k2⟩; (rw [k2] at c; cases c); (rw [k2] at c; cases c); exact ⟨k1, k3⟩)
  have PR : Hid (Po.pr P = if P = -1 then 6 else P) := rfl
  have bl0 : (b.length : Int) ≤ 4200 := by have := nf.lb; omega
  have bl00 : ¬ (b.length : Int) < 0 := by omega
  have ny : ((yl + 1 : Nat) : Int) ≤ 4420 := by omega
  have DG : decide (9223372036854775808 ≤ d) = Po.ng d := rfl
  rw [hf] at FN
  obtain ⟨ye0, ye1⟩ := y5
  obtain ⟨q0, q1⟩ := qb
  obtain ⟨ld0, ld1⟩ := ldb
  have k0 := nf.k0
  have kx := nf.kx
  clear hT v0 v1 h0 h1 hE hc hf nf a0 a1 a2 a4 a8 hE2 TX TL TY pli pnn r1 r2 r3 r4 r5 xl y1 y2 y3 y4 hlo hhi hn ht1 ht2 nb hsa hsb hs0 mb s1 s2 gn fin gp0 hgp hcm hV f1b hgb hF3 f3b
  generalize strOfNums (Po.ren V F2 0 P d) = ts at *
  generalize Po.ren V F3 0 P d = T3 at *
  generalize yd.getD yl 0 = ld at *
  generalize (b.length : Int) = bl at *
  generalize Po.pr P = pp at *
  generalize Po.ng d = ng at *
  generalize Fx.P d = Pd at *
  generalize Fx.X d = Xd at *
  go_enter Tryz.func5, Tryz.ntmps5
  go_wp2_with fail
  with_reducible refine (AW.out _ K0.out).mono ?_
  rintro e w1 ⟨rfl, b1⟩
  have B1 := hid (B0.out.on b1)
  clear b1 B0 K0
  have B2 := hid ((B1.out.set2 0).set1 F1)
  obtain ⟨⟨c0, c1, c2, c3⟩, g0, g1, g2, g3⟩ := B1.out.box.cells
  go_upto_region 6 with fail
  generalize (w1.setCell ⟨w.heap.size, 2, none⟩ (.int .i64 0)).setCell ⟨w.heap.size, 1, none⟩ (.int .i64 F1) = w2 at *
  clear c0 c1 c2 c3 g0 g1 g2 g3 B1
  obtain ⟨⟨c0, c1, c2, c3⟩, g0, g1, g2, g3⟩ := B2.out.box.cells
  go_cut [35] (fun b wx => b = .bool gb ∧ wx = w2)
  case first =>
    rcases GC.out with ⟨k1, k2⟩ | ⟨k1, k2⟩ | ⟨k1, k3, k2⟩
    · replace k2 := hid k2
      subst k1
      go_wp2_with fail
      go_meet
      exact ⟨by rw [k2.out], rfl⟩
    · replace k2 := hid k2
      subst k1
      go_wp2_with fail
      go_meet
      exact ⟨by rw [k2.out], rfl⟩
    · replace k2 := hid k2
      have e1 : (V == 103) = false := by simpa using k1
      have e2 : (V == 71) = false := by simpa using k3
      go_wp2_with fail
      go_meet
      exact ⟨by rw [k2.out], rfl⟩
  case rest =>
  obtain ⟨h35, hwc⟩ := hcut
  subst h35
  have hwc := hwc.symm
  subst hwc
  obtain ⟨⟨c0, c1, c2, c3⟩, g0, g1, g2, g3⟩ := B2.out.box.cells
  go_upto_if 35 with fail
  go_cut [5] (fun b wx => b = .bool true ∧ Hid (SB w w.heap.size V F3 0 P wx))
  case first =>
    cases hgv : gb with
    | true =>
      have e := hid (E3.out.1 hgv)
      have B3 := hid (B2.out.set1 (bits .or .i64 F1 8))
      go_wp2_with fail
      go_meet
      exact ⟨rfl, by rw [← e.out]; exact B3.out⟩
    | false =>
      have e := hid (E3.out.2 hgv)
      have B3 := hid B2.out
      go_wp2_with fail
      go_meet
      exact ⟨rfl, by rw [← e.out]; exact B3.out⟩
  case rest =>
  obtain ⟨h5, B3⟩ := hcut
  subst h5
  clear c0 c1 c2 c3 g0 g1 g2 g3 B2
  have K3 := hid (TB.out _ B3.out.bel)
  obtain ⟨⟨c0, c1, c2, c3⟩, g0, g1, g2, g3⟩ := B3.out.box.cells
  go_wp2_with fail
  with_reducible refine (RN.out _ K3.out).mono ?_
  rintro e w4 ⟨rfl, b4⟩
  have B4 := hid (B3.out.on b4)
  clear b4 B3 K3 c0 c1 c2 c3 g0 g1 g2 g3
  obtain ⟨⟨c0, c1, c2, c3⟩, g0, g1, g2, g3⟩ := B4.out.box.cells
  go_wp2_with fail
  with_reducible refine (WR.out _).mono ?_
  rintro e w5 ⟨rfl, b5⟩
  have B5 := hid (B4.out.on b5)
  clear b5 B4 c0 c1 c2 c3 g0 g1 g2 g3
  obtain ⟨⟨c0, c1, c2, c3⟩, g0, g1, g2, g3⟩ := B5.out.box.cells
  go_upto_region 12 with (go_at_call 14; refine (FN.out _).mono ?_; rintro e w' ⟨rfl, hw⟩; rw [hw]; clear hw w')
  have B6 := hid (B5.out.set1 F2)
  go_upto_region 13 with fail
  generalize w5.setCell ⟨w.heap.size, 1, none⟩ (.int .i64 F2) = w6 at *
  clear c0 c1 c2 c3 g0 g1 g2 g3 B5
  have K6 := hid (TB.out _ B6.out.bel)
  obtain ⟨c0, c1, c2, c3⟩ := B6.out.flat
  go_wp2_with fail
  with_reducible refine (RN2.out _ K6.out).mono ?_
  rintro e w7 ⟨rfl, b7⟩
  have B7 := hid (B6.out.on b7)
  clear b7 B6 K6 c0 c1 c2 c3
  go_wp2_with fail
  with_reducible refine (WH.out _).mono ?_
  rintro e w8 ⟨ys, rfl, hys, b8⟩
  have B8 := hid (NY.new (B7.out.on b8) ng ys ye)
  clear b8 B7
  go_upto_region 15 with fail
  generalize hb1 : w8.heap.size = b1 at *
  generalize w8.alloc (.cells #[.bool ng, .string ys, .int .i64 ye] 39) = w9 at *
  clear hb1
  go_wp2_with fail
  with_reducible refine (PS.out _).mono ?_
  rintro e w10 ⟨rfl, b10⟩
  have B10 := hid (B8.out.on b10)
  have K10 := hid (TB.out _ B10.out.sb.bel)
  clear b10 B8
  go_wp2_with fail
  with_reducible refine (AL.out _ K10.out).mono ?_
  rintro e w11 ⟨xs, rfl, hxs, b11⟩
  have B11 := hid (ND.new (B10.out.on b11) ng xs Pd)
  clear b11 B10 K10
  go_upto_region 17 with fail
  generalize hb2 : w11.heap.size = b2 at *
  generalize w11.alloc (.cells #[.bool ng, .string xs, .int .i64 Pd] 39) = w12 at *
  clear hb2
  obtain ⟨⟨y0', y1', y2'⟩, -⟩ := B11.out.y.cells
  obtain ⟨⟨x0', x1', x2'⟩, -⟩ := B11.out.v.cells
  obtain ⟨c0, c1, c2, c3⟩ := B11.out.sb.flat
  obtain ⟨ysz, yat⟩ := LD.out ys hys.out
  have MO1 := hid (MO.out xs hxs.out)
  go_upto_region 19 with (go_at_call 19; with_reducible refine (MO1.out _).mono ?_; rintro e w13 ⟨rfl, b13⟩; have B13 := hid (B11.out.on b13); obtain ⟨⟨z0', z1', z2'⟩, -⟩ := B13.out.y.cells; clear b13)
  clear c0 c1 c2 c3 y0' y1' y2' x0' x1' x2' z0' z1' z2' MO1 MO
  obtain ⟨c0, c1, c2, c3⟩ := B13.out.sb.flat
  go_upto_if 128 with fail
  go_cut [15] (fun p wx => p = .int .i64 pp ∧ wx = w13)
  case first =>
    by_cases hP : P = -1
    · have e6 := hid (show pp = 6 by rw [PR.out, if_pos hP])
      subst hP
      go_wp2_with fail
      go_meet
      exact ⟨by rw [e6.out], rfl⟩
    · have e6 := hid (show pp = P by rw [PR.out, if_neg hP])
      have hne : (P == -1) = false := by simpa using hP
      clear hP
      go_wp2_with fail
      go_meet
      exact ⟨by rw [e6.out], rfl⟩
  case rest =>
  obtain ⟨h15, hwc⟩ := hcut
  subst h15
  have hwc := hwc.symm
  subst hwc
  obtain ⟨c0, c1, c2, c3⟩ := B13.out.sb.flat
  go_upto_region 22 with fail
  go_cut [141] (fun b wx => b = .bool false ∧ wx = w13)
  case first =>
    rcases GC.out with ⟨k1, k2⟩ | ⟨k1, k2⟩ | ⟨k1, k3, k2⟩
    · subst k1
      go_wp2_with fail
      go_meet
      exact ⟨rfl, rfl⟩
    · subst k1
      go_wp2_with fail
      go_meet
      exact ⟨rfl, rfl⟩
    · have e1 : (V != 103) = true := by simpa using k1
      have e2 : (V != 71) = true := by simpa using k3
      have e1' : (V == 103) = false := by simpa using k1
      have e2' : (V == 71) = false := by simpa using k3
      have e3 := LPv.out k2
      have e4 : (bl != pp) = false := by rw [e3]; simp
      have e5 : (bl == pp) = true := by rw [e3]; simp
      clear e3 k1 k3
      go_wp2_with fail
      go_meet
      exact ⟨rfl, rfl⟩
  case rest =>
  obtain ⟨h141, hwc⟩ := hcut
  subst h141
  have hwc := hwc.symm
  subst hwc
  obtain ⟨⟨y0', y1', y2'⟩, -⟩ := B13.out.y.cells
  obtain ⟨⟨x0', x1', x2'⟩, -⟩ := B13.out.v.cells
  go_wp2_with fail
  with_reducible refine (GP.out ys xs hys.out hxs.out _).mono ?_
  rintro e w14 ⟨g, rfl, hg, og, b14⟩
  have B14 := hid (B13.out.on b14)
  have LS1 := hid (LS.out w14 g og)
  clear b14 B13 c0 c1 c2 c3 y0' y1' y2' x0' x1' x2' hg og LS GP
  go_wp2_with fail
  with_reducible refine LS1.out.mono ?_
  rintro e w15 ⟨rfl, hw15⟩
  have B15 := hid (B14.out.on (alloc_b w14 (.cells #[.int .u8 5] 5)))
  rw [← hw15] at B15
  rw [hw15] at *
  clear B14 LS1
  generalize w14.alloc (.cells #[.int .u8 5] 5) = w16 at *
  obtain ⟨⟨y0', y1', y2'⟩, -⟩ := B15.out.y.cells
  have hidx : ((yl + 1 : Nat) : Int) - 1 = (yl : Int) := by omega
  rcases FI.out with f1 | ⟨f1, f2 | f2⟩
  · go_wp2_with fail
    go_ret
    exact ⟨rfl, B15.out.sb.bel⟩
  · subst f1
    go_wp2_with fail
    go_ret
    exact ⟨rfl, B15.out.sb.bel⟩
  · subst f1
    by_cases f3 : q < ye
    · go_wp2_with fail
      go_ret
      exact ⟨rfl, B15.out.sb.bel⟩
    · have f4 : (ld % 2 == 0) = true := by simpa using f2
      go_wp2_with fail
      go_ret
      exact ⟨rfl, B15.out.sb.bel⟩
set_option maxRecDepth 100000 in
set_option maxHeartbeats 8000000 in
theorem near_inf (V F W P d : Int) (w : World) (hT : Tab w) (v0 : 0 ≤ V) (v1 : V < 256) (h0 : 0 ≤ d) (h1 : d < 18446744073709551616) (hE : Po.renE V (if decide (V = 103 ∨ V = 71) = true then bits .or .i64 (bits .and .i64 F 31) 8 else bits .and .i64 F 31) 0 P = 0) (hf : Ie.fnt d = false) :
    Calls Tryz.prog 5 #[.agg #[.int .u8 V, .int .i64 F, .int .i64 W, .int .i64 P], .int .u64 d] w fun e w' => e = .returned (.bool true) ∧ Below w.heap.size w w' := by
  have B0 := hid (SB.new w V F W P)
  have TB : Hid (∀ wk, Below w.heap.size w wk → Tab wk) := fun wk k => hT.below k
  have AW := hid (fun wk (k : Tab wk) => pawake_any wk k)
  have FN := hid (fun wk => plfin_any d wk h0 h1)
  have K0 := hid (TB.out _ B0.out.bel)
  obtain ⟨F1, hF1⟩ : ∃ F1, bits .and .i64 F 31 = F1 := ⟨_, rfl⟩
  rw [hF1] at hE
  have f1b : 0 ≤ F1 ∧ F1 ≤ 31 := by rw [← hF1, Po.i64_and31]; omega
  obtain ⟨gb, hgb⟩ : ∃ gb : Bool, gb = decide (V = 103 ∨ V = 71) := ⟨_, rfl⟩
  rw [← hgb] at hE
  obtain ⟨F3, hF3⟩ : ∃ F3, F3 = if gb = true then bits .or .i64 F1 8 else F1 := ⟨_, rfl⟩
  rw [← hF3] at hE
  have f3b : 0 ≤ F3 ∧ F3 ≤ 31 ∧ (gb = true → Wh.bit F3 8 = true) := by
    have k := (Po.bits_near f1b.1 f1b.2).1
    rw [hF3]
    cases gb with
    | true => exact ⟨k.1, k.2.1, fun _ => k.2.2⟩
    | false => exact ⟨f1b.1, f1b.2, fun c => by cases c⟩
  have RN := hid (fun wk (k : Tab wk) => render_any V F3 0 P d wk k v0 v1 h0 h1)
  unfold RenTold at RN
  have WR := hid (fun wk => pwrong_any V F3 0 P wk)
  have E3 : Hid ((gb = true → bits .or .i64 F1 8 = F3) ∧ (gb = false → F1 = F3)) := by
    refine ⟨fun c => ?_, fun c => ?_⟩
    · rw [hF3, if_pos c]
    · rw [hF3, if_neg (by rw [c]; decide)]
  have GC : Hid ((V = 103 ∧ gb = true) ∨ (V = 71 ∧ gb = true) ∨ (V ≠ 103 ∧ V ≠ 71 ∧ gb = false)) := by
    by_cases c1 : V = 103
    · exact .inl ⟨c1, by rw [hgb]; exact decide_eq_true (.inl c1)⟩
    · by_cases c2 : V = 71
      · exact .inr (.inl ⟨c2, by rw [hgb]; exact decide_eq_true (.inr c2)⟩)
      · exact .inr (.inr ⟨c1, c2, by rw [hgb]; exact decide_eq_false (by omega)⟩)
  rw [hE] at WR RN
  rw [hf] at FN
  clear hT v0 v1 h0 h1 hE hf f1b hgb hF3 f3b
  generalize Po.ren V F3 0 P d = T3 at *
  go_enter Tryz.func5, Tryz.ntmps5
  go_wp2_with fail
  with_reducible refine (AW.out _ K0.out).mono ?_
  rintro e w1 ⟨rfl, b1⟩
  have B1 := hid (B0.out.on b1)
  clear b1 B0 K0
  have B2 := hid ((B1.out.set2 0).set1 F1)
  obtain ⟨⟨c0, c1, c2, c3⟩, g0, g1, g2, g3⟩ := B1.out.box.cells
  go_upto_region 6 with fail
  generalize (w1.setCell ⟨w.heap.size, 2, none⟩ (.int .i64 0)).setCell ⟨w.heap.size, 1, none⟩ (.int .i64 F1) = w2 at *
  clear c0 c1 c2 c3 g0 g1 g2 g3 B1
  obtain ⟨⟨c0, c1, c2, c3⟩, g0, g1, g2, g3⟩ := B2.out.box.cells
  go_cut [35] (fun b wx => b = .bool gb ∧ wx = w2)
  case first =>
    rcases GC.out with ⟨k1, k2⟩ | ⟨k1, k2⟩ | ⟨k1, k3, k2⟩
    · replace k2 := hid k2
      subst k1
      go_wp2_with fail
      go_meet
      exact ⟨by rw [k2.out], rfl⟩
    · replace k2 := hid k2
      subst k1
      go_wp2_with fail
      go_meet
      exact ⟨by rw [k2.out], rfl⟩
    · replace k2 := hid k2
      have e1 : (V == 103) = false := by simpa using k1
      have e2 : (V == 71) = false := by simpa using k3
      go_wp2_with fail
      go_meet
      exact ⟨by rw [k2.out], rfl⟩
  case rest =>
  obtain ⟨h35, hwc⟩ := hcut
  subst h35
  have hwc := hwc.symm
  subst hwc
  obtain ⟨⟨c0, c1, c2, c3⟩, g0, g1, g2, g3⟩ := B2.out.box.cells
  go_upto_if 35 with fail
  go_cut [5] (fun b wx => b = .bool true ∧ Hid (SB w w.heap.size V F3 0 P wx))
  case first =>
    cases hgv : gb with
    | true =>
      have e := hid (E3.out.1 hgv)
      have B3 := hid (B2.out.set1 (bits .or .i64 F1 8))
      go_wp2_with fail
      go_meet
      exact ⟨rfl, by rw [← e.out]; exact B3.out⟩
    | false =>
      have e := hid (E3.out.2 hgv)
      have B3 := hid B2.out
      go_wp2_with fail
      go_meet
      exact ⟨rfl, by rw [← e.out]; exact B3.out⟩
  case rest =>
  obtain ⟨h5, B3⟩ := hcut
  subst h5
  clear c0 c1 c2 c3 g0 g1 g2 g3 B2
  have K3 := hid (TB.out _ B3.out.bel)
  obtain ⟨⟨c0, c1, c2, c3⟩, g0, g1, g2, g3⟩ := B3.out.box.cells
  go_wp2_with fail
  with_reducible refine (RN.out _ K3.out).mono ?_
  rintro e w4 ⟨rfl, b4⟩
  have B4 := hid (B3.out.on b4)
  clear b4 B3 K3 c0 c1 c2 c3 g0 g1 g2 g3
  obtain ⟨⟨c0, c1, c2, c3⟩, g0, g1, g2, g3⟩ := B4.out.box.cells
  go_wp2_with fail
  with_reducible refine (WR.out _).mono ?_
  rintro e w5 ⟨rfl, b5⟩
  have B5 := hid (B4.out.on b5)
  clear b5 B4 c0 c1 c2 c3 g0 g1 g2 g3
  obtain ⟨⟨c0, c1, c2, c3⟩, g0, g1, g2, g3⟩ := B5.out.box.cells
  go_wp2_with (go_at_call 14; refine (FN.out _).mono ?_; rintro e w' ⟨rfl, hw⟩; rw [hw]; clear hw w')
  go_ret
  exact ⟨rfl, B5.out.bel⟩
set_option maxRecDepth 100000 in
set_option maxHeartbeats 8000000 in
theorem near_bad (V F W P d : Int) (w : World) (hT : Tab w) (v0 : 0 ≤ V) (v1 : V < 256) (h0 : 0 ≤ d) (h1 : d < 18446744073709551616) (hE : Po.renE V (if decide (V = 103 ∨ V = 71) = true then bits .or .i64 (bits .and .i64 F 31) 8 else bits .and .i64 F 31) 0 P ≠ 0) :
    Calls Tryz.prog 5 #[.agg #[.int .u8 V, .int .i64 F, .int .i64 W, .int .i64 P], .int .u64 d] w fun e w' => e = .returned (.bool true) ∧ Below w.heap.size w w' := by
  have B0 := hid (SB.new w V F W P)
  have TB : Hid (∀ wk, Below w.heap.size w wk → Tab wk) := fun wk k => hT.below k
  have AW := hid (fun wk (k : Tab wk) => pawake_any wk k)
  have FN := hid (fun wk => plfin_any d wk h0 h1)
  have K0 := hid (TB.out _ B0.out.bel)
  obtain ⟨F1, hF1⟩ : ∃ F1, bits .and .i64 F 31 = F1 := ⟨_, rfl⟩
  rw [hF1] at hE
  have f1b : 0 ≤ F1 ∧ F1 ≤ 31 := by rw [← hF1, Po.i64_and31]; omega
  obtain ⟨gb, hgb⟩ : ∃ gb : Bool, gb = decide (V = 103 ∨ V = 71) := ⟨_, rfl⟩
  rw [← hgb] at hE
  obtain ⟨F3, hF3⟩ : ∃ F3, F3 = if gb = true then bits .or .i64 F1 8 else F1 := ⟨_, rfl⟩
  rw [← hF3] at hE
  have f3b : 0 ≤ F3 ∧ F3 ≤ 31 ∧ (gb = true → Wh.bit F3 8 = true) := by
    have k := (Po.bits_near f1b.1 f1b.2).1
    rw [hF3]
    cases gb with
    | true => exact ⟨k.1, k.2.1, fun _ => k.2.2⟩
    | false => exact ⟨f1b.1, f1b.2, fun c => by cases c⟩
  have RN := hid (fun wk (k : Tab wk) => render_any V F3 0 P d wk k v0 v1 h0 h1)
  unfold RenTold at RN
  have WR := hid (fun wk => pwrong_any V F3 0 P wk)
  have E3 : Hid ((gb = true → bits .or .i64 F1 8 = F3) ∧ (gb = false → F1 = F3)) := by
    refine ⟨fun c => ?_, fun c => ?_⟩
    · rw [hF3, if_pos c]
    · rw [hF3, if_neg (by rw [c]; decide)]
  have GC : Hid ((V = 103 ∧ gb = true) ∨ (V = 71 ∧ gb = true) ∨ (V ≠ 103 ∧ V ≠ 71 ∧ gb = false)) := by
    by_cases c1 : V = 103
    · exact .inl ⟨c1, by rw [hgb]; exact decide_eq_true (.inl c1)⟩
    · by_cases c2 : V = 71
      · exact .inr (.inl ⟨c2, by rw [hgb]; exact decide_eq_true (.inr c2)⟩)
      · exact .inr (.inr ⟨c1, c2, by rw [hgb]; exact decide_eq_false (by omega)⟩)
  have hne : (Po.renE V F3 0 P == 0) = false := by simpa using hE
  have hne2 : (Po.renE V F3 0 P != 0) = true := by simpa using hE
  clear hT v0 v1 h0 h1 hE f1b hgb hF3 f3b
  generalize Po.ren V F3 0 P d = T3 at *
  generalize Po.renE V F3 0 P = E at *
  go_enter Tryz.func5, Tryz.ntmps5
  go_wp2_with fail
  with_reducible refine (AW.out _ K0.out).mono ?_
  rintro e w1 ⟨rfl, b1⟩
  have B1 := hid (B0.out.on b1)
  clear b1 B0 K0
  have B2 := hid ((B1.out.set2 0).set1 F1)
  obtain ⟨⟨c0, c1, c2, c3⟩, g0, g1, g2, g3⟩ := B1.out.box.cells
  go_upto_region 6 with fail
  generalize (w1.setCell ⟨w.heap.size, 2, none⟩ (.int .i64 0)).setCell ⟨w.heap.size, 1, none⟩ (.int .i64 F1) = w2 at *
  clear c0 c1 c2 c3 g0 g1 g2 g3 B1
  obtain ⟨⟨c0, c1, c2, c3⟩, g0, g1, g2, g3⟩ := B2.out.box.cells
  go_cut [35] (fun b wx => b = .bool gb ∧ wx = w2)
  case first =>
    rcases GC.out with ⟨k1, k2⟩ | ⟨k1, k2⟩ | ⟨k1, k3, k2⟩
    · replace k2 := hid k2
      subst k1
      go_wp2_with fail
      go_meet
      exact ⟨by rw [k2.out], rfl⟩
    · replace k2 := hid k2
      subst k1
      go_wp2_with fail
      go_meet
      exact ⟨by rw [k2.out], rfl⟩
    · replace k2 := hid k2
      have e1 : (V == 103) = false := by simpa using k1
      have e2 : (V == 71) = false := by simpa using k3
      go_wp2_with fail
      go_meet
      exact ⟨by rw [k2.out], rfl⟩
  case rest =>
  obtain ⟨h35, hwc⟩ := hcut
  subst h35
  have hwc := hwc.symm
  subst hwc
  obtain ⟨⟨c0, c1, c2, c3⟩, g0, g1, g2, g3⟩ := B2.out.box.cells
  go_upto_if 35 with fail
  go_cut [5] (fun b wx => b = .bool true ∧ Hid (SB w w.heap.size V F3 0 P wx))
  case first =>
    cases hgv : gb with
    | true =>
      have e := hid (E3.out.1 hgv)
      have B3 := hid (B2.out.set1 (bits .or .i64 F1 8))
      go_wp2_with fail
      go_meet
      exact ⟨rfl, by rw [← e.out]; exact B3.out⟩
    | false =>
      have e := hid (E3.out.2 hgv)
      have B3 := hid B2.out
      go_wp2_with fail
      go_meet
      exact ⟨rfl, by rw [← e.out]; exact B3.out⟩
  case rest =>
  obtain ⟨h5, B3⟩ := hcut
  subst h5
  clear c0 c1 c2 c3 g0 g1 g2 g3 B2
  have K3 := hid (TB.out _ B3.out.bel)
  obtain ⟨⟨c0, c1, c2, c3⟩, g0, g1, g2, g3⟩ := B3.out.box.cells
  go_wp2_with fail
  with_reducible refine (RN.out _ K3.out).mono ?_
  rintro e w4 ⟨rfl, b4⟩
  have B4 := hid (B3.out.on b4)
  clear b4 B3 K3 c0 c1 c2 c3 g0 g1 g2 g3
  obtain ⟨⟨c0, c1, c2, c3⟩, g0, g1, g2, g3⟩ := B4.out.box.cells
  go_wp2_with fail
  with_reducible refine (WR.out _).mono ?_
  rintro e w5 ⟨rfl, b5⟩
  have B5 := hid (B4.out.on b5)
  clear b5 B4 c0 c1 c2 c3 g0 g1 g2 g3
  obtain ⟨⟨c0, c1, c2, c3⟩, g0, g1, g2, g3⟩ := B5.out.box.cells
  go_wp2_with fail
  go_ret
  exact ⟨rfl, B5.out.bel⟩

theorem near_law (V F W P d : Int) (w : World) (hT : Tab w) (v0 : 0 ≤ V) (v1 : V < 256) (h0 : 0 ≤ d) (h1 : d < 18446744073709551616) :
    Calls Tryz.prog 5 #[.agg #[.int .u8 V, .int .i64 F, .int .i64 W, .int .i64 P], .int .u64 d] w fun e w' => e = .returned (.bool true) ∧ Below w.heap.size w w' := by
  by_cases hE : Po.renE V (if decide (V = 103 ∨ V = 71) = true then bits .or .i64 (bits .and .i64 F 31) 8 else bits .and .i64 F 31) 0 P = 0
  · cases hf : Ie.fnt d with
    | true => exact near_main V F W P d w hT v0 v1 h0 h1 hE hf
    | false => exact near_inf V F W P d w hT v0 v1 h0 h1 hE hf
  · exact near_bad V F W P d w hT v0 v1 h0 h1 hE
end Go.Proofs.YtaoaniigbooihaaGreatDoor

namespace Go.Proofs.YtaoaniigbooihaaGreatDoor
open Go Go.RowKit Go.Deep

theorem tab_laid : (Rows.laid_math_bits_deBruijn64tab : DataW Unit) = Lib.tabData .u8 (List.map Int.ofNat Lib.deBruijn64tab) := by kernel_rfl

theorem tab_of {W : World} {rest : List (String × DataW Unit)} (h : laidMet Tryz.prog (("math/bits.deBruijn64tab", Rows.laid_math_bits_deBruijn64tab) :: rest) W) : Tab W := by
  rw [tab_laid] at h
  have ht := Lib.tabIs_of_head (g := 0) (t := 139) (e := 5) (n := 64) (k := .u8) (zs := List.map Int.ofNat Lib.deBruijn64tab) (by kernel_rfl) (by kernel_rfl) Tryz.underlying139 Tryz.underlying5 (by kernel_rfl) (by kernel_rfl) h
  intro j hj
  have hl : (List.map Int.ofNat Lib.deBruijn64tab).length = Lib.deBruijn64tab.length := by simp
  rw [ht.cell (g := 0) (by kernel_rfl) j (by omega)]
  simp [List.getD, hj]

end Go.Proofs.YtaoaniigbooihaaGreatDoor

namespace Go.Proofs.YtaoaniigbooihaaGreatDoor
open Go Go.RowKit Go.Deep Go.Shelf

theorem case_laid : Rows.laid_unicode_CaseRanges = Lib.caseData := by kernel_rfl

theorem laidVars_swap {P : Program} {w : World} {x y : String × DataW Unit} : ∀ {l : List (String × DataW Unit)} {ps : List MemPlace}, DataW.LaidVars P w (l ++ [y, x]) ps → ∃ qs, DataW.LaidVars P w (l ++ [x, y]) qs ∧ qs.Perm ps
  | [], ps, h => by
    obtain ⟨x1, x2⟩ := x
    obtain ⟨y1, y2⟩ := y
    obtain ⟨g, t, cs, fuel, p, q, h1, h2, h3, h4, ⟨g', t', cs', fuel', p', q', k1, k2, k3, k4, k5, rfl⟩, rfl⟩ := h
    have k5 : q' = [] := k5
    subst k5
    refine ⟨_, ⟨g', t', cs', fuel', p', _, k1, k2, k3, k4, ⟨g, t, cs, fuel, p, [], h1, h2, h3, h4, rfl, rfl⟩, rfl⟩, ?_⟩
    simp only [List.append_nil]
    exact List.perm_append_comm
  | (n, d) :: l, ps, h => by
    obtain ⟨g, t, cs, fuel, p, q, h1, h2, h3, h4, h5, rfl⟩ := h
    obtain ⟨qs, k1, k2⟩ := laidVars_swap h5
    exact ⟨_, ⟨g, t, cs, fuel, p, qs, h1, h2, h3, h4, k1, rfl⟩, List.Perm.append_left _ k2⟩
theorem laidMet_swap {P : Program} {w : World} {x y : String × DataW Unit} {l : List (String × DataW Unit)} (h : laidMet P (l ++ [y, x]) w) : laidMet P (l ++ [x, y]) w := by
  obtain ⟨ps, h1, h2, h3⟩ := h
  obtain ⟨qs, k1, k2⟩ := laidVars_swap h1
  exact ⟨qs, k1, (k2.nodup_iff).2 h2, fun b off hp => h3 b off (k2.mem_iff.1 hp)⟩
end Go.Proofs.YtaoaniigbooihaaGreatDoor

namespace Go.Proofs.YtaoaniigbooihaaGreatDoor
open Go.RowKit Go.Deep Go.ChangeShapes Go.WideShapes Go.ChangeAt

theorem spc_array {α : Type} {cs : Array α} (h : cs.size = 4) : ∃ c0 c1 c2 c3, cs = #[c0, c1, c2, c3] := by
  obtain ⟨l⟩ := cs
  match l, h with
  | [c0, c1, c2, c3], _ => exact ⟨c0, c1, c2, c3, rfl⟩
theorem spc_list {α : Type} {l : List α} (h : l.length = 4) : ∃ c0 c1 c2 c3, l = [c0, c1, c2, c3] := by
  match l, h with
  | [c0, c1, c2, c3], _ => exact ⟨c0, c1, c2, c3, rfl⟩

set_option maxRecDepth 100000 in
theorem open_spc_cells {H : Type} {enc : TypeId × Value → H} {W : World} {fuel : Nat} {a0 a1 a2 a3 : Value} {x : DataW H × List MemPlace} (hf : DataW.trod enc Tryz.prog W 0 (fun _ => true) true fuel 25 [a0, a1, a2, a3] = some x) :
    ∃ V F D P : Int, a0 = .int .u8 V ∧ a1 = .int .i64 F ∧ a2 = .int .i64 D ∧ a3 = .int .i64 P ∧ (0 ≤ V ∧ V < 256) := by
  obtain ⟨xs, n, _, hx, _, hlen, hfs⟩ := DataW.trod_struct Tryz.underlying25 hf
  obtain ⟨y0, y1, y2, y3, rfl⟩ := spc_list hlen
  have c3 : Tryz.prog.cellsOf 3 = 1 := by kernel_rfl
  have c8 : Tryz.prog.cellsOf 5 = 1 := by kernel_rfl
  have f0 : DataW.trod enc Tryz.prog W 0 (fun _ => true) true n 5 [a0] = some y0 := by simpa [c8] using hfs 0 _ rfl
  have f1 : DataW.trod enc Tryz.prog W 0 (fun _ => true) true n 3 [a1] = some y1 := by simpa [c3] using hfs 1 _ rfl
  have f2 : DataW.trod enc Tryz.prog W 0 (fun _ => true) true n 3 [a2] = some y2 := by simpa [c3] using hfs 2 _ rfl
  have f3 : DataW.trod enc Tryz.prog W 0 (fun _ => true) true n 3 [a3] = some y3 := by simpa [c3] using hfs 3 _ rfl
  obtain ⟨V, e0, _, w0⟩ := DataW.trod_int Tryz.underlying5 f0
  obtain ⟨F, e1, _, w1⟩ := DataW.trod_int Tryz.underlying3 f1
  obtain ⟨D, e2, _, w2⟩ := DataW.trod_int Tryz.underlying3 f2
  obtain ⟨P, e3, _, w3⟩ := DataW.trod_int Tryz.underlying3 f3
  have b0 := bounds_u8 w0
  exact ⟨V, F, D, P, (List.cons.inj e0).1, (List.cons.inj e1).1, (List.cons.inj e2).1, (List.cons.inj e3).1, by omega, by omega⟩

set_option maxRecDepth 100000 in
theorem open_spc {H : Type} {enc : TypeId × Value → H} {W : World} {base : Nat} {v : Value} {d : DataW H} {p : List MemPlace} (hv : Value.okWide Tryz.prog W .any base 25 v) (h : DataW.Trod enc Tryz.prog W 0 (fun _ => true) true 25 v d p) :
    ∃ V F D P : Int, v = .agg #[.int .u8 V, .int .i64 F, .int .i64 D, .int .i64 P] ∧ (0 ≤ V ∧ V < 256) := by
  obtain ⟨cs, rfl, hs3⟩ := okWide_struct Tryz.underlying25 hv
  obtain ⟨a0, a1, a2, a3, rfl⟩ := spc_array (hs3.trans (show Tryz.prog.cellsOf 25 = 4 by kernel_rfl))
  obtain ⟨fuel, hf⟩ := h
  have hf' : DataW.trod enc Tryz.prog W 0 (fun _ => true) true fuel 25 [a0, a1, a2, a3] = some (d, p) := by simpa [Value.cells] using hf
  obtain ⟨V, F, D, P, e0, e1, e2, e3, h1⟩ := open_spc_cells (x := (d, p)) hf'
  rw [e0, e1, e2, e3]
  exact ⟨V, F, D, P, rfl, h1⟩
end Go.Proofs.YtaoaniigbooihaaGreatDoor
