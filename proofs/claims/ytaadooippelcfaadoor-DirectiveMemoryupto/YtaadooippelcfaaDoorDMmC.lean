/-
  THE WALK OF DirectiveMemory.
-/
import Derived.Test.YtaadooippelcfaaDoorGB
import Derived.Deep.RegionHeld3
import Derived.BigQuiet
namespace Go.Proofs.YtaadooippelcfaaDoor
open Go Go.RowKit Go.Deep Go.Shelf

namespace Dm
theorem LP.take {w : World} {a : Option Addr} {D : List Dr.Pc} (h : LP w a D) (n : Nat) : LP w a (D.take n) := by
  rcases h with rfl | ⟨b, off, e, h⟩
  · exact .inl (by simp)
  · refine .inr ⟨b, off, e, fun i p hi => h i p ?_⟩
    rw [List.getElem?_take] at hi
    split at hi
    · exact hi
    · cases hi
theorem right_z (K : Int) (a : Option Addr) (n cap : Nat) (L : List Dr.Pc) (w : World) (hL : L.length = n) (lp : LP w a L) (ok : ∀ x ∈ L, PcW x ∧ x.t.length ≤ 1048576) (hn : n ≤ 1048576) (hT : T10 w.heap.size w) :
    Calls Tryd.prog 7 #[.agg #[.int .i64 K, .string ⟨#[]⟩, .string ⟨#[]⟩, .int .u8 0, .int .i64 0, .int .i64 0, .int .i64 0, .int .i64 0, .int .i64 0, .slice a n cap, .int .i64 0, .int .i64 0]] w fun e w' => e = .returned (.bool true) ∧ Below w.heap.size w w' := by
  subst hL
  exact right_any ⟨K, ⟨#[]⟩, Dr.Pc.no, a, cap, L, 0, 0⟩ w ⟨by show (0 : Nat) ≤ 1048576; omega, ⟨fun x hx => by simp [Dr.Pc.no] at hx, by simp [Dr.Pc.no], by simp [Dr.Pc.no]⟩, by simp [Dr.Pc.no], lp, fun x hx => (ok x hx).1, fun x hx => (ok x hx).2, hn, by simp, by simp⟩ hT
structure Q3 (w0 wx : World) (g g2 c1 c2 N : Nat) (D : List Dr.Pc) : Prop where
  len : D.length = N
  bel : Below w0.heap.size w0 wx
  full : PO w0.heap.size wx (.slice (some ⟨g, 0, none⟩) N c1) D
  was : PO w0.heap.size wx (.slice (some ⟨g2, 0, none⟩) N c2) D
  ok : ∀ x ∈ D, PcW x ∧ x.t.length ≤ 1048576
theorem Q3.on {w0 wx wy : World} {g g2 c1 c2 N : Nat} {D : List Dr.Pc} (h : Q3 w0 wx g g2 c1 c2 N D) (k : Below wx.heap.size wx wy) : Q3 w0 wy g g2 c1 c2 N D :=
  ⟨h.len, below_on h.bel k, RowP.below h.full k, RowP.below h.was k, h.ok⟩
theorem Q3.lps {w0 wx : World} {g g2 c1 c2 N : Nat} {D : List Dr.Pc} (h : Q3 w0 wx g g2 c1 c2 N D) : LP wx (some ⟨g, 0, none⟩) D ∧ LP wx (some ⟨g2, 0, none⟩) D := by
  constructor
  · obtain ⟨a, c, e, _, l⟩ := RowP.lp h.full
    simp only [Value.slice.injEq] at e
    obtain ⟨rfl, _, _⟩ := e
    exact l
  · obtain ⟨a, c, e, _, l⟩ := RowP.lp h.was
    simp only [Value.slice.injEq] at e
    obtain ⟨rfl, _, _⟩ := e
    exact l
/-- While a piece is changed: the list and its likeness. -/
structure Q4 (w0 wx : World) (g g2 c1 c2 N : Nat) (D1 D2 : List Dr.Pc) : Prop where
  bel : Below w0.heap.size w0 wx
  full : PO w0.heap.size wx (.slice (some ⟨g, 0, none⟩) N c1) D1
  was : PO w0.heap.size wx (.slice (some ⟨g2, 0, none⟩) N c2) D2
section
variable {w0 wx : World} {g g2 c1 c2 N : Nat} {D1 D2 : List Dr.Pc}
theorem Q4.put (h : Q4 w0 wx g g2 c1 c2 N D1 D2) (hne : g ≠ g2) {i j : Nat} {y x : Dr.Pc} {v : Value} (hi : D1[i]? = some y) (hj : j < 7) (hx : pe x = (pe y).take j ++ [v] ++ (pe y).drop (j + 1)) : Q4 w0 (wx.setCell ⟨g, i * 7 + j, none⟩ v) g g2 c1 c2 N (D1.set i x) D2 :=
  ⟨sb_below h.bel (ow_lt h.full rfl).1, ow_put1 pe_len h.full hi hj hx, ow_kp h.was (kp_set wx g _ _) (fun b hb e => hne (by simp only [Value.ownBlock, Option.some.injEq] at hb; rw [hb, e]))⟩
theorem Q4.cell (h : Q4 w0 wx g g2 c1 c2 N D1 D2) {i : Nat} {y : Dr.Pc} (hi : D1[i]? = some y) (j : Nat) (hj : j < 7) (v : Value) (hv : (pe y)[j]? = some v) : wx.cell? ⟨g, i * 7 + j, none⟩ = some v ∧ wx.frozen? ⟨g, i * 7 + j, none⟩ = false := ⟨Re.Ow.cell pe_len h.full hi j hj v hv, ow_free h.full _⟩
theorem Q4.wcell (h : Q4 w0 wx g g2 c1 c2 N D1 D2) {i : Nat} {y : Dr.Pc} (hi : D2[i]? = some y) (j : Nat) (hj : j < 7) (v : Value) (hv : (pe y)[j]? = some v) : wx.cell? ⟨g2, i * 7 + j, none⟩ = some v ∧ wx.frozen? ⟨g2, i * 7 + j, none⟩ = false := ⟨Re.Ow.cell pe_len h.was hi j hj v hv, ow_free h.was _⟩
theorem kp_setc (g : Nat) : ∀ (vs : List Value) (o : Nat) (w : World), Re.Kp (fun b => b = g) w (w.setCells g o vs)
  | [], _, _ => Re.Kp.refl _ _
  | _ :: r, _, _ => (kp_set _ g _ _).trans (kp_setc g r _ _)
theorem bel_setc {B g : Nat} {w : World} (hb : B ≤ g) : ∀ (vs : List Value) (o : Nat) (wx : World), Below B w wx → Below B w (wx.setCells g o vs)
  | [], _, _, h => h
  | _ :: r, _, _, h => bel_setc hb r _ _ (sb_below h hb)
theorem Q4.wput (h : Q4 w0 wx g g2 c1 c2 N D1 D2) (hne : g ≠ g2) {i : Nat} (hi : i < D2.length) (x : Dr.Pc) : Q4 w0 (wx.setCells g2 (i * 7) (pe x)) g g2 c1 c2 N D1 (D2.set i x) :=
  ⟨bel_setc (ow_lt h.was rfl).1 _ _ _ h.bel, ow_kp h.full (kp_setc g2 _ _ _) (fun b hb e => hne (by simp only [Value.ownBlock, Option.some.injEq] at hb; rw [hb, e])), ow_put pe_len h.was hi x⟩
end
/-- A call that is laid in a box. -/
def BZ (w : World) (b : Nat) (K : Int) (g n c1 : Nat) : Prop := w.heap[b]? = some (.cells #[.int .i64 K, .string ⟨#[]⟩, .string ⟨#[]⟩, .int .u8 0, .int .i64 0, .int .i64 0, .int .i64 0, .int .i64 0, .int .i64 0, .slice (some ⟨g, 0, none⟩) n c1, .int .i64 0, .int .i64 0] 28)
theorem BZ.below {w w' : World} {b g n c1 : Nat} {K : Int} (h : BZ w b K g n c1) (hB : Below w.heap.size w w') : BZ w' b K g n c1 := by
  have lt : b < w.heap.size := by
    rcases Nat.lt_or_ge b w.heap.size with hl | hl
    · exact hl
    · simp [BZ, Array.getElem?_eq_none hl] at h
  rw [BZ, hB.block b lt]; exact h
theorem BZ.cells {w : World} {b g n c1 : Nat} {K : Int} (h : BZ w b K g n c1) : w.cell? ⟨b, 0, none⟩ = some (.int .i64 K) ∧ w.cell? ⟨b, 1, none⟩ = some (.string ⟨#[]⟩) ∧ w.cell? ⟨b, 2, none⟩ = some (.string ⟨#[]⟩) ∧ w.cell? ⟨b, 3, none⟩ = some (.int .u8 0) ∧ w.cell? ⟨b, 4, none⟩ = some (.int .i64 0) ∧ w.cell? ⟨b, 5, none⟩ = some (.int .i64 0) ∧ w.cell? ⟨b, 6, none⟩ = some (.int .i64 0) ∧ w.cell? ⟨b, 7, none⟩ = some (.int .i64 0) ∧ w.cell? ⟨b, 8, none⟩ = some (.int .i64 0) ∧ w.cell? ⟨b, 9, none⟩ = some (.slice (some ⟨g, 0, none⟩) n c1) ∧ w.cell? ⟨b, 10, none⟩ = some (.int .i64 0) ∧ w.cell? ⟨b, 11, none⟩ = some (.int .i64 0) := by
  simp only [BZ] at h
  refine ⟨?_, ?_, ?_, ?_, ?_, ?_, ?_, ?_, ?_, ?_, ?_, ?_⟩ <;> simp [World.cell?, h]
/-- How long a list of pieces is. -/
def CB (_ : Nat) (ps : List Dr.Pc) : Prop := ps.length ≤ 1048576
theorem ks0 (B : Nat) (w : World) (C : Nat → List Dr.Pc → Prop) : KS C B w (.slice none 0 0) [] :=
  ⟨Re.Ow.nil _, fun i x h => by simp at h, fun i j x y _ h => by simp at h, fun x h => by simp at h⟩
end Dm

set_option maxRecDepth 100000 in
set_option maxHeartbeats 8000000 in
theorem dm_law (fa pa : Option Addr) (fl fc pc : Nat) (fs : List ByteArray) (ps : List Dr.Pc) (w : World) (hfl : fs.length = fl) (hf : Dm.TL w fa fs) (hfs : ∀ s ∈ fs, s.size ≤ 1048576) (hl : fl ≤ 1048576) (hp : LP w pa ps) (hw : ∀ x ∈ ps, PcW x) (ht : ∀ x ∈ ps, x.t.length ≤ 1048576) (hn : ps.length ≤ 1048576) (hT : T10 w.heap.size w) :
    Calls Tryd.prog 4 #[.slice fa fl fc, .slice pa ps.length pc] w fun e w' => e = .returned (.bool true) ∧ Below w.heap.size w w' := by
  have HL := hid hfl
  have HF := hid (fun W (hB : Below w.heap.size w W) => hf.on hB)
  have HS := hid hfs
  have HP := hid (fun W (hB : Below w.heap.size w W) => hp.below hB)
  have HW := hid hw
  have HX := hid ht
  have HN := hid hn
  have AW := hid (awake_any w hT)
  have HT := hid (fun W (hB : Below w.heap.size w W) => (hT.on hB).up hB.size)
  have MA := hid (fun W (hB : Below w.heap.size w W) => many_any fa fl fc fs pa ps.length pc W hfl (hf.on hB) hfs hn hl)
  have lb : (fl : Int) ≤ 1048576 := by omega
  have nb : (ps.length : Int) ≤ 1048576 := by omega
  obtain ⟨n, hnn⟩ : ∃ n, ps.length = n := ⟨_, rfl⟩
  have NN := hid hnn
  rw [hnn] at MA nb ⊢
  clear hfl hf hfs hl hp hw ht hn hT hnn
  go_enter Tryd.func4, Tryd.ntmps4
  go_wp2_with fail
  refine AW.out.mono ?_
  rintro e w1 ⟨rfl, b1⟩
  have B1 := hid b1
  have MM := hid (MA.out w1 b1)
  clear b1 AW MA
  go_wp2_with fail
  refine MM.out.mono ?_
  rintro e w2 ⟨bb, b2⟩
  have B2 := hid (below_on B1.out b2)
  clear b2 B1 MM
  rcases bb with rfl | rfl
  rotate_left
  · go_wp2_with fail
    go_ret
    exact ⟨rfl, B2.out⟩
  go_wp2_with fail
  go_loopg [5, 7] fl (fun m kw iv wr => ∃ (i : Nat) (L : List Dm.Sk) (kv : Value), kv = kw ∧ i + m = fl ∧ iv = .int .i64 (i : Int) ∧ Hid (Below w.heap.size w wr ∧ Dm.KS Dm.CB w.heap.size wr kv L ∧ L.length ≤ 2 * i))
  case atStart => exact ⟨0, [], _, rfl, by omega, rfl, ⟨B2.out, Dm.ks0 _ _ _, by simp⟩⟩
  case round =>
    obtain ⟨i, L, kv, rfl, hi, rfl, I⟩ := hrel
    clear B2
    by_cases il : i < fl
    · have ili : (i : Int) < (fl : Int) := by omega
      obtain ⟨s, hsi⟩ : ∃ s, fs[i]? = some s := ⟨_, List.getElem?_eq_getElem (by have := HL.out; omega)⟩
      have sl := HS.out s (List.mem_of_getElem? hsi)
      obtain ⟨xs, hxs, hxl⟩ := str_nums s
      have RP := hid (fun W => rparse_any s xs W hxs (by omega))
      have DP := hid (fun W => parse_any s xs W hxs (by omega))
      have FC := hid (fun W (hB : Below w.heap.size w W) => HF.out W hB i s hsi)
      have PL : Hid ((Dr.prs xs).1.length ≤ 1048576) := by have := Dr.prs_le _ xs (Nat.le_refl _); show _ ≤ _; omega
      clear hsi sl hxs hxl
      obtain ⟨fb, fo, rfl, c⟩ := FC.out wr I.out.1
      go_wp2_with fail
      refine (RP.out _).mono ?_
      rintro e w3 ⟨mv, rfl, rp, b3⟩
      have I3 : Hid (Below w.heap.size w w3 ∧ Dm.KS Dm.CB w.heap.size w3 kv L ∧ L.length ≤ 2 * i) := ⟨below_on I.out.1 b3, I.out.2.1.on b3, I.out.2.2⟩
      obtain ⟨ra, rc, rfl, _, _⟩ := rp.lp
      have RL : Hid (Dm.PO w.heap.size w3 (.slice ra (Dr.prs xs).1.length rc) (Dr.prs xs).1 ∧ ∀ b, kv.ownBlock = some b → (Value.slice ra (Dr.prs xs).1.length rc).ownBlock ≠ some b) := ⟨Dm.ow_low rp I.out.1.size, fun b h1 h2 => by have := (Dm.ow_lt I.out.2.1.row h1).2; have := (Dm.ow_lt rp h2).1; omega⟩
      clear b3 rp I RP c
      go_wp2_with fail
      go_loopg [5, 11] 2 (fun m kw iv wr => ∃ (t : Nat) (L : List Dm.Sk) (kv : Value), kv = kw ∧ t + m = 2 ∧ iv = .int .i64 (t : Int) ∧ Hid (Below w.heap.size w wr ∧ (Dm.PO w.heap.size wr (.slice ra (Dr.prs xs).1.length rc) (Dr.prs xs).1 ∧ ∀ b, kv.ownBlock = some b → (Value.slice ra (Dr.prs xs).1.length rc).ownBlock ≠ some b) ∧ Dm.KS Dm.CB w.heap.size wr kv L ∧ L.length ≤ 2 * i + t))
      case atStart => exact ⟨0, L, kv, rfl, by omega, rfl, ⟨I3.out.1, RL.out, I3.out.2.1, I3.out.2.2⟩⟩
      case round =>
        obtain ⟨t, L, kv, rfl, ht, rfl, J⟩ := hrel
        clear I3 RL
        by_cases tl : t < 2
        · have tli : (t : Int) < 2 := by omega
          have c : wr.cell? ⟨fb, fo + i, none⟩ = some (.string s) := by
            obtain ⟨b', o', e, c⟩ := FC.out wr J.out.1
            cases e
            exact c
          have LL : Hid (L.length ≤ 4000000) := by have := J.out.2.2.2; show _ ≤ _; omega
          go_wp2_with fail
          refine (DP.out _).mono ?_
          rintro e w5 ⟨mv, rfl, rp, b5⟩
          obtain ⟨da, dc, rfl, _, dl⟩ := rp.lp
          have J5 : Hid (Below w.heap.size w w5 ∧ Dm.PO w.heap.size w5 (.slice ra (Dr.prs xs).1.length rc) (Dr.prs xs).1 ∧ Below wr.heap.size wr w5 ∧ Dm.PO wr.heap.size w5 (.slice da (Dr.prs xs).1.length dc) (Dr.prs xs).1) := ⟨below_on J.out.1 b5, RowP.below J.out.2.1.1 b5, b5, rp⟩
          have SA := hid (same_any da ra dc rc (Dr.prs xs).1 w5 dl (by obtain ⟨a', c', e', _, l'⟩ := RowP.lp J5.out.2.1; cases e'; exact l') (by have := PL.out; omega))
          clear b5 rp dl c
          go_wp2_with fail
          refine SA.out.mono ?_
          rintro e w6 ⟨rfl, b6⟩
          have J6 : Hid (Below w.heap.size w w6 ∧ Dm.PO w.heap.size w6 (.slice ra (Dr.prs xs).1.length rc) (Dr.prs xs).1 ∧ Below wr.heap.size wr w6 ∧ Dm.PO wr.heap.size w6 (.slice da (Dr.prs xs).1.length dc) (Dr.prs xs).1) := ⟨below_on J5.out.1 b6, RowP.below J5.out.2.1 b6, below_on J5.out.2.2.1 b6, RowP.below J5.out.2.2.2 b6⟩
          clear b6 J5 SA
          obtain ⟨kv', w7, e7, k7, b7, K7, o7⟩ := J.out.2.2.1.push J6.out.2.2.1 ⟨da, (Dr.prs xs).1.length, dc⟩ J6.out.2.2.2 rfl PL.out (by have := LL.out; omega) J.out.1.size
          have E7 := hid e7
          have J7 : Hid (Below w.heap.size w w7 ∧ (Dm.PO w.heap.size w7 (.slice ra (Dr.prs xs).1.length rc) (Dr.prs xs).1 ∧ ∀ b, kv'.ownBlock = some b → (Value.slice ra (Dr.prs xs).1.length rc).ownBlock ≠ some b) ∧ Dm.KS Dm.CB w.heap.size w7 kv' (L ++ [⟨da, (Dr.prs xs).1.length, dc⟩]) ∧ (L ++ [(⟨da, (Dr.prs xs).1.length, dc⟩ : Dm.Sk)]).length ≤ 2 * i + (t + 1)) := by
            refine ⟨J6.out.1.trans b7, ⟨Dm.ow_kp J6.out.2.1 K7 (fun g hg hk => J.out.2.1.2 g hk hg), fun b hb hr => ?_⟩, k7, by have := J.out.2.2.2; simp; omega⟩
            rcases o7 b hb with q | q
            · exact J.out.2.1.2 b q hr
            · have := (Dm.ow_lt J6.out.2.1 hr).2
              omega
          clear e7 k7 b7 K7 o7 J J6
          go_wp2_with (at_builtin; refine wpList_append_s rfl _ _ rfl E7.out (by rfl) (by rfl) ?_; clear E7)
          go_roundg (2 - (t + 1))
          case measure => omega
          case rel => exact ⟨t + 1, _, _, rfl, by omega, by go_num, J7.out⟩
        · have tli : ¬ (t : Int) < 2 := by omega
          go_wp2_with fail
          go_roundg (fl - (i + 1))
          case measure => omega
          case rel => exact ⟨i + 1, L, kv, rfl, by omega, by go_num, ⟨J.out.1, J.out.2.2.1, by have := J.out.2.2.2; omega⟩⟩
    · have ili : ¬ (i : Int) < (fl : Int) := by omega
      obtain ⟨w0, rfl⟩ : ∃ w0, w0 = wr := ⟨wr, rfl⟩
      obtain ⟨N, hN⟩ : ∃ N, n + 20 = N := ⟨_, rfl⟩
      have nN : (n : Int) + 20 = (N : Int) := by omega
      have Nb : (N : Int) ≤ 1048596 := by omega
      obtain ⟨w3, m1, m2, m3⟩ := make_p0 N (by omega) w0
      have PL3 := hid (HP.out w3 (below_on I.out.1 m3))
      obtain ⟨mv', w4, a1, a2, a3, _⟩ := RowP.catl (cap := pc) m2 PL3.out (by have := NN.out; simp; omega) m3.size
      rw [List.nil_append] at a2
      rw [NN.out] at a1
      have J4 : Hid (Below w.heap.size w w0 ∧ Dm.KS Dm.CB w.heap.size w0 kv L ∧ L.length ≤ 2097152 ∧ Below w0.heap.size w0 w4) := ⟨I.out.1, I.out.2.1, by have := I.out.2.2; omega, m3.trans a3⟩
      have R4 : Hid (RowP w0.heap.size w4 mv' ps) := a2
      have A1 := hid a1
      clear m2 m3 a1 a2 a3 PL3 I
      go_wp2_with (at_builtin; refine wpList_append_s rfl _ _ rfl A1.out (by rfl) (by rfl) ?_; clear A1)
      go_loopg [16, 17] 20 (fun m fw iv wx => ∃ (t : Nat) (fv : Value), fv = fw ∧ t + m = 20 ∧ iv = .int .i64 (t : Int) ∧ Hid (Below w0.heap.size w0 wx ∧ RowP w0.heap.size wx fv (ps ++ List.replicate t (Dm.mkp (-1)))))
      case atStart => exact ⟨0, mv', rfl, by omega, rfl, ⟨J4.out.2.2.2, by rw [List.replicate_zero, List.append_nil]; exact R4.out⟩⟩
      case round =>
        obtain ⟨t, fv, rfl, ht, rfl, K⟩ := hrel
        clear R4
        by_cases tl : t < 20
        · have tli : (t : Int) < 20 := by omega
          go_wp2_with fail
          refine (Dm.marked_any (-1) _).mono ?_
          rintro e w6 ⟨rfl, b6⟩
          obtain ⟨fv', w7, e7, r7, _, b7, _⟩ := (K.out.2.below b6).push (Dm.mkp (-1)) (by have := HN.out; simp; omega) (by have := b6.size; have := K.out.1.size; omega)
          rw [Dm.mkp_v] at e7
          have E7 := hid e7
          have K7 : Hid (Below w0.heap.size w0 w7 ∧ RowP w0.heap.size w7 fv' (ps ++ List.replicate (t + 1) (Dm.mkp (-1)))) := ⟨(below_on K.out.1 b6).trans b7, by rw [List.replicate_succ', ← List.append_assoc]; exact r7⟩
          clear b6 e7 r7 b7 K
          go_wp2_with (at_builtin; refine wpList_append_s rfl _ _ rfl E7.out (by rfl) (by rfl) ?_; clear E7)
          go_roundg (20 - (t + 1))
          case measure => omega
          case rel => exact ⟨t + 1, _, rfl, by omega, by go_num, K7.out⟩
        · have tli : ¬ (t : Int) < 20 := by omega
          obtain rfl : t = 20 := by omega
          obtain ⟨D, hD⟩ : ∃ D, ps ++ List.replicate 20 (Dm.mkp (-1)) = D := ⟨_, rfl⟩
          have DL : D.length = N := by rw [← hD]; have := NN.out; simp; omega
          have DOK : Hid (∀ x ∈ D, PcW x ∧ x.t.length ≤ 1048576) := by
            intro x hx
            rw [← hD] at hx
            rcases List.mem_append.1 hx with q | q
            · exact ⟨HW.out x q, HX.out x q⟩
            · rw [List.eq_of_mem_replicate q]
              exact ⟨⟨by simp [Dm.mkp], by decide, by decide⟩, by simp [Dm.mkp]⟩
          have K1 := K.out
          rw [hD] at K1
          clear K hD
          have fsh := Re.Ow.shape (Dm.po_of K1.2)
          rw [DL] at fsh
          rcases fsh with ⟨c1, _, h0⟩ | ⟨g, c1, rfl, gb, gl, _⟩
          · rw [h0] at DL; simp at DL; omega
          obtain ⟨_, _, e', cb, lp⟩ := K1.2.lp
          rw [DL] at e' cb
          cases e'
          have cbi : (N : Int) ≤ (c1 : Int) := by omega
          have CP := copied_any (some ⟨g, 0, none⟩) c1 D wr lp (by rw [DL]; omega)
          rw [DL] at CP
          have CP := hid CP
          have K2 := hid K1
          clear K1 lp
          go_wp2_with fail
          refine CP.out.mono ?_
          rintro e w8 ⟨r, c2, rfl, _, rp, b8⟩
          have wsh := Re.Ow.shape (Dm.po_of rp)
          rw [DL] at wsh
          rcases wsh with ⟨c2', _, h0⟩ | ⟨g2, c2', e', hb2, hl2, _⟩
          · rw [h0] at DL; simp at DL; omega
          cases e'
          have GN : Hid (g ≠ g2) := by intro q; omega
          have Q : Hid (Dm.Q3 w0 w8 g g2 c1 c2 N D) := ⟨DL, below_on K2.out.1 b8, RowP.below K2.out.2 b8, Dm.ow_low rp K2.out.1.size, DOK.out⟩
          clear K2 CP b8 rp hb2 hl2 gb gl
          go_wp2_with fail
          go_loopg [19] 2 (fun m iv wx => ∃ (k : Nat) (D : List Dr.Pc), k + m = 2 ∧ iv = .int .i64 (k : Int) ∧ Hid (Dm.Q3 w0 wx g g2 c1 c2 N D))
          case atStart => exact ⟨0, D, by omega, rfl, Q.out⟩
          case round =>
            obtain ⟨k, D, hk, rfl, Q⟩ := hrel
            by_cases kl : k < 2
            · have kli : (k : Int) < 2 := by omega
              have nc : (n : Int) ≤ (c1 : Int) := by omega
              go_upto_region 30 with fail
              have BX : Hid (Dm.BZ (wr.alloc (.cells #[.int .i64 3, .string ⟨#[]⟩, .string ⟨#[]⟩, .int .u8 0, .int .i64 0, .int .i64 0, .int .i64 0, .int .i64 0, .int .i64 0, .slice (some ⟨g, 0, none⟩) n c1, .int .i64 0, .int .i64 0] 28)) wr.heap.size 3 g n c1) := heap_alloc_new wr _
              have Q1 := hid (Q.out.on (alloc_b wr (.cells #[.int .i64 3, .string ⟨#[]⟩, .string ⟨#[]⟩, .int .u8 0, .int .i64 0, .int .i64 0, .int .i64 0, .int .i64 0, .int .i64 0, .slice (some ⟨g, 0, none⟩) n c1, .int .i64 0, .int .i64 0] 28)))
              generalize wr.alloc (.cells #[.int .i64 3, .string ⟨#[]⟩, .string ⟨#[]⟩, .int .u8 0, .int .i64 0, .int .i64 0, .int .i64 0, .int .i64 0, .int .i64 0, .slice (some ⟨g, 0, none⟩) n c1, .int .i64 0, .int .i64 0] 28) = wX at *
              obtain ⟨xb, hxb⟩ : ∃ xb, wr.heap.size = xb := ⟨_, rfl⟩
              rw [hxb] at BX ⊢
              clear hxb Q
              go_upto_region 31 with fail
              have BY : Hid (Dm.BZ (wX.alloc (.cells #[.int .i64 4, .string ⟨#[]⟩, .string ⟨#[]⟩, .int .u8 0, .int .i64 0, .int .i64 0, .int .i64 0, .int .i64 0, .int .i64 0, .slice (some ⟨g, 0, none⟩) n c1, .int .i64 0, .int .i64 0] 28)) wX.heap.size 4 g n c1) := heap_alloc_new wX _
              have BX2 := hid (BX.out.below (alloc_b wX (.cells #[.int .i64 4, .string ⟨#[]⟩, .string ⟨#[]⟩, .int .u8 0, .int .i64 0, .int .i64 0, .int .i64 0, .int .i64 0, .int .i64 0, .slice (some ⟨g, 0, none⟩) n c1, .int .i64 0, .int .i64 0] 28)))
              have Q2 := hid (Q1.out.on (alloc_b wX (.cells #[.int .i64 4, .string ⟨#[]⟩, .string ⟨#[]⟩, .int .u8 0, .int .i64 0, .int .i64 0, .int .i64 0, .int .i64 0, .int .i64 0, .slice (some ⟨g, 0, none⟩) n c1, .int .i64 0, .int .i64 0] 28)))
              generalize wX.alloc (.cells #[.int .i64 4, .string ⟨#[]⟩, .string ⟨#[]⟩, .int .u8 0, .int .i64 0, .int .i64 0, .int .i64 0, .int .i64 0, .int .i64 0, .slice (some ⟨g, 0, none⟩) n c1, .int .i64 0, .int .i64 0] 28) = wY at *
              obtain ⟨yb, hyb⟩ : ∃ yb, wX.heap.size = yb := ⟨_, rfl⟩
              rw [hyb] at BY ⊢
              clear hyb Q1 BX
              obtain ⟨d0, d1, d2, d3, d4, d5, d6, d7, d8, d9, d10, d11⟩ := BX2.out.cells
              have RT : Hid (∀ K W, Dm.Q3 w0 W g g2 c1 c2 N D → Calls Tryd.prog 7 #[.agg #[.int .i64 K, .string ⟨#[]⟩, .string ⟨#[]⟩, .int .u8 0, .int .i64 0, .int .i64 0, .int .i64 0, .int .i64 0, .int .i64 0, .slice (some ⟨g, 0, none⟩) n c1, .int .i64 0, .int .i64 0]] W fun e w' => e = .returned (.bool true) ∧ Below W.heap.size W w') := fun K W q =>
                Dm.right_z K (some ⟨g, 0, none⟩) n c1 (D.take n) W (by rw [List.length_take, q.len]; omega) (Dm.LP.take q.lps.1 n) (fun x hx => q.ok x (List.mem_of_mem_take hx)) (by omega) (HT.out W (below_on J4.out.1 q.bel))
              go_wp2_with fail
              refine (RT.out 3 wY Q2.out).mono ?_
              rintro e w9 ⟨rfl, b9⟩
              have Q3 := hid (Q2.out.on b9)
              have BX3 := hid (BX2.out.below b9)
              have BY3 := hid (BY.out.below b9)
              clear d0 d1 d2 d3 d4 d5 d6 d7 d8 d9 d10 d11 b9 Q2 BX2 BY
              obtain ⟨d0, d1, d2, d3, d4, d5, d6, d7, d8, d9, d10, d11⟩ := BX3.out.cells
              go_wp2_with fail
              refine (RT.out 3 w9 Q3.out).mono ?_
              rintro e wA ⟨rfl, bA⟩
              have Q4 := hid (Q3.out.on bA)
              have BY4 := hid (BY3.out.below bA)
              clear d0 d1 d2 d3 d4 d5 d6 d7 d8 d9 d10 d11 bA Q3 BX3 BY3
              obtain ⟨d0, d1, d2, d3, d4, d5, d6, d7, d8, d9, d10, d11⟩ := BY4.out.cells
              go_wp2_with fail
              refine (RT.out 4 wA Q4.out).mono ?_
              rintro e wB ⟨rfl, bB⟩
              have Q5 := hid (Q4.out.on bB)
              clear d0 d1 d2 d3 d4 d5 d6 d7 d8 d9 d10 d11 bB Q4 BY4 RT
              have SA := same_any (some ⟨g, 0, none⟩) (some ⟨g2, 0, none⟩) c1 c2 D wB Q5.out.lps.1 Q5.out.lps.2 (by rw [Q5.out.len]; omega)
              rw [Q5.out.len] at SA
              have SA := hid SA
              go_wp2_with fail
              refine SA.out.mono ?_
              rintro e wC ⟨rfl, bC⟩
              have Q6 := hid (Q5.out.on bC)
              clear bC Q5 SA
              go_wp2_with fail
              go_loopg [22] n (fun m iv wx => ∃ (i : Nat) (D : List Dr.Pc), i + m = n ∧ iv = .int .i64 (i : Int) ∧ Hid (Dm.Q3 w0 wx g g2 c1 c2 N D))
              case atStart => exact ⟨0, D, by omega, rfl, Q6.out⟩
              case round =>
                obtain ⟨i, D, hi, rfl, Q⟩ := hrel
                clear Q6
                by_cases il : i < n
                · have ili : (i : Int) < (n : Int) := by omega
                  have iN : (i : Int) < (N : Int) := by omega
                  have DN := Q.out.len
                  obtain ⟨x, hx⟩ : ∃ x, D[i]? = some x := ⟨_, List.getElem?_eq_getElem (by omega)⟩
                  have HXI := hid hx
                  obtain ⟨xt, xv, xf, xwk, xwd, xpk, xpr⟩ := x
                  have Q' : Hid (Dm.Q4 w0 wr g g2 c1 c2 N D D) := ⟨Q.out.bel, Q.out.full, Q.out.was⟩
                  have OK := hid Q.out.ok
                  obtain ⟨d2, fz⟩ := Q'.out.cell hx 2 (by omega) _ rfl
                  clear hx Q
                  go_upto_region 37 with fail
                  obtain ⟨y, hy⟩ : ∃ y, bits BinOp.xor .i64 xf 1 = y := ⟨_, rfl⟩
                  rw [hy]
                  have V1 := hid (Q'.out.put GN.out (v := .int .i64 y) (x := ⟨xt, xv, y, xwk, xwd, xpk, xpr⟩) HXI.out (j := 2) (by omega) rfl)
                  have G1 : Hid ((D.set i ⟨xt, xv, y, xwk, xwd, xpk, xpr⟩)[i]? = some ⟨xt, xv, y, xwk, xwd, xpk, xpr⟩) := List.getElem?_set_self (by omega)
                  clear d2 fz hy Q'
                  generalize wr.setCell ⟨g, i * 7 + 2, none⟩ (.int .i64 y) = wD at *
                  obtain ⟨d5, fz⟩ := V1.out.cell G1.out 5 (by omega) _ rfl
                  go_upto_region 38 with fail
                  have V2 := hid (V1.out.put GN.out (v := .int .i64 2) (x := ⟨xt, xv, y, xwk, xwd, 2, xpr⟩) G1.out (j := 5) (by omega) rfl)
                  rw [List.set_set] at V2
                  have G2 : Hid ((D.set i ⟨xt, xv, y, xwk, xwd, 2, xpr⟩)[i]? = some ⟨xt, xv, y, xwk, xwd, 2, xpr⟩) := List.getElem?_set_self (by omega)
                  clear d5 fz V1 G1
                  generalize wD.setCell ⟨g, i * 7 + 5, none⟩ (.int .i64 2) = wE at *
                  obtain ⟨d6, fz⟩ := V2.out.cell G2.out 6 (by omega) _ rfl
                  go_upto_region 39 with fail
                  have V3 := hid (V2.out.put GN.out (v := .int .i64 0) (x := ⟨xt, xv, y, xwk, xwd, 2, 0⟩) G2.out (j := 6) (by omega) rfl)
                  rw [List.set_set] at V3
                  have G3 : Hid ((D.set i ⟨xt, xv, y, xwk, xwd, 2, 0⟩)[i]? = some ⟨xt, xv, y, xwk, xwd, 2, 0⟩) := List.getElem?_set_self (by omega)
                  clear d6 fz V2 G2
                  generalize wE.setCell ⟨g, i * 7 + 6, none⟩ (.int .i64 0) = wF at *
                  have a0 := (V3.out.cell G3.out 0 (by omega) _ rfl).1
                  have a1 := (V3.out.cell G3.out 1 (by omega) _ rfl).1
                  have a2 := (V3.out.cell G3.out 2 (by omega) _ rfl).1
                  have a3 := (V3.out.cell G3.out 3 (by omega) _ rfl).1
                  have a4 := (V3.out.cell G3.out 4 (by omega) _ rfl).1
                  have a5 := (V3.out.cell G3.out 5 (by omega) _ rfl).1
                  have a6 := (V3.out.cell G3.out 6 (by omega) _ rfl).1
                  obtain ⟨b0, f0⟩ := V3.out.wcell HXI.out 0 (by omega) _ rfl
                  obtain ⟨b1, f1⟩ := V3.out.wcell HXI.out 1 (by omega) _ rfl
                  obtain ⟨b2, f2⟩ := V3.out.wcell HXI.out 2 (by omega) _ rfl
                  obtain ⟨b3, f3⟩ := V3.out.wcell HXI.out 3 (by omega) _ rfl
                  obtain ⟨b4, f4⟩ := V3.out.wcell HXI.out 4 (by omega) _ rfl
                  obtain ⟨b5, f5⟩ := V3.out.wcell HXI.out 5 (by omega) _ rfl
                  obtain ⟨b6, f6⟩ := V3.out.wcell HXI.out 6 (by omega) _ rfl
                  have gn := GN.out
                  simp only [Nat.add_zero] at a0 b0 f0
                  go_upto_region 35 with fail
                  have V4 : Hid (Dm.Q4 w0 (((((((wF.setCell ⟨g2, i * 7, none⟩ (.string (strOfNums xt))).setCell ⟨g2, i * 7 + 1, none⟩ (.int .u8 xv)).setCell ⟨g2, i * 7 + 2, none⟩ (.int .i64 y)).setCell ⟨g2, i * 7 + 3, none⟩ (.int .i64 xwk)).setCell ⟨g2, i * 7 + 4, none⟩ (.int .i64 xwd)).setCell ⟨g2, i * 7 + 5, none⟩ (.int .i64 2)).setCell ⟨g2, i * 7 + 6, none⟩ (.int .i64 0)) g g2 c1 c2 N (D.set i ⟨xt, xv, y, xwk, xwd, 2, 0⟩) (D.set i ⟨xt, xv, y, xwk, xwd, 2, 0⟩)) := V3.out.wput GN.out (i := i) (by omega) ⟨xt, xv, y, xwk, xwd, 2, 0⟩
                  generalize ((((((wF.setCell ⟨g2, i * 7, none⟩ (.string (strOfNums xt))).setCell ⟨g2, i * 7 + 1, none⟩ (.int .u8 xv)).setCell ⟨g2, i * 7 + 2, none⟩ (.int .i64 y)).setCell ⟨g2, i * 7 + 3, none⟩ (.int .i64 xwk)).setCell ⟨g2, i * 7 + 4, none⟩ (.int .i64 xwd)).setCell ⟨g2, i * 7 + 5, none⟩ (.int .i64 2)).setCell ⟨g2, i * 7 + 6, none⟩ (.int .i64 0) = wG at *
                  have Q7 : Hid (Dm.Q3 w0 wG g g2 c1 c2 N (D.set i ⟨xt, xv, y, xwk, xwd, 2, 0⟩)) := ⟨by rw [List.length_set]; exact DN, V4.out.bel, V4.out.full, V4.out.was, fun x hx => by
                    rcases List.mem_or_eq_of_mem_set hx with q | q
                    · exact OK.out x q
                    · have o := OK.out _ (List.mem_of_getElem? HXI.out)
                      rw [q]
                      exact ⟨⟨o.1.1, o.1.2⟩, o.2⟩⟩
                  clear V3 V4 G3 HXI OK a0 a1 a2 a3 a4 a5 a6 b0 b1 b2 b3 b4 b5 b6 f0 f1 f2 f3 f4 f5 f6
                  go_wp2_with fail
                  go_roundg (n - (i + 1))
                  case measure => omega
                  case rel => exact ⟨i + 1, _, by omega, by go_num, Q7.out⟩
                · have ili : ¬ (i : Int) < (n : Int) := by omega
                  go_wp2_with fail
                  go_roundg (2 - (k + 1))
                  case measure => omega
                  case rel => exact ⟨k + 1, D, by omega, by go_num, Q.out⟩
            · have kli : ¬ (k : Int) < 2 := by omega
              have K5 : Hid (Below w.heap.size w wr ∧ Dm.KS Dm.CB w.heap.size wr kv L ∧ L.length ≤ 2097152) := ⟨below_on J4.out.1 Q.out.bel, J4.out.2.1.on Q.out.bel, J4.out.2.2.1⟩
              clear J4 Q GN DOK HT HN HX HW HP HS HF HL
              clear kl hk
              obtain ⟨kp, kc, rfl⟩ := Dm.ow_len K5.out.2.1.row
              obtain ⟨M, hM⟩ : ∃ M, L.length = M := ⟨_, rfl⟩
              rw [hM] at K5 ⊢
              have ML := hid hM
              have Mb : (M : Int) ≤ 2097152 := by have := K5.out.2.2; omega
              obtain ⟨w5, rfl⟩ : ∃ w5, w5 = wr := ⟨wr, rfl⟩
              have P : Hid (Dm.P4 w w5 w5 (.slice kp M kc) L (.slice none 0 0) [] 0 0) := ⟨K5.out.1, K5.out.2.1.mono (fun t x _ ps _ q => ⟨q, fun j h => by omega⟩), Re.Ow.nil _, K5.out.1.size, Nat.le_refl _, fun b hb => (Dm.ow_lt K5.out.2.1.row hb).2, fun x hx b hb => (K5.out.2.1.blk hx hb).2⟩
              clear K5 hM
              go_wp2_with fail
              go_loopg [6, 23] M (fun m sw iv wx => ∃ (i : Nat) (sv : Value) (Z : List Nat), sv = sw ∧ i + m = M ∧ iv = .int .i64 (i : Int) ∧ Hid (Dm.P4 w w5 wx (.slice kp M kc) L sv Z i 0 ∧ Z = (L.take i).map (·.n)))
              case atStart => exact ⟨0, _, [], rfl, by omega, rfl, ⟨P.out, by simp⟩⟩
              case round =>
                clear P
                obtain ⟨i, sv, Z, rfl, hi, rfl, P⟩ := hrel
                by_cases il : i < M
                · have ili : (i : Int) < (M : Int) := by omega
                  obtain ⟨x, hx⟩ : ∃ x, L[i]? = some x := ⟨_, List.getElem?_eq_getElem (by have := ML.out; omega)⟩
                  have HXI := hid hx
                  obtain ⟨xp, xn, xc⟩ := x
                  have XB : Hid (xn ≤ 1048576) := by
                    obtain ⟨ps, z1, z2, _⟩ := P.out.1.ks.each i _ hx
                    have := z2.1
                    simp only at z1
                    show _ ≤ _
                    omega
                  have xb : (xn : Int) ≤ 1048576 := by have := XB.out; omega
                  obtain ⟨kg, kc', ek, ck⟩ := P.out.1.ks.cell hx
                  simp only [Value.slice.injEq] at ek
                  obtain ⟨rfl, em, ec⟩ := ek
                  clear em ec
                  obtain ⟨sv', w6, e6, p6⟩ := P.out.1.push xn (by rw [P.out.2]; have := ML.out; simp; omega)
                  have E6 := hid e6
                  have P6 := hid p6
                  have ZE : Hid (Z ++ [xn] = (L.take (i + 1)).map (·.n)) := by
                    show _ = _
                    rw [P.out.2, List.take_add_one, hx]
                    simp
                  clear e6 p6 hx P
                  go_wp2_with (at_builtin; refine wpList_append_s rfl _ _ rfl E6.out (by rfl) (by rfl) ?_; clear E6)
                  clear ck
                  go_loopg [24] xn (fun m iv wx => ∃ k : Nat, k + m = xn ∧ iv = .int .i64 (k : Int) ∧ Hid (Dm.P4 w w5 wx (.slice (some ⟨kg, 0, none⟩) M kc) L sv' (Z ++ [xn]) i k))
                  case atStart => exact ⟨0, by omega, rfl, P6.out⟩
                  case round =>
                    clear P6
                    obtain ⟨k, hk, rfl, P⟩ := hrel
                    have ck : wr.cell? ⟨kg, i, none⟩ = some (.slice xp xn xc) := by
                      obtain ⟨g', c', e', ck⟩ := P.out.ks.cell HXI.out
                      simp only [Value.slice.injEq, Option.some.injEq, Addr.mk.injEq] at e'
                      rw [e'.1.1]
                      exact ck
                    by_cases kx : k < xn
                    · have kxi : (k : Int) < (xn : Int) := by omega
                      go_upto_region 47 with fail
                      obtain ⟨g, qe, _, _, _⟩ := P.out.mark HXI.out kx
                      simp only at qe
                      subst qe
                      have RW : Hid (∀ wx, Below wr.heap.size wr wx → wx.cell? ⟨kg, i, none⟩ = some (.slice (some ⟨g, 0, none⟩) xn xc)) := fun wx b => by rw [b.cell (cell_lt ck)]; exact ck
                      have ST : Hid (∀ wx, Below wr.heap.size wr wx → ∃ y0 y1 y2 y3 y4 y5 y6 : Value, (wx.cell? ⟨g, k * 7, none⟩ = some y0 ∧ wx.cell? ⟨g, k * 7 + 1, none⟩ = some y1 ∧ wx.cell? ⟨g, k * 7 + 2, none⟩ = some y2 ∧ wx.cell? ⟨g, k * 7 + 3, none⟩ = some y3 ∧ wx.cell? ⟨g, k * 7 + 4, none⟩ = some y4 ∧ wx.cell? ⟨g, k * 7 + 5, none⟩ = some y5 ∧ wx.cell? ⟨g, k * 7 + 6, none⟩ = some y6) ∧ (wx.frozen? ⟨g, k * 7, none⟩ = false ∧ wx.frozen? ⟨g, k * 7 + 1, none⟩ = false ∧ wx.frozen? ⟨g, k * 7 + 2, none⟩ = false ∧ wx.frozen? ⟨g, k * 7 + 3, none⟩ = false ∧ wx.frozen? ⟨g, k * 7 + 4, none⟩ = false ∧ wx.frozen? ⟨g, k * 7 + 5, none⟩ = false ∧ wx.frozen? ⟨g, k * 7 + 6, none⟩ = false) ∧ Dm.P4 w w5 (((((((wx.setCell ⟨g, k * 7, none⟩ (.string ⟨#[37]⟩)).setCell ⟨g, k * 7 + 1, none⟩ (.int .u8 122)).setCell ⟨g, k * 7 + 2, none⟩ (.int .i64 (-7))).setCell ⟨g, k * 7 + 3, none⟩ (.int .i64 0)).setCell ⟨g, k * 7 + 4, none⟩ (.int .i64 (i : Int))).setCell ⟨g, k * 7 + 5, none⟩ (.int .i64 0)).setCell ⟨g, k * 7 + 6, none⟩ (.int .i64 0)) (.slice (some ⟨kg, 0, none⟩) M kc) L sv' (Z ++ [xn]) i (k + 1) ∧ (((((((wx.setCell ⟨g, k * 7, none⟩ (.string ⟨#[37]⟩)).setCell ⟨g, k * 7 + 1, none⟩ (.int .u8 122)).setCell ⟨g, k * 7 + 2, none⟩ (.int .i64 (-7))).setCell ⟨g, k * 7 + 3, none⟩ (.int .i64 0)).setCell ⟨g, k * 7 + 4, none⟩ (.int .i64 (i : Int))).setCell ⟨g, k * 7 + 5, none⟩ (.int .i64 0)).setCell ⟨g, k * 7 + 6, none⟩ (.int .i64 0)).cell? ⟨kg, i, none⟩ = some (.slice (some ⟨g, 0, none⟩) xn xc)) := fun wx b => by
                        obtain ⟨g', e', cs, fz, p4⟩ := (P.out.on b).mark HXI.out kx
                        simp only [Option.some.injEq, Addr.mk.injEq] at e'
                        obtain ⟨rfl, _⟩ := e'
                        obtain ⟨y0, c0⟩ := cs 0 (by omega)
                        obtain ⟨y1, c1⟩ := cs 1 (by omega)
                        obtain ⟨y2, c2⟩ := cs 2 (by omega)
                        obtain ⟨y3, c3⟩ := cs 3 (by omega)
                        obtain ⟨y4, c4⟩ := cs 4 (by omega)
                        obtain ⟨y5, c5⟩ := cs 5 (by omega)
                        obtain ⟨y6, c6⟩ := cs 6 (by omega)
                        refine ⟨y0, y1, y2, y3, y4, y5, y6, ⟨c0, c1, c2, c3, c4, c5, c6⟩, ⟨fz _, fz _, fz _, fz _, fz _, fz _, fz _⟩, p4, ?_⟩
                        obtain ⟨g', c', e', ck⟩ := p4.ks.cell HXI.out
                        simp only [Value.slice.injEq, Option.some.injEq, Addr.mk.injEq] at e'
                        rw [e'.1.1]
                        exact ck
                      have SSD : Hid (Below wr.heap.size wr wr.drew) := ⟨rfl, rfl, rfl, Nat.le_refl _, fun _ _ => rfl⟩
                      have MK : Hid (∀ W, Calls Tryd.prog 12 #[.int .i64 (i : Int)] W fun e w' => e = .returned (.agg #[.string ⟨#[37]⟩, .int .u8 122, .int .i64 (-7), .int .i64 0, .int .i64 (i : Int), .int .i64 0, .int .i64 0]) ∧ Below W.heap.size W w') := fun W => Dm.marked_any (i : Int) W
                      clear P ck
                      go_region_held3 (fun w' => w'.cell? ⟨kg, i, none⟩ = some (.slice (some ⟨g, 0, none⟩) xn xc)) (first | (with_reducible exact RW.out _ U1.out) | (with_reducible exact S7.out.2) | (with_reducible exact RW.out _ SSD.out)) (first
                        | (go_at_call 12; (with_reducible refine (MK.out _).mono ?_); rintro e v1 ⟨rfl, hB⟩; have U1 := hid (below_on SSD.out hB); clear hB; obtain ⟨y0, y1, y2, y3, y4, y5, y6, ⟨q0, q1, q2, q3, q4, q5, q6⟩, ⟨f0, f1, f2, f3, f4, f5, f6⟩, S7⟩ := ST.out _ U1.out; have S7 := hid S7))
                      all_goals
                        generalize ((((((v1.setCell ⟨g, k * 7, none⟩ (.string ⟨#[37]⟩)).setCell ⟨g, k * 7 + 1, none⟩ (.int .u8 122)).setCell ⟨g, k * 7 + 2, none⟩ (.int .i64 (-7))).setCell ⟨g, k * 7 + 3, none⟩ (.int .i64 0)).setCell ⟨g, k * 7 + 4, none⟩ (.int .i64 (i : Int))).setCell ⟨g, k * 7 + 5, none⟩ (.int .i64 0)).setCell ⟨g, k * 7 + 6, none⟩ (.int .i64 0) = v2 at *
                        go_wp2_with fail
                        go_roundg (xn - (k + 1))
                        case measure => omega
                        case rel => exact ⟨k + 1, by omega, by go_num, S7.out.1⟩
                    · have kxi : ¬ (k : Int) < (xn : Int) := by omega
                      go_wp2_with fail
                      go_roundg (M - (i + 1))
                      case measure => omega
                      case rel => exact ⟨i + 1, sv', _, rfl, by omega, by go_num, ⟨P.out.next HXI.out (by show k = xn; omega), ZE.out⟩⟩
                · have ili : ¬ (i : Int) < (M : Int) := by omega
                  have S5 := hid (P.out.1.to5 (by have := ML.out; omega) (by rw [P.out.2, List.take_of_length_le (by have := ML.out; omega)]))
                  have ZL : Hid (Z.length = M) := by show _ = _; rw [P.out.2]; have := ML.out; simp; omega
                  clear P
                  obtain ⟨sp, sc, rfl⟩ := Dm.ow_len S5.out.sz
                  rw [ZL.out] at S5 ⊢
                  go_wp2_with fail
                  go_loopg [25] M (fun m iv wx => ∃ (i : Nat) (L : List Dm.Sk), i + m = M ∧ iv = .int .i64 (i : Int) ∧ Hid (L.length = M) ∧ Hid (Dm.P5 w wx (.slice kp M kc) L (.slice sp M sc) Z i))
                  case atStart => exact ⟨0, L, by omega, rfl, ML.out, S5.out⟩
                  case round =>
                    clear S5 ML
                    obtain ⟨i, L, hi, rfl, ML, P⟩ := hrel
                    by_cases il : i < M
                    · have ili : (i : Int) < (M : Int) := by omega
                      obtain ⟨x, hx⟩ : ∃ x, L[i]? = some x := ⟨_, List.getElem?_eq_getElem (by have := ML.out; omega)⟩
                      have HXI := hid hx
                      obtain ⟨n2, hz, hn2, hxn, G⟩ := P.out.start hx
                      have HZ := hid hz
                      obtain ⟨kg, kc', ek, ck⟩ := P.out.ks.cell hx
                      simp only [Value.slice.injEq] at ek
                      obtain ⟨rfl, em, ec⟩ := ek
                      clear em ec hz hx
                      have G : Hid (Dm.GL w wr wr x (.slice x.p n2 x.c) (List.replicate (n2 + 0) (Dm.mkp (i : Int)))) := by
                        have g := G
                        rw [show x.v = Value.slice x.p n2 x.c by rw [Dm.Sk.v, hxn]] at g
                        exact g
                      obtain ⟨wz, rfl⟩ : ∃ wz, wz = wr := ⟨wr, rfl⟩
                      have xb : (x.n : Int) ≤ 1048576 := by omega
                      have MK : Hid (∀ W, Calls Tryd.prog 12 #[.int .i64 (i : Int)] W fun e w' => e = .returned (.agg #[.string ⟨#[37]⟩, .int .u8 122, .int .i64 (-7), .int .i64 0, .int .i64 (i : Int), .int .i64 0, .int .i64 0]) ∧ Below W.heap.size W w') := fun W => Dm.marked_any (i : Int) W
                      go_upto_region 52 with fail
                      clear ck
                      go_wp2_with fail
                      go_loopg [26, 27] 20 (fun m lw iv wx => ∃ (t : Nat) (lv : Value), lv = lw ∧ t + m = 20 ∧ iv = .int .i64 (t : Int) ∧ Hid (Dm.GL w wz wx x lv (List.replicate (n2 + t) (Dm.mkp (i : Int)))))
                      case atStart => exact ⟨0, _, rfl, by omega, rfl, G.out⟩
                      case round =>
                        clear G
                        obtain ⟨t, lv, rfl, ht, rfl, G⟩ := hrel
                        by_cases tl : t < 20
                        · have tli : (t : Int) < 20 := by omega
                          go_wp2_with fail
                          refine (MK.out _).mono ?_
                          rintro e w6 ⟨rfl, b6⟩
                          obtain ⟨lv', w7, e7, g7⟩ := (G.out.on b6).push (Dm.mkp (i : Int)) (by simp; omega)
                          rw [Dm.mkp_v] at e7
                          have E7 := hid e7
                          have G7 : Hid (Dm.GL w wz w7 x lv' (List.replicate (n2 + (t + 1)) (Dm.mkp (i : Int)))) := by
                            rw [← Nat.add_assoc, List.replicate_succ']
                            exact g7
                          clear b6 e7 g7 G
                          go_wp2_with (at_builtin; refine wpList_append_s rfl _ _ rfl E7.out (by rfl) (by rfl) ?_; clear E7)
                          go_roundg (20 - (t + 1))
                          case measure => omega
                          case rel => exact ⟨t + 1, _, rfl, by omega, by go_num, G7.out⟩
                        · have tli : ¬ (t : Int) < 20 := by omega
                          obtain rfl : t = 20 := by omega
                          obtain ⟨lp, lc, rfl⟩ := Dm.ow_len G.out.po
                          rw [List.length_replicate] at G ⊢
                          obtain ⟨g', c', e', ⟨v, cl⟩, fz, p5⟩ := P.out.put HXI.out HZ.out hn2 (y := ⟨lp, n2 + 20, lc⟩) rfl G.out
                          simp only [Value.slice.injEq, Option.some.injEq, Addr.mk.injEq] at e'
                          obtain ⟨⟨rfl, _⟩, em, ec⟩ := e'
                          have P7 := hid p5
                          have ML7 : Hid ((L.set i ⟨lp, n2 + 20, lc⟩).length = M) := by show _ = _; rw [List.length_set]; exact ML.out
                          clear em ec p5 G P
                          go_upto_region 50 with fail
                          clear cl fz
                          generalize wr.setCell ⟨kg, i, none⟩ (.slice lp (n2 + 20) lc) = w8 at *
                          go_wp2_with fail
                          go_roundg (M - (i + 1))
                          case measure => omega
                          case rel => exact ⟨i + 1, _, by omega, by go_num, ML7.out, P7.out⟩
                    · have ili : ¬ (i : Int) < (M : Int) := by omega
                      obtain rfl : M = i := by omega
                      obtain ⟨wS, rfl⟩ : ∃ wS, wS = wr := ⟨wr, rfl⟩
                      have ML0 := ML
                      clear ML ili il hi
                      go_wp2_with fail
                      go_loopg [28] M (fun m iv wx => ∃ i : Nat, i + m = M ∧ iv = .int .i64 (i : Int) ∧ Hid (Below wS.heap.size wS wx))
                      case atStart => exact ⟨0, by omega, rfl, Below.refl _ _⟩
                      case round =>
                        obtain ⟨i, hi, rfl, B⟩ := hrel
                        by_cases il : i < M
                        · have ili : (i : Int) < (M : Int) := by omega
                          have PW := P.out.on B.out
                          obtain ⟨kg, kc', ek, _⟩ : ∃ g c, Value.slice kp M kc = .slice (some ⟨g, 0, none⟩) L.length c ∧ True := by
                            rcases PW.ks.row.shape with ⟨c, e, hD⟩ | ⟨g, c, e, _⟩
                            · have := ML0.out
                              rw [hD] at this
                              simp at this
                              omega
                            · exact ⟨g, c, e, trivial⟩
                          simp only [Value.slice.injEq] at ek
                          obtain ⟨rfl, em, ec⟩ := ek
                          obtain ⟨x, hx⟩ : ∃ x, L[i]? = some x := ⟨_, List.getElem?_eq_getElem (by have := ML0.out; omega)⟩
                          clear em ec
                          obtain ⟨ps2, z1, ⟨n2, hz, hn2, hps⟩, _⟩ := PW.ks.each i x hx
                          rw [if_pos il] at hps
                          rw [hps, List.length_replicate] at z1
                          obtain ⟨xp, xn, xc⟩ := x
                          simp only at z1
                          have xe : (n2 : Int) + 20 = (xn : Int) := by omega
                          have xb : (xn : Int) ≤ 1048596 := by omega
                          obtain ⟨sg, rfl, cs⟩ := PW.size hz
                          have x0 : Hid (0 < xn) := by show _ < _; omega
                          have ck := (PW.look hx il x0.out).1
                          have F : Hid (∀ W, Below wS.heap.size wS W → Dm.P5 w W (.slice (some ⟨kg, 0, none⟩) M kc) L (.slice (some ⟨sg, 0, none⟩) M sc) Z M) := fun W b => P.out.on b
                          have HXI := hid hx
                          have B2 := hid (fun n => below_drewN B.out n)
                          have MK : Hid (∀ W, Calls Tryd.prog 12 #[.int .i64 (i : Int)] W fun e w' => e = .returned (.agg #[.string ⟨#[37]⟩, .int .u8 122, .int .i64 (-7), .int .i64 0, .int .i64 (i : Int), .int .i64 0, .int .i64 0]) ∧ Below W.heap.size W w') := fun W => Dm.marked_any (i : Int) W
                          clear PW hx hz hps z1 hn2
                          go_upto_region 60 with fail
                          go_quiet (fail)
                          have B3 := hid (B2.out nq)
                          clear cs ck B B2 xe
                          generalize wr.drewN nq = wq at *
                          go_wp2_with fail
                          go_loopg [29] xn (fun m iv wx => ∃ k : Nat, k + m = xn ∧ iv = .int .i64 (k : Int) ∧ Hid (Below wS.heap.size wS wx))
                          case atStart => exact ⟨0, by omega, rfl, B3.out⟩
                          case round =>
                            clear B3
                            obtain ⟨k, hk, rfl, B⟩ := hrel
                            have ck : wr.cell? ⟨kg, i, none⟩ = some (.slice xp xn xc) := ((F.out wr B.out).look HXI.out il x0.out).1
                            by_cases kx : k < xn
                            · have kxi : (k : Int) < (xn : Int) := by omega
                              have LW := hid (fun W (b : Below wS.heap.size wS W) => (F.out W b).look HXI.out il kx)
                              obtain ⟨_, g, qe, _⟩ := LW.out wr B.out
                              subst qe
                              have RW : Hid (∀ wx, Below wr.heap.size wr wx → wx.cell? ⟨kg, i, none⟩ = some (.slice (some ⟨g, 0, none⟩) xn xc) ∧ wx.cell? ⟨g, k * 7, none⟩ = some (.string ⟨#[37]⟩) ∧ wx.cell? ⟨g, k * 7 + 1, none⟩ = some (.int .u8 122) ∧ wx.cell? ⟨g, k * 7 + 2, none⟩ = some (.int .i64 (-7)) ∧ wx.cell? ⟨g, k * 7 + 3, none⟩ = some (.int .i64 0) ∧ wx.cell? ⟨g, k * 7 + 4, none⟩ = some (.int .i64 (i : Int)) ∧ wx.cell? ⟨g, k * 7 + 5, none⟩ = some (.int .i64 0) ∧ wx.cell? ⟨g, k * 7 + 6, none⟩ = some (.int .i64 0)) := fun wx b => by
                                obtain ⟨c, g', qe, cs⟩ := LW.out wx (below_on B.out b)
                                cases qe
                                exact ⟨c, cs⟩
                              have SSD : Hid (Below wr.heap.size wr wr.drew) := ⟨rfl, rfl, rfl, Nat.le_refl _, fun _ _ => rfl⟩
                              have EQ : ∀ W, (Op.equalIn 10000 25 (.agg #[.string ⟨#[37]⟩, .int .u8 122, .int .i64 (-7), .int .i64 0, .int .i64 (i : Int), .int .i64 0, .int .i64 0]) (.agg #[.string ⟨#[37]⟩, .int .u8 122, .int .i64 (-7), .int .i64 0, .int .i64 (i : Int), .int .i64 0, .int .i64 0])).run Tryd.prog W = .ok true W := fun W => by rw [eq_piece]; simp
                              have JO : Hid (∀ wx, Below wr.heap.size wr wx → Below wS.heap.size wS wx) := fun wx b => below_on B.out b
                              clear LW B
                              go_upto_region 65 with fail
                              clear ck
                              go_region_held3 (fun w' => w'.cell? ⟨kg, i, none⟩ = some (.slice (some ⟨g, 0, none⟩) xn xc) ∧ w'.cell? ⟨g, k * 7, none⟩ = some (.string ⟨#[37]⟩) ∧ w'.cell? ⟨g, k * 7 + 1, none⟩ = some (.int .u8 122) ∧ w'.cell? ⟨g, k * 7 + 2, none⟩ = some (.int .i64 (-7)) ∧ w'.cell? ⟨g, k * 7 + 3, none⟩ = some (.int .i64 0) ∧ w'.cell? ⟨g, k * 7 + 4, none⟩ = some (.int .i64 (i : Int)) ∧ w'.cell? ⟨g, k * 7 + 5, none⟩ = some (.int .i64 0) ∧ w'.cell? ⟨g, k * 7 + 6, none⟩ = some (.int .i64 0)) (first | (with_reducible exact RW.out _ U1.out) | (with_reducible exact RW.out _ SSD.out)) (first
                                | (go_at_call 12; (with_reducible refine (MK.out _).mono ?_); rintro e v1 ⟨rfl, hB⟩; have U1 := hid (below_on SSD.out hB); clear hB))
                              all_goals
                                go_wp2_with fail
                                go_roundg (xn - (k + 1))
                                case measure => omega
                                case rel => exact ⟨k + 1, by omega, by go_num, JO.out _ U1.out⟩
                            · have kxi : ¬ (k : Int) < (xn : Int) := by omega
                              go_wp2_with fail
                              go_roundg (M - (i + 1))
                              case measure => omega
                              case rel => exact ⟨i + 1, by omega, by go_num, B.out⟩
                        · have ili : ¬ (i : Int) < (M : Int) := by omega
                          go_wp2_with fail
                          go_ret
                          exact ⟨rfl, below_on P.out.bel B.out⟩
end Go.Proofs.YtaadooippelcfaaDoor
