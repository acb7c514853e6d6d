/-
  Texts put together: IMemI, FTab.
-/
import Derived.Test.YtggiioipppbedaaGreatDoorRI
import Derived.Test.YtggiioipppbedaaGreatDoorRB
import Derived.BigQuiet
import Derived.Deep.RegionHeld3
import Derived.Deep.CutRange
import Derived.Deep.CutBlock
import Derived.Test.YtggiioipppbedaaGreatDoorTrailW
import Derived.Lib.LaidTab
namespace Go.Proofs.YtggiioipppbedaaGreatDoor
open Go Go.RowKit Go.Deep

theorem below_drewM {B : Nat} {w w' : World} (h : Below B w w') (q : Nat) : Below B w (w'.drewN q) := ⟨h.os, h.tape, h.output, h.size, h.block⟩
theorem bel_on {a b c : World} (h : Below a.heap.size a b) (k : Below b.heap.size b c) : Below a.heap.size a c := h.trans (k.mono h.size)
theorem behind_c (W : World) (p : Option Addr) (n c : Nat) (zs : List Int) (f : Int) (NA : Nat) (hA : Arg W p n c zs) (f0 : 0 ≤ f) (f1 : f ≤ 100) (hN : n + 40 = NA) :
    Calls Tryz.prog 5 #[.slice p n c, .int .u64 f] W fun e w' => ∃ g, e = .returned (.slice (some ⟨g, 0, none⟩) NA NA) ∧ Hid (W.heap.size ≤ g ∧ Own w' g (zs ++ marks f 40)) ∧ Below W.heap.size W w' := by
  subst hN
  refine (behind_any p n c zs f W hA f0 f1).mono ?_
  rintro e w' ⟨rfl, h1, h2⟩
  exact ⟨_, rfl, ⟨Nat.le_refl _, h1⟩, h2⟩
theorem copied_c (W : World) (p : Option Addr) (n c : Nat) (zs : List Int) (hA : Arg W p n c zs) :
    Calls Tryz.prog 6 #[.slice p n c] W fun e w' => ∃ g, e = .returned (.slice (some ⟨g, 0, none⟩) n n) ∧ Hid (W.heap.size ≤ g ∧ Own w' g zs) ∧ Below W.heap.size W w' := by
  refine (copied_any p n c zs W hA).mono ?_
  rintro e w' ⟨rfl, h1, h2, _⟩
  exact ⟨_, rfl, ⟨Nat.le_refl _, h1⟩, h2⟩
theorem same_c (W : World) (p q : Option Addr) (n c m c' : Nat) (zs : List Int) (hA : Arg W p n c zs) (hB : Arg W q m c' zs) :
    Calls Tryz.prog 10 #[.slice p n c, .slice q m c'] W fun e w' => e = .returned (.bool true) ∧ Below W.heap.size W w' := by
  refine (refSame_any p q n c m c' zs zs W hA hB).mono ?_
  rintro r w' ⟨rfl, h⟩
  exact ⟨by simp, h⟩
theorem alike_c (W : World) (p q : Option Addr) (n c9 k c8 : Nat) (u i j : Int) (b ng : Bool) (c m x e : Int) (zs : List Int) (hA : Arg W p n c9 zs) (hB : Arg W q k c8 zs) :
    Calls Tryz.prog 9 #[.agg #[.int .u64 u, .int .i64 i, .int .i64 j, .bool b, .bool ng, .int .i64 c, .int .u64 m, .int .i64 x, .slice p n c9, .int .i64 e], .agg #[.int .u64 u, .int .i64 i, .int .i64 j, .bool b, .bool ng, .int .i64 c, .int .u64 m, .int .i64 x, .slice q k c8, .int .i64 e]] W fun e w' => e = .returned (.bool true) ∧ Below W.heap.size W w' := by
  have := alike_same u i j b ng c m x e p q n k c9 c8 zs W hA hB
  simp only [ansOf] at this
  exact this
set_option maxRecDepth 100000 in
set_option maxHeartbeats 16000000 in
theorem ieeeMemory_law (a : Option Addr) (len cap : Nat) (its : List E4) (w : World) (hl : its.length = len) (hc : len ≤ cap) (hm : cap ≤ 1100000000000) (hh : E4.Holds w a its) (hb : ∀ it ∈ its, E4.Bd w it) (hT : Tab w) :
    Calls Tryz.prog 3 #[.slice a len cap] w fun e w' => e = .returned (.bool true) ∧ Below w.heap.size w w' := by
  have AW := hid (awake_any w hT)
  have RD := hid (rd_any hl hh hb hT)
  have le20 : len ≤ 1100000000000 := by omega
  have BH := hid behind_c
  have CP := hid copied_c
  have SM := hid same_c
  have AK := hid alike_c
  clear hl hc hm hh hb hT
  go_enter Tryz.func3, Tryz.ntmps3
  go_wp2_with fail
  refine AW.out.mono ?_
  rintro e w1 ⟨rfl, B1⟩
  have HB2 := hid B1
  clear B1 AW
  go_wp2_with fail
  have S0 : Hid (Below w.heap.size w w1 ∧ KI T0 w.heap.size w1 (.slice none 0 0) [] 0) := ⟨HB2.out, ⟨Re.Ow.nil _, fun i e h => (by simp at h), fun e h => (by cases h), List.Pairwise.nil, fun e h => (by cases h)⟩⟩
  have leni : (len : Int) ≤ 1100000000000 := by omega
  go_loopg [3, 4] len (fun m mv iv wr => ∃ (k : Nat) (L : List Ke), k + m = len ∧ iv = .int .i64 (k : Int) ∧ L.length = 3 * k ∧ Hid (Below w.heap.size w wr ∧ KI T0 w.heap.size wr mv L L.length))
  case atStart => exact ⟨0, [], by omega, rfl, rfl, S0⟩
  case round =>
    obtain ⟨k, L, hk, rfl, hL5, I⟩ := hrel
    clear S0 HB2
    by_cases kl : k < len
    · have kli : (k : Int) < (len : Int) := by omega
      obtain ⟨bl, off, n1, c1, n2, c2, K, X, Y, I9, pn, pc, pm, px9, neg, p1, p2, z1, z2, ex, more, ha, hcell, h1, h2, l1, l2, q1, q2, hb3⟩ := RD.out k kl
      subst ha
      obtain ⟨⟨r0, r1, r2, r3, r4, r5, r6, r7, r8, r9, r10, r11, r12⟩, A1, A2, TW⟩ := hcell wr I.out.1
      obtain ⟨NA, hNA⟩ : ∃ NA, n1 + 40 = NA := ⟨_, rfl⟩
      obtain ⟨NB, hNB⟩ : ∃ NB, n2 + 40 = NB := ⟨_, rfl⟩
      obtain ⟨XA, hXA⟩ : ∃ XA, z1 ++ marks 0 40 = XA := ⟨_, rfl⟩
      obtain ⟨XB, hXB⟩ : ∃ XB, z2 ++ marks 100 40 = XB := ⟨_, rfl⟩
      have LA : Hid (XA.length = NA ∧ Nm.Limbs XA ∧ XA.take n1 = z1) := by
        subst hXA
        exact ⟨by rw [List.length_append, marks_length]; omega, q1.append (marks_limbs 0 (by decide) (by decide) 40 (by decide)), by rw [← l1, List.take_left]⟩
      have LB : Hid (XB.length = NB ∧ Nm.Limbs XB ∧ XB.take n2 = z2) := by
        subst hXB
        exact ⟨by rw [List.length_append, marks_length]; omega, q2.append (marks_limbs 100 (by decide) (by decide) 40 (by decide)), by rw [← l2, List.take_left]⟩
      obtain ⟨YA, hYA⟩ : ∃ YA, tw 53 XA n1 = YA := ⟨_, rfl⟩
      obtain ⟨YB, hYB⟩ : ∃ YB, tw 83 XB n2 = YB := ⟨_, rfl⟩
      obtain ⟨ZA, hZA⟩ : ∃ ZA, YA.take n1 = ZA := ⟨_, rfl⟩
      obtain ⟨ZB, hZB⟩ : ∃ ZB, YB.take n2 = ZB := ⟨_, rfl⟩
      have MA : Hid (YA.length = NA ∧ Nm.Limbs YA ∧ YA.take n1 = ZA ∧ ZA.length = n1 ∧ Nm.Limbs ZA) := by
        have e1 : YA.length = NA := by rw [← hYA, tw_length]; exact LA.out.1
        have e2 : Nm.Limbs YA := by rw [← hYA]; exact tw_limbs 53 (by decide) _ LA.out.2.1 _
        exact ⟨e1, e2, hZA, by rw [← hZA, List.length_take]; omega, by rw [← hZA]; exact e2.take _⟩
      have MB : Hid (YB.length = NB ∧ Nm.Limbs YB ∧ YB.take n2 = ZB ∧ ZB.length = n2 ∧ Nm.Limbs ZB) := by
        have e1 : YB.length = NB := by rw [← hYB, tw_length]; exact LB.out.1
        have e2 : Nm.Limbs YB := by rw [← hYB]; exact tw_limbs 83 (by decide) _ LB.out.2.1 _
        exact ⟨e1, e2, hZB, by rw [← hZB, List.length_take]; omega, by rw [← hZB]; exact e2.take _⟩
      obtain ⟨zs, ll, u, i, j, b, ng, cc, mm, xx, e, y1, y2, y3, hW, hA⟩ := hb3 z1 z2 q1 q2
      obtain ⟨zs2, ll2, u2, i2, j2, b2, ng2, cc2, mm2, xx2, e2, y4, y5, y6, hW2, hA2⟩ := hb3 ZA ZB MA.out.2.2.2.2 MB.out.2.2.2.2
      have HW := hid hW
      have HA := hid hA
      have HW2 := hid hW2
      have HA2 := hid hA2
      have ZL := hid (And.intro y1 (And.intro y2 y3))
      have ZL2 := hid (And.intro y4 (And.intro y5 y6))
      have HC := hid hcell
      have hx := hid (And.intro hXA (And.intro hXB (And.intro hYA hYB)))
      have hn := hid (And.intro h1 (And.intro h2 (And.intro hNA hNB)))
      have nA : (n1 : Int) ≤ (NA : Int) := by omega
      have nB : (n2 : Int) ≤ (NB : Int) := by omega
      have NAb : (NA : Int) ≤ 17592186043944 := by omega
      have NBb : (NB : Int) ≤ 17592186043944 := by omega
      have T7 := hid (fun W (hB : Below w.heap.size w W) => (hcell W hB).2.2.2)
      clear hW hA hW2 hA2 y1 y2 y3 y4 y5 y6 hcell hXA hXB hYA hYB hZA hZB l1 l2 q1 q2 hb3 h1 h2 hNA hNB RD
      go_upto_region 10 with fail
      obtain ⟨g6, hg6⟩ : ∃ g6, wr.heap.size = g6 := ⟨_, rfl⟩
      have X1 : Hid (Bx (wr.alloc (.cells #[.int .i64 K, .int .u64 X, .int .u64 Y, .int .i64 I9, .bool pn, .int .i64 pc, .int .u64 pm, .int .i64 px9, .bool neg, .slice p1 n1 c1, .slice p2 n2 c2, .int .i64 ex, .bool more] 30)) g6 30 #[.int .i64 K, .int .u64 X, .int .u64 Y, .int .i64 I9, .bool pn, .int .i64 pc, .int .u64 pm, .int .i64 px9, .bool neg, .slice p1 n1 c1, .slice p2 n2 c2, .int .i64 ex, .bool more]) := by rw [← hg6]; exact heap_alloc_new wr _
      have B1 : Hid (Below wr.heap.size wr (wr.alloc (.cells #[.int .i64 K, .int .u64 X, .int .u64 Y, .int .i64 I9, .bool pn, .int .i64 pc, .int .u64 pm, .int .i64 px9, .bool neg, .slice p1 n1 c1, .slice p2 n2 c2, .int .i64 ex, .bool more] 30))) := alloc_b2 wr _
      have A1A : Hid (Arg (wr.alloc (.cells #[.int .i64 K, .int .u64 X, .int .u64 Y, .int .i64 I9, .bool pn, .int .i64 pc, .int .u64 pm, .int .i64 px9, .bool neg, .slice p1 n1 c1, .slice p2 n2 c2, .int .i64 ex, .bool more] 30)) p1 n1 c1 z1) := A1.below B1.out (Nat.le_refl _)
      have A2A : Hid (Arg (wr.alloc (.cells #[.int .i64 K, .int .u64 X, .int .u64 Y, .int .i64 I9, .bool pn, .int .i64 pc, .int .u64 pm, .int .i64 px9, .bool neg, .slice p1 n1 c1, .slice p2 n2 c2, .int .i64 ex, .bool more] 30)) p2 n2 c2 z2) := A2.below B1.out (Nat.le_refl _)
      simp only [hg6]
      have SZ := hid hg6
      clear hg6 r0 r1 r2 r3 r4 r5 r6 r7 r8 r9 r10 r11 r12 A1 A2 TW
      generalize wr.alloc (.cells #[.int .i64 K, .int .u64 X, .int .u64 Y, .int .i64 I9, .bool pn, .int .i64 pc, .int .u64 pm, .int .i64 px9, .bool neg, .slice p1 n1 c1, .slice p2 n2 c2, .int .i64 ex, .bool more] 30) = wA at *
      obtain ⟨⟨r0, r1, r2, r3, r4, r5, r6, r7, r8, r9, r10, r11, r12⟩, -⟩ := X1.out.c13
      go_upto_region 11 with (go_at_call 5; refine (BH.out _ _ _ _ _ 0 NA A1A.out (by decide) (by decide) hn.out.2.2.1).mono ?_; rintro r w4 ⟨fa, rfl, hfa, hB⟩; have FA := hid hfa.out; have B4 := hid hB; clear hB hfa)
      have X4 := hid (X1.out.on B4.out)
      have A14 := hid (A1A.out.below B4.out (Nat.le_refl _))
      have A24 := hid (A2A.out.below B4.out (Nat.le_refl _))
      have O4 : Hid (g6 < fa) := by have := X1.out.lt; have := FA.out.1; show _ < _; omega
      clear r0 r1 r2 r3 r4 r5 r6 r7 r8 r9 r10 r11 r12 A1A A2A
      obtain ⟨⟨r0, r1, r2, r3, r4, r5, r6, r7, r8, r9, r10, r11, r12⟩, -⟩ := X4.out.c13
      go_upto_region 12 with (go_at_call 5; refine (BH.out _ _ _ _ _ 100 NB A24.out (by decide) (by decide) hn.out.2.2.2).mono ?_; rintro r w5 ⟨fb, rfl, hfb, hB⟩; have FB := hid hfb.out; have B5 := hid hB; clear hB hfb)
      have X5 := hid (X4.out.on B5.out)
      have F5 := hid (FA.out.2.on B5.out)
      have A15 := hid (A14.out.below B5.out (Nat.le_refl _))
      have A25 := hid (A24.out.below B5.out (Nat.le_refl _))
      have O5 : Hid (fa < fb) := by have := FA.out.2.lt; have := FB.out.1; show _ < _; omega
      have FA5 : Hid (Arg w5 (some ⟨fa, 0, none⟩) NA NA XA) := by
        have q := F5.out
        rw [hx.out.1] at q
        exact own_arg q LA.out.1 (by omega) LA.out.2.1
      have FB5 : Hid (Arg w5 (some ⟨fb, 0, none⟩) NB NB XB) := by
        have q := FB.out.2
        rw [hx.out.2.1] at q
        exact own_arg q LB.out.1 (by omega) LB.out.2.1
      clear r0 r1 r2 r3 r4 r5 r6 r7 r8 r9 r10 r11 r12 A14 A24
      go_upto_region 13 with (go_at_call 6; refine (CP.out _ _ _ _ _ FA5.out).mono ?_; rintro r w6 ⟨wa, rfl, hwa, hB⟩; have WA := hid hwa.out; have B6 := hid hB; clear hB hwa)
      have FB6 := hid (FB5.out.below B6.out (Nat.le_refl _))
      have O6 : Hid (fb < wa) := by have := FB.out.2.lt; have := WA.out.1; show _ < _; omega
      go_upto_region 14 with (go_at_call 6; refine (CP.out _ _ _ _ _ FB6.out).mono ?_; rintro r w7 ⟨wb, rfl, hwb, hB⟩; have WB := hid hwb.out; have B7 := hid hB; clear hB hwb)
      have O7 : Hid (wa < wb) := by have := WA.out.2.lt; have := WB.out.1; show _ < _; omega
      have B67 := hid (bel_on B6.out B7.out)
      have R7 : Hid (RA w7 g6 fa fb wa wb #[.int .i64 K, .int .u64 X, .int .u64 Y, .int .i64 I9, .bool pn, .int .i64 pc, .int .u64 pm, .int .i64 px9, .bool neg, .slice p1 n1 c1, .slice p2 n2 c2, .int .i64 ex, .bool more] XA XB XA XB) := by
        have q1 := F5.out.on B67.out
        have q2 := FB.out.2.on B67.out
        rw [hx.out.1] at q1
        rw [hx.out.2.1] at q2
        exact ⟨X5.out.on B67.out, q1, q2, WA.out.2.on B7.out, WB.out.2⟩
      have A17 := hid (A15.out.below B67.out (Nat.le_refl _))
      have A27 := hid (A25.out.below B67.out (Nat.le_refl _))
      have BW7 : Hid (Below wr.heap.size wr w7) := bel_on (bel_on (bel_on B1.out B4.out) B5.out) B67.out
      have OR7 : Hid (g6 < fa ∧ fa < fb ∧ fb < wa ∧ wa < wb) := ⟨O4.out, O5.out, O6.out, O7.out⟩
      clear FA5 FB5 FB6 O4 O5 O6 O7 X1 X4 X5 F5 FA FB WA A15 A25 B1 B4 B5 B6 B67
      obtain ⟨⟨r0, r1, r2, r3, r4, r5, r6, r7, r8, r9, r10, r11, r12⟩, -⟩ := R7.out.o.c13
      go_upto_region 15 with (go_at_call 7; refine (HW.out _ _ _ _ _ (T7.out _ (bel_on I.out.1 BW7.out)) A17.out A27.out).mono ?_; rintro r w8 ⟨pw, rfl, hls, hB⟩; have LW8 := hid hls.out; have B8 := hid hB; clear hB hls)
      obtain ⟨g13, hg13⟩ : ∃ g13, w8.heap.size = g13 := ⟨_, rfl⟩
      have C13 : Hid (Bx (w8.alloc (.cells #[.int .u64 u, .int .i64 i, .int .i64 j, .bool b, .bool ng, .int .i64 cc, .int .u64 mm, .int .i64 xx, .slice pw ll ll, .int .i64 e] 34)) g13 34 #[.int .u64 u, .int .i64 i, .int .i64 j, .bool b, .bool ng, .int .i64 cc, .int .u64 mm, .int .i64 xx, .slice pw ll ll, .int .i64 e]) := by rw [← hg13]; exact heap_alloc_new w8 _
      have B9 : Hid (Below w7.heap.size w7 (w8.alloc (.cells #[.int .u64 u, .int .i64 i, .int .i64 j, .bool b, .bool ng, .int .i64 cc, .int .u64 mm, .int .i64 xx, .slice pw ll ll, .int .i64 e] 34))) := bel_on B8.out (alloc_b2 w8 _)
      have LW9 : Hid (Lr wb g13 (w8.alloc (.cells #[.int .u64 u, .int .i64 i, .int .i64 j, .bool b, .bool ng, .int .i64 cc, .int .u64 mm, .int .i64 xx, .slice pw ll ll, .int .i64 e] 34)) pw zs) := by
        have q := LW8.out.lr R7.out.d.lt
        rw [hg13] at q
        exact q.on (alloc_b2 w8 _)
      have OR9 : Hid (wb < g13) := by have := R7.out.d.lt; have := B8.out.size; show _ < _; omega
      have R9 := hid (R7.out.on B9.out)
      simp only [hg13]
      clear hg13 r0 r1 r2 r3 r4 r5 r6 r7 r8 r9 r10 r11 r12 R7 A17 A27 LW8 B8
      generalize w8.alloc (.cells #[.int .u64 u, .int .i64 i, .int .i64 j, .bool b, .bool ng, .int .i64 cc, .int .u64 mm, .int .i64 xx, .slice pw ll ll, .int .i64 e] 34) = w9 at *
      obtain ⟨⟨r0, r1, r2, r3, r4, r5, r6, r7, r8, r9, r10, r11, r12⟩, rf⟩ := R9.out.o.c13
      have rf1 := rf 9
      have rf2 := rf 10
      have R10 : Hid (RA ((w9.setCell ⟨g6, 9, none⟩ (.slice (some ⟨fa, 0, none⟩) n1 NA)).setCell ⟨g6, 10, none⟩ (.slice (some ⟨fb, 0, none⟩) n2 NB)) g6 fa fb wa wb #[.int .i64 K, .int .u64 X, .int .u64 Y, .int .i64 I9, .bool pn, .int .i64 pc, .int .u64 pm, .int .i64 px9, .bool neg, .slice (some ⟨fa, 0, none⟩) n1 NA, .slice (some ⟨fb, 0, none⟩) n2 NB, .int .i64 ex, .bool more] XA XB XA XB) := by
        have o := OR7.out
        exact (R9.out.put 9 _ (by omega) (by omega) (by omega) (by omega)).put 10 _ (by omega) (by omega) (by omega) (by omega)
      have C10 : Hid (Bx ((w9.setCell ⟨g6, 9, none⟩ (.slice (some ⟨fa, 0, none⟩) n1 NA)).setCell ⟨g6, 10, none⟩ (.slice (some ⟨fb, 0, none⟩) n2 NB)) g13 34 #[.int .u64 u, .int .i64 i, .int .i64 j, .bool b, .bool ng, .int .i64 cc, .int .u64 mm, .int .i64 xx, .slice pw ll ll, .int .i64 e]) := by
        have o := OR7.out
        have o2 := OR9.out
        exact at_keep (at_keep C13.out (Keep.set w9 g6 9 _) (by omega)) (Keep.set _ g6 10 _) (by omega)
      have L10 : Hid (Lr wb g13 ((w9.setCell ⟨g6, 9, none⟩ (.slice (some ⟨fa, 0, none⟩) n1 NA)).setCell ⟨g6, 10, none⟩ (.slice (some ⟨fb, 0, none⟩) n2 NB)) pw zs) := by
        have o := OR7.out
        exact (LW9.out.keep (Keep.set w9 g6 9 _) (fun _ _ _ => by omega)).keep (Keep.set _ g6 10 _) (fun _ _ _ => by omega)
      have BW10 : Hid (Below wr.heap.size wr ((w9.setCell ⟨g6, 9, none⟩ (.slice (some ⟨fa, 0, none⟩) n1 NA)).setCell ⟨g6, 10, none⟩ (.slice (some ⟨fb, 0, none⟩) n2 NB))) := by
        have z := SZ.out
        exact ((bel_on BW7.out B9.out).setCell (p := ⟨g6, 9, none⟩) (by show wr.heap.size ≤ g6; omega) _).setCell (p := ⟨g6, 10, none⟩) (by show wr.heap.size ≤ g6; omega) _
      clear rf R9 C13 LW9 BW7 B9
      go_upto_region 17 with fail
      clear r0 r1 r2 r3 r4 r5 r6 r7 r8 r9 r10 r11 r12 rf1 rf2
      generalize (w9.setCell ⟨g6, 9, none⟩ (.slice (some ⟨fa, 0, none⟩) n1 NA)).setCell ⟨g6, 10, none⟩ (.slice (some ⟨fb, 0, none⟩) n2 NB) = w10 at *
      have HF : Hid (∀ W, RA W g6 fa fb wa wb #[.int .i64 K, .int .u64 X, .int .u64 Y, .int .i64 I9, .bool pn, .int .i64 pc, .int .u64 pm, .int .i64 px9, .bool neg, .slice (some ⟨fa, 0, none⟩) n1 NA, .slice (some ⟨fb, 0, none⟩) n2 NB, .int .i64 ex, .bool more] XA XB XA XB → Arg W (some ⟨fa, 0, none⟩) n1 NA z1 ∧ Arg W (some ⟨fb, 0, none⟩) n2 NB z2) := fun W h => ⟨own_head h.a LA.out.2.2 (by omega) LA.out.1 (by omega) LA.out.2.1, own_head h.b LB.out.2.2 (by omega) LB.out.1 (by omega) LB.out.2.1⟩
      obtain ⟨⟨r0, r1, r2, r3, r4, r5, r6, r7, r8, r9, r10, r11, r12⟩, -⟩ := R10.out.o.c13
      go_upto_region 18 with (go_at_call 8; refine (HA.out _ _ _ _ _ (HC.out _ (bel_on I.out.1 BW10.out)).2.2.2 (HF.out _ R10.out).1 (HF.out _ R10.out).2).mono ?_; rintro r w11 ⟨px, rfl, hls, hB⟩; have LX := hid hls.out; have B11 := hid hB; clear hB hls)
      obtain ⟨g14, hg14⟩ : ∃ g14, w11.heap.size = g14 := ⟨_, rfl⟩
      have C14 : Hid (Bx (w11.alloc (.cells #[.int .u64 u, .int .i64 i, .int .i64 j, .bool b, .bool ng, .int .i64 cc, .int .u64 mm, .int .i64 xx, .slice px ll ll, .int .i64 e] 34)) g14 34 #[.int .u64 u, .int .i64 i, .int .i64 j, .bool b, .bool ng, .int .i64 cc, .int .u64 mm, .int .i64 xx, .slice px ll ll, .int .i64 e]) := by rw [← hg14]; exact heap_alloc_new w11 _
      have B12 : Hid (Below w10.heap.size w10 (w11.alloc (.cells #[.int .u64 u, .int .i64 i, .int .i64 j, .bool b, .bool ng, .int .i64 cc, .int .u64 mm, .int .i64 xx, .slice px ll ll, .int .i64 e] 34))) := bel_on B11.out (alloc_b2 w11 _)
      have L12 : Hid (Lr g13 g14 (w11.alloc (.cells #[.int .u64 u, .int .i64 i, .int .i64 j, .bool b, .bool ng, .int .i64 cc, .int .u64 mm, .int .i64 xx, .slice px ll ll, .int .i64 e] 34)) px zs) := by
        have q := LX.out.lr C10.out.lt
        rw [hg14] at q
        exact q.on (alloc_b2 w11 _)
      have O12 : Hid (g13 < g14) := by have := C10.out.lt; have := B11.out.size; show _ < _; omega
      have R12 := hid (R10.out.on B12.out)
      have BW12 := hid (bel_on BW10.out B12.out)
      have C12 := hid (C10.out.on B12.out)
      have LW12 := hid (L10.out.on B12.out)
      simp only [hg14]
      clear hg14 r0 r1 r2 r3 r4 r5 r6 r7 r8 r9 r10 r11 r12 R10 C10 L10 BW10 LX B11 B12
      generalize w11.alloc (.cells #[.int .u64 u, .int .i64 i, .int .i64 j, .bool b, .bool ng, .int .i64 cc, .int .u64 mm, .int .i64 xx, .slice px ll ll, .int .i64 e] 34) = w12 at *
      obtain ⟨⟨r0, r1, r2, r3, r4, r5, r6, r7, r8, r9, r10, r11, r12⟩, -⟩ := R12.out.o.c13
      go_upto_region 19 with (go_at_call 8; refine (HA.out _ _ _ _ _ (HC.out _ (bel_on I.out.1 BW12.out)).2.2.2 (HF.out _ R12.out).1 (HF.out _ R12.out).2).mono ?_; rintro r w13 ⟨py, rfl, hls, hB⟩; have LY := hid hls.out; have B13 := hid hB; clear hB hls)
      obtain ⟨g15, hg15⟩ : ∃ g15, w13.heap.size = g15 := ⟨_, rfl⟩
      have BX14 : Hid (Below w12.heap.size w12 (w13.alloc (.cells #[.int .u64 u, .int .i64 i, .int .i64 j, .bool b, .bool ng, .int .i64 cc, .int .u64 mm, .int .i64 xx, .slice py ll ll, .int .i64 e] 34))) := bel_on B13.out (alloc_b2 w13 _)
      have Q14 : Hid (QS (w13.alloc (.cells #[.int .u64 u, .int .i64 i, .int .i64 j, .bool b, .bool ng, .int .i64 cc, .int .u64 mm, .int .i64 xx, .slice py ll ll, .int .i64 e] 34)) g6 fa fb wa wb g13 g14 g15 #[.int .i64 K, .int .u64 X, .int .u64 Y, .int .i64 I9, .bool pn, .int .i64 pc, .int .u64 pm, .int .i64 px9, .bool neg, .slice (some ⟨fa, 0, none⟩) n1 NA, .slice (some ⟨fb, 0, none⟩) n2 NB, .int .i64 ex, .bool more] #[.int .u64 u, .int .i64 i, .int .i64 j, .bool b, .bool ng, .int .i64 cc, .int .u64 mm, .int .i64 xx, .slice pw ll ll, .int .i64 e] #[.int .u64 u, .int .i64 i, .int .i64 j, .bool b, .bool ng, .int .i64 cc, .int .u64 mm, .int .i64 xx, .slice px ll ll, .int .i64 e] #[.int .u64 u, .int .i64 i, .int .i64 j, .bool b, .bool ng, .int .i64 cc, .int .u64 mm, .int .i64 xx, .slice py ll ll, .int .i64 e] XA XB XA XB zs pw px py) := by
        have q := LY.out.lr C14.out.lt
        rw [hg15] at q
        exact ⟨R12.out.on BX14.out, C12.out.on BX14.out, C14.out.on BX14.out, by rw [← hg15]; exact heap_alloc_new w13 _, LW12.out.on BX14.out, L12.out.on BX14.out, q.on (alloc_b2 w13 _)⟩
      have ORD : Hid (Ord g6 fa fb wa wb g13 g14 g15) := by
        have o := OR7.out
        have o2 := OR9.out
        have o3 := O12.out
        have o4 := C14.out.lt
        have o5 := B13.out.size
        exact ⟨o.1, o.2.1, o.2.2.1, o.2.2.2, o2, o3, by omega⟩
      have BW14 := hid (bel_on BW12.out BX14.out)
      simp only [hg15]
      clear hg15 r0 r1 r2 r3 r4 r5 r6 r7 r8 r9 r10 r11 r12 R12 C12 C14 LW12 L12 BW12 LY B13 BX14 OR7 OR9 O12
      generalize w13.alloc (.cells #[.int .u64 u, .int .i64 i, .int .i64 j, .bool b, .bool ng, .int .i64 cc, .int .u64 mm, .int .i64 xx, .slice py ll ll, .int .i64 e] 34) = w14 at *
      have C22 : Hid (∀ W, QS W g6 fa fb wa wb g13 g14 g15 #[.int .i64 K, .int .u64 X, .int .u64 Y, .int .i64 I9, .bool pn, .int .i64 pc, .int .u64 pm, .int .i64 px9, .bool neg, .slice (some ⟨fa, 0, none⟩) n1 NA, .slice (some ⟨fb, 0, none⟩) n2 NB, .int .i64 ex, .bool more] #[.int .u64 u, .int .i64 i, .int .i64 j, .bool b, .bool ng, .int .i64 cc, .int .u64 mm, .int .i64 xx, .slice pw ll ll, .int .i64 e] #[.int .u64 u, .int .i64 i, .int .i64 j, .bool b, .bool ng, .int .i64 cc, .int .u64 mm, .int .i64 xx, .slice px ll ll, .int .i64 e] #[.int .u64 u, .int .i64 i, .int .i64 j, .bool b, .bool ng, .int .i64 cc, .int .u64 mm, .int .i64 xx, .slice py ll ll, .int .i64 e] XA XB XA XB zs pw px py → (W.cell? ⟨g14, 0, none⟩ = some (.int .u64 u) ∧ W.cell? ⟨g14, 1, none⟩ = some (.int .i64 i) ∧ W.cell? ⟨g14, 2, none⟩ = some (.int .i64 j) ∧ W.cell? ⟨g14, 3, none⟩ = some (.bool b) ∧ W.cell? ⟨g14, 4, none⟩ = some (.bool ng) ∧ W.cell? ⟨g14, 5, none⟩ = some (.int .i64 cc) ∧ W.cell? ⟨g14, 6, none⟩ = some (.int .u64 mm) ∧ W.cell? ⟨g14, 7, none⟩ = some (.int .i64 xx) ∧ W.cell? ⟨g14, 8, none⟩ = some (.slice px ll ll) ∧ W.cell? ⟨g14, 9, none⟩ = some (.int .i64 e)) ∧ (W.cell? ⟨g13, 0, none⟩ = some (.int .u64 u) ∧ W.cell? ⟨g13, 1, none⟩ = some (.int .i64 i) ∧ W.cell? ⟨g13, 2, none⟩ = some (.int .i64 j) ∧ W.cell? ⟨g13, 3, none⟩ = some (.bool b) ∧ W.cell? ⟨g13, 4, none⟩ = some (.bool ng) ∧ W.cell? ⟨g13, 5, none⟩ = some (.int .i64 cc) ∧ W.cell? ⟨g13, 6, none⟩ = some (.int .u64 mm) ∧ W.cell? ⟨g13, 7, none⟩ = some (.int .i64 xx) ∧ W.cell? ⟨g13, 8, none⟩ = some (.slice pw ll ll) ∧ W.cell? ⟨g13, 9, none⟩ = some (.int .i64 e)) ∧ (W.cell? ⟨g15, 0, none⟩ = some (.int .u64 u) ∧ W.cell? ⟨g15, 1, none⟩ = some (.int .i64 i) ∧ W.cell? ⟨g15, 2, none⟩ = some (.int .i64 j) ∧ W.cell? ⟨g15, 3, none⟩ = some (.bool b) ∧ W.cell? ⟨g15, 4, none⟩ = some (.bool ng) ∧ W.cell? ⟨g15, 5, none⟩ = some (.int .i64 cc) ∧ W.cell? ⟨g15, 6, none⟩ = some (.int .u64 mm) ∧ W.cell? ⟨g15, 7, none⟩ = some (.int .i64 xx) ∧ W.cell? ⟨g15, 8, none⟩ = some (.slice py ll ll) ∧ W.cell? ⟨g15, 9, none⟩ = some (.int .i64 e))) := fun W h => ⟨h.b14.c10, h.b13.c10, h.b15.c10⟩
      have G22 : Hid (∀ W, QS W g6 fa fb wa wb g13 g14 g15 #[.int .i64 K, .int .u64 X, .int .u64 Y, .int .i64 I9, .bool pn, .int .i64 pc, .int .u64 pm, .int .i64 px9, .bool neg, .slice (some ⟨fa, 0, none⟩) n1 NA, .slice (some ⟨fb, 0, none⟩) n2 NB, .int .i64 ex, .bool more] #[.int .u64 u, .int .i64 i, .int .i64 j, .bool b, .bool ng, .int .i64 cc, .int .u64 mm, .int .i64 xx, .slice pw ll ll, .int .i64 e] #[.int .u64 u, .int .i64 i, .int .i64 j, .bool b, .bool ng, .int .i64 cc, .int .u64 mm, .int .i64 xx, .slice px ll ll, .int .i64 e] #[.int .u64 u, .int .i64 i, .int .i64 j, .bool b, .bool ng, .int .i64 cc, .int .u64 mm, .int .i64 xx, .slice py ll ll, .int .i64 e] XA XB XA XB zs pw px py → (Arg W px ll ll zs ∧ Arg W pw ll ll zs ∧ Arg W py ll ll zs) ∧ (Arg W (some ⟨fa, 0, none⟩) NA NA XA ∧ Arg W (some ⟨wa, 0, none⟩) NA NA XA) ∧ (Arg W (some ⟨fb, 0, none⟩) NB NB XB ∧ Arg W (some ⟨wb, 0, none⟩) NB NB XB)) := fun W h =>
        ⟨⟨h.lx.arg ZL.out.1 ZL.out.2.1 ZL.out.2.2, h.lw.arg ZL.out.1 ZL.out.2.1 ZL.out.2.2, h.ly.arg ZL.out.1 ZL.out.2.1 ZL.out.2.2⟩, ⟨own_arg h.ra.a LA.out.1 (by omega) LA.out.2.1, own_arg h.ra.c LA.out.1 (by omega) LA.out.2.1⟩, ⟨own_arg h.ra.b LB.out.1 (by omega) LB.out.2.1, own_arg h.ra.d LB.out.1 (by omega) LB.out.2.1⟩⟩
      obtain ⟨⟨s0, s1, s2, s3, s4, s5, s6, s7, s8, s9⟩, ⟨t0, t1, t2, t3, t4, t5, t6, t7, t8, t9⟩, ⟨v0, v1, v2, v3, v4, v5, v6, v7, v8, v9⟩⟩ := C22.out _ Q14.out
      go_upto_region 21 with (first
        | (go_at_call 9; first
          | (with_reducible refine (AK.out _ _ _ _ _ _ _ _ _ _ _ _ _ _ _ _ _ (G22.out _ Q14.out).1.1 (G22.out _ Q14.out).1.2.1).mono ?_; rintro r w15 ⟨rfl, hB⟩; have Q15 := hid (Q14.out.on hB); have D15 := hid hB; obtain ⟨⟨a0, a1, a2, a3, a4, a5, a6, a7, a8, a9⟩, ⟨d0, d1, d2, d3, d4, d5, d6, d7, d8, d9⟩, ⟨f0, f1, f2, f3, f4, f5, f6, f7, f8, f9⟩⟩ := C22.out _ Q15.out; clear hB)
          | (with_reducible refine (AK.out _ _ _ _ _ _ _ _ _ _ _ _ _ _ _ _ _ (G22.out _ Q15.out).1.2.2 (G22.out _ Q15.out).1.2.1).mono ?_; rintro r w16 ⟨rfl, hB⟩; have Q16 := hid (Q15.out.on hB); have D16 := hid (bel_on D15.out hB); clear hB))
        | (go_at_call 10; first
          | (with_reducible refine (SM.out _ _ _ _ _ _ _ _ (G22.out _ Q16.out).2.1.1 (G22.out _ Q16.out).2.1.2).mono ?_; rintro r w17 ⟨rfl, hB⟩; have Q17 := hid (Q16.out.on hB); have D17 := hid (bel_on D16.out hB); clear hB)
          | (with_reducible refine (SM.out _ _ _ _ _ _ _ _ (G22.out _ Q17.out).2.2.1 (G22.out _ Q17.out).2.2.2).mono ?_; rintro r w18 ⟨rfl, hB⟩; have Q18 := hid (Q17.out.on hB); have D18 := hid (bel_on D17.out hB); clear hB)))
      have BW18 := hid (bel_on BW14.out D18.out)
      clear s0 s1 s2 s3 s4 s5 s6 s7 s8 s9 t0 t1 t2 t3 t4 t5 t6 t7 t8 t9 v0 v1 v2 v3 v4 v5 v6 v7 v8 v9 a0 a1 a2 a3 a4 a5 a6 a7 a8 a9 d0 d1 d2 d3 d4 d5 d6 d7 d8 d9 f0 f1 f2 f3 f4 f5 f6 f7 f8 f9 Q14 Q15 Q16 Q17 D15 D16 D17 D18 BW14 C22 G22 HF HA HW
      obtain ⟨W9, hW9⟩ : ∃ W9, W9 = wr := ⟨_, rfl⟩
      subst hW9
      have w0 : Hid (W9.heap.size ≤ g6) := by have := SZ.out; show _ ≤ _; omega
      go_wp2_with fail
      go_loopg [15] n1 (fun m iv wr => ∃ t : Nat, t + m = n1 ∧ iv = .int .i64 (t : Int) ∧ Hid (QS wr g6 fa fb wa wb g13 g14 g15 #[.int .i64 K, .int .u64 X, .int .u64 Y, .int .i64 I9, .bool pn, .int .i64 pc, .int .u64 pm, .int .i64 px9, .bool neg, .slice (some ⟨fa, 0, none⟩) n1 NA, .slice (some ⟨fb, 0, none⟩) n2 NB, .int .i64 ex, .bool more] #[.int .u64 u, .int .i64 i, .int .i64 j, .bool b, .bool ng, .int .i64 cc, .int .u64 mm, .int .i64 xx, .slice pw ll ll, .int .i64 e] #[.int .u64 u, .int .i64 i, .int .i64 j, .bool b, .bool ng, .int .i64 cc, .int .u64 mm, .int .i64 xx, .slice px ll ll, .int .i64 e] #[.int .u64 u, .int .i64 i, .int .i64 j, .bool b, .bool ng, .int .i64 cc, .int .u64 mm, .int .i64 xx, .slice py ll ll, .int .i64 e] (tw 53 XA t) XB (tw 53 XA t) XB zs pw px py ∧ Below W9.heap.size W9 wr))
      case atStart => exact ⟨0, by omega, rfl, Q18.out, BW18.out⟩
      case round =>
        obtain ⟨t, ht, rfl, J⟩ := hrel
        clear Q18 BW18
        by_cases tl : t < n1
        · have tli : (t : Int) < (n1 : Int) := by omega
          have tlN : (t : Int) < (NA : Int) := by omega
          obtain ⟨x, hx9⟩ : ∃ x, XA.getD t 0 = x := ⟨_, rfl⟩
          obtain ⟨y, hy⟩ : ∃ y, bits .xor .u64 x 53 = y := ⟨_, rfl⟩
          have lt : t < (tw 53 XA t).length := by rw [tw_length]; have := LA.out.1; have := hn.out; omega
          have e9 : (tw 53 XA t).getD t 0 = x := by rw [tw_later 53 XA t t (Nat.le_refl _)]; exact hx9
          have e8 : (tw 53 XA t).set t y = tw 53 XA (t + 1) := by rw [tw, hx9, xr]; exact congrArg _ hy.symm
          have oo := ORD.out
          have za := w0.out
          unfold Ord at oo
          have d1 : wr.cell? ⟨fa, t, none⟩ = some (.int .u64 x) := by rw [← e9]; exact J.out.1.ra.a.cell t lt
          have d2 := J.out.1.ra.a.free t
          have Q1 := J.out.1.tA ORD.out (Keep.set wr fa t (.int .u64 y)) (by have := J.out.1.ra.a.set t y; rw [e8] at this; exact this)
          have d3 : (wr.setCell ⟨fa, t, none⟩ (.int .u64 y)).cell? ⟨wa, t, none⟩ = some (.int .u64 x) := by rw [← e9]; exact Q1.ra.c.cell t lt
          have d4 := Q1.ra.c.free t
          have Q2 := hid (Q1.tC ORD.out (Keep.set _ wa t (.int .u64 y)) (by have := Q1.ra.c.set t y; rw [e8] at this; exact this))
          have BQ : Hid (Below W9.heap.size W9 ((wr.setCell ⟨fa, t, none⟩ (.int .u64 y)).setCell ⟨wa, t, none⟩ (.int .u64 y))) := keep_bel (keep_bel J.out.2 (Keep.set wr fa t (.int .u64 y)) (by omega)) (Keep.set _ wa t (.int .u64 y)) (by omega)
          clear Q1 J lt e9 e8 oo za hx9
          go_wp2_with fail
          go_roundg (n1 - (t + 1))
          case measure => omega
          case rel => exact ⟨t + 1, by omega, by go_num, Q2.out, BQ.out⟩
        · obtain rfl : n1 = t := by omega
          have tli : ¬ (n1 : Int) < (n1 : Int) := by omega
          have Q20 : Hid (QS wr g6 fa fb wa wb g13 g14 g15 #[.int .i64 K, .int .u64 X, .int .u64 Y, .int .i64 I9, .bool pn, .int .i64 pc, .int .u64 pm, .int .i64 px9, .bool neg, .slice (some ⟨fa, 0, none⟩) n1 NA, .slice (some ⟨fb, 0, none⟩) n2 NB, .int .i64 ex, .bool more] #[.int .u64 u, .int .i64 i, .int .i64 j, .bool b, .bool ng, .int .i64 cc, .int .u64 mm, .int .i64 xx, .slice pw ll ll, .int .i64 e] #[.int .u64 u, .int .i64 i, .int .i64 j, .bool b, .bool ng, .int .i64 cc, .int .u64 mm, .int .i64 xx, .slice px ll ll, .int .i64 e] #[.int .u64 u, .int .i64 i, .int .i64 j, .bool b, .bool ng, .int .i64 cc, .int .u64 mm, .int .i64 xx, .slice py ll ll, .int .i64 e] YA XB YA XB zs pw px py) := by have q := J.out.1; rw [hx.out.2.2.1] at q; exact q
          have BW20 := hid J.out.2
          clear J
          go_wp2_with fail
          go_loopg [16] n2 (fun m iv wr => ∃ s : Nat, s + m = n2 ∧ iv = .int .i64 (s : Int) ∧ Hid (QS wr g6 fa fb wa wb g13 g14 g15 #[.int .i64 K, .int .u64 X, .int .u64 Y, .int .i64 I9, .bool pn, .int .i64 pc, .int .u64 pm, .int .i64 px9, .bool neg, .slice (some ⟨fa, 0, none⟩) n1 NA, .slice (some ⟨fb, 0, none⟩) n2 NB, .int .i64 ex, .bool more] #[.int .u64 u, .int .i64 i, .int .i64 j, .bool b, .bool ng, .int .i64 cc, .int .u64 mm, .int .i64 xx, .slice pw ll ll, .int .i64 e] #[.int .u64 u, .int .i64 i, .int .i64 j, .bool b, .bool ng, .int .i64 cc, .int .u64 mm, .int .i64 xx, .slice px ll ll, .int .i64 e] #[.int .u64 u, .int .i64 i, .int .i64 j, .bool b, .bool ng, .int .i64 cc, .int .u64 mm, .int .i64 xx, .slice py ll ll, .int .i64 e] YA (tw 83 XB s) YA (tw 83 XB s) zs pw px py ∧ Below W9.heap.size W9 wr))
          case atStart => exact ⟨0, by omega, rfl, Q20.out, BW20.out⟩
          case round =>
            obtain ⟨s, hs9, rfl, J⟩ := hrel
            clear Q20 BW20
            by_cases sl : s < n2
            · have sli : (s : Int) < (n2 : Int) := by omega
              have slN : (s : Int) < (NB : Int) := by omega
              obtain ⟨x, hx9⟩ : ∃ x, XB.getD s 0 = x := ⟨_, rfl⟩
              obtain ⟨y, hy⟩ : ∃ y, bits .xor .u64 x 83 = y := ⟨_, rfl⟩
              have lt : s < (tw 83 XB s).length := by rw [tw_length]; have := LB.out.1; have := hn.out; omega
              have e9 : (tw 83 XB s).getD s 0 = x := by rw [tw_later 83 XB s s (Nat.le_refl _)]; exact hx9
              have e8 : (tw 83 XB s).set s y = tw 83 XB (s + 1) := by rw [tw, hx9, xr]; exact congrArg _ hy.symm
              have oo := ORD.out
              have za := w0.out
              unfold Ord at oo
              have d1 : wr.cell? ⟨fb, s, none⟩ = some (.int .u64 x) := by rw [← e9]; exact J.out.1.ra.b.cell s lt
              have d2 := J.out.1.ra.b.free s
              have Q1 := J.out.1.tB ORD.out (Keep.set wr fb s (.int .u64 y)) (by have := J.out.1.ra.b.set s y; rw [e8] at this; exact this)
              have d3 : (wr.setCell ⟨fb, s, none⟩ (.int .u64 y)).cell? ⟨wb, s, none⟩ = some (.int .u64 x) := by rw [← e9]; exact Q1.ra.d.cell s lt
              have d4 := Q1.ra.d.free s
              have Q2 := hid (Q1.tD ORD.out (Keep.set _ wb s (.int .u64 y)) (by have := Q1.ra.d.set s y; rw [e8] at this; exact this))
              have BQ : Hid (Below W9.heap.size W9 ((wr.setCell ⟨fb, s, none⟩ (.int .u64 y)).setCell ⟨wb, s, none⟩ (.int .u64 y))) := keep_bel (keep_bel J.out.2 (Keep.set wr fb s (.int .u64 y)) (by omega)) (Keep.set _ wb s (.int .u64 y)) (by omega)
              clear Q1 J lt e9 e8 oo za hx9
              go_wp2_with fail
              go_roundg (n2 - (s + 1))
              case measure => omega
              case rel => exact ⟨s + 1, by omega, by go_num, Q2.out, BQ.out⟩
            · obtain rfl : n2 = s := by omega
              have sli : ¬ (n2 : Int) < (n2 : Int) := by omega
              have Q22 : Hid (QS wr g6 fa fb wa wb g13 g14 g15 #[.int .i64 K, .int .u64 X, .int .u64 Y, .int .i64 I9, .bool pn, .int .i64 pc, .int .u64 pm, .int .i64 px9, .bool neg, .slice (some ⟨fa, 0, none⟩) n1 NA, .slice (some ⟨fb, 0, none⟩) n2 NB, .int .i64 ex, .bool more] #[.int .u64 u, .int .i64 i, .int .i64 j, .bool b, .bool ng, .int .i64 cc, .int .u64 mm, .int .i64 xx, .slice pw ll ll, .int .i64 e] #[.int .u64 u, .int .i64 i, .int .i64 j, .bool b, .bool ng, .int .i64 cc, .int .u64 mm, .int .i64 xx, .slice px ll ll, .int .i64 e] #[.int .u64 u, .int .i64 i, .int .i64 j, .bool b, .bool ng, .int .i64 cc, .int .u64 mm, .int .i64 xx, .slice py ll ll, .int .i64 e] YA YB YA YB zs pw px py) := by have q := J.out.1; rw [hx.out.2.2.2] at q; exact q
              have BW22 := hid J.out.2
              clear J
              obtain ⟨w22, hw22⟩ : ∃ w22, w22 = wr := ⟨_, rfl⟩
              subst hw22
              have HM : Hid (∀ W, RA W g6 fa fb wa wb #[.int .i64 K, .int .u64 X, .int .u64 Y, .int .i64 I9, .bool pn, .int .i64 pc, .int .u64 pm, .int .i64 px9, .bool neg, .slice (some ⟨fa, 0, none⟩) n1 NA, .slice (some ⟨fb, 0, none⟩) n2 NB, .int .i64 ex, .bool more] YA YB YA YB → (Arg W (some ⟨fa, 0, none⟩) n1 NA ZA ∧ Arg W (some ⟨fb, 0, none⟩) n2 NB ZB) ∧ (Arg W (some ⟨wa, 0, none⟩) n1 NA ZA ∧ Arg W (some ⟨wb, 0, none⟩) n2 NB ZB) ∧ (Arg W (some ⟨fa, 0, none⟩) NA NA YA ∧ Arg W (some ⟨wa, 0, none⟩) NA NA YA) ∧ (Arg W (some ⟨fb, 0, none⟩) NB NB YB ∧ Arg W (some ⟨wb, 0, none⟩) NB NB YB)) := fun W h =>
                ⟨⟨own_head h.a MA.out.2.2.1 (by omega) MA.out.1 (by omega) MA.out.2.1, own_head h.b MB.out.2.2.1 (by omega) MB.out.1 (by omega) MB.out.2.1⟩, ⟨own_head h.c MA.out.2.2.1 (by omega) MA.out.1 (by omega) MA.out.2.1, own_head h.d MB.out.2.2.1 (by omega) MB.out.1 (by omega) MB.out.2.1⟩, ⟨own_arg h.a MA.out.1 (by omega) MA.out.2.1, own_arg h.c MA.out.1 (by omega) MA.out.2.1⟩, ⟨own_arg h.b MB.out.1 (by omega) MB.out.2.1, own_arg h.d MB.out.1 (by omega) MB.out.2.1⟩⟩
              obtain ⟨⟨r0, r1, r2, r3, r4, r5, r6, r7, r8, r9, r10, r11, r12⟩, -⟩ := Q22.out.ra.o.c13
              go_upto_region 32 with fail
              obtain ⟨g16, hg16⟩ : ∃ g16, w22.heap.size = g16 := ⟨_, rfl⟩
              have X23 : Hid (Bx (w22.alloc (.cells #[.int .i64 K, .int .u64 X, .int .u64 Y, .int .i64 I9, .bool pn, .int .i64 pc, .int .u64 pm, .int .i64 px9, .bool neg, .slice (some ⟨fa, 0, none⟩) n1 NA, .slice (some ⟨fb, 0, none⟩) n2 NB, .int .i64 ex, .bool more] 30)) g16 30 #[.int .i64 K, .int .u64 X, .int .u64 Y, .int .i64 I9, .bool pn, .int .i64 pc, .int .u64 pm, .int .i64 px9, .bool neg, .slice (some ⟨fa, 0, none⟩) n1 NA, .slice (some ⟨fb, 0, none⟩) n2 NB, .int .i64 ex, .bool more]) := by rw [← hg16]; exact heap_alloc_new w22 _
              have Q23 := hid (Q22.out.on (alloc_b2 w22 (.cells #[.int .i64 K, .int .u64 X, .int .u64 Y, .int .i64 I9, .bool pn, .int .i64 pc, .int .u64 pm, .int .i64 px9, .bool neg, .slice (some ⟨fa, 0, none⟩) n1 NA, .slice (some ⟨fb, 0, none⟩) n2 NB, .int .i64 ex, .bool more] 30)))
              have BW23 := hid (bel_on BW22.out (alloc_b2 w22 (.cells #[.int .i64 K, .int .u64 X, .int .u64 Y, .int .i64 I9, .bool pn, .int .i64 pc, .int .u64 pm, .int .i64 px9, .bool neg, .slice (some ⟨fa, 0, none⟩) n1 NA, .slice (some ⟨fb, 0, none⟩) n2 NB, .int .i64 ex, .bool more] 30)))
              have OG : Hid (g15 < g16) := by have := Q22.out.b15.lt; show _ < _; omega
              simp only [hg16]
              clear hg16 r0 r1 r2 r3 r4 r5 r6 r7 r8 r9 r10 r11 r12 Q22 BW22
              generalize w22.alloc (.cells #[.int .i64 K, .int .u64 X, .int .u64 Y, .int .i64 I9, .bool pn, .int .i64 pc, .int .u64 pm, .int .i64 px9, .bool neg, .slice (some ⟨fa, 0, none⟩) n1 NA, .slice (some ⟨fb, 0, none⟩) n2 NB, .int .i64 ex, .bool more] 30) = w23 at *
              obtain ⟨-, zf⟩ := X23.out.c13
              have zf1 := zf 9
              have zf2 := zf 10
              have XF : Hid (∀ W, Below w23.heap.size w23 W → (W.cell? ⟨g16, 9, none⟩ = some (.slice (some ⟨fa, 0, none⟩) n1 NA) ∧ W.frozen? ⟨g16, 9, none⟩ = false)) := fun W hW => by
                have q := (X23.out.on hW).c13
                exact ⟨q.1.2.2.2.2.2.2.2.2.2.1, q.2 9⟩
              clear zf zf1 zf2
              go_upto_region 33 with (go_at_call 6; refine (CP.out _ _ _ _ _ (HM.out _ Q23.out.ra).2.1.1).mono ?_; rintro r w24 ⟨ca, rfl, hca, hB⟩; have CA := hid hca.out; have B24 := hid hB; obtain ⟨x1, x2⟩ := XF.out _ hB; clear hB hca)
              have Q24 := hid (Q23.out.on B24.out)
              have X24 := hid (X23.out.on B24.out)
              have OC : Hid (g16 < ca) := by have := X23.out.lt; have := CA.out.1; show _ < _; omega
              have X25 := hid (X24.out.set (o := 9) (.slice (some ⟨ca, 0, none⟩) n1 n1))
              simp only [Array.setIfInBounds] at X25
              have Q25 := hid (Q24.out.far ORD.out (Keep.set w24 g16 9 (.slice (some ⟨ca, 0, none⟩) n1 n1)) OG.out)
              have CA25 : Hid (Own (w24.setCell ⟨g16, 9, none⟩ (.slice (some ⟨ca, 0, none⟩) n1 n1)) ca ZA) := at_keep CA.out.2 (Keep.set w24 g16 9 (.slice (some ⟨ca, 0, none⟩) n1 n1)) (by have := OC.out; omega)
              have BW25 : Hid (Below W9.heap.size W9 (w24.setCell ⟨g16, 9, none⟩ (.slice (some ⟨ca, 0, none⟩) n1 n1))) := keep_bel (bel_on BW23.out B24.out) (Keep.set w24 g16 9 _) (by have a := w0.out; have o := ORD.out; have o2 := OG.out; unfold Ord at o; omega)
              clear x1 x2 XF X23 Q23 BW23 CA B24 Q24 X24
              generalize w24.setCell ⟨g16, 9, none⟩ (.slice (some ⟨ca, 0, none⟩) n1 n1) = w25 at *
              have XF : Hid (∀ W, Below w25.heap.size w25 W → (W.cell? ⟨g16, 10, none⟩ = some (.slice (some ⟨fb, 0, none⟩) n2 NB) ∧ W.frozen? ⟨g16, 10, none⟩ = false)) := fun W hW => by
                have q := (X25.out.on hW).c13
                exact ⟨q.1.2.2.2.2.2.2.2.2.2.2.1, q.2 10⟩
              go_upto_region 34 with (go_at_call 6; refine (CP.out _ _ _ _ _ (HM.out _ Q25.out.ra).2.1.2).mono ?_; rintro r w26 ⟨cb, rfl, hcb, hB⟩; have CB := hid hcb.out; have B26 := hid hB; obtain ⟨x1, x2⟩ := XF.out _ hB; clear hB hcb)
              have Q26 := hid (Q25.out.on B26.out)
              have X26 := hid (X25.out.on B26.out)
              have OD : Hid (ca < cb) := by have := CA25.out.lt; have := CB.out.1; show _ < _; omega
              have X27 := hid (X26.out.set (o := 10) (.slice (some ⟨cb, 0, none⟩) n2 n2))
              simp only [Array.setIfInBounds] at X27
              have Q27 := hid (Q26.out.far ORD.out (Keep.set w26 g16 10 (.slice (some ⟨cb, 0, none⟩) n2 n2)) OG.out)
              have CA27 : Hid (Own (w26.setCell ⟨g16, 10, none⟩ (.slice (some ⟨cb, 0, none⟩) n2 n2)) ca ZA) := at_keep (CA25.out.on B26.out) (Keep.set w26 g16 10 (.slice (some ⟨cb, 0, none⟩) n2 n2)) (by have := OC.out; omega)
              have CB27 : Hid (Own (w26.setCell ⟨g16, 10, none⟩ (.slice (some ⟨cb, 0, none⟩) n2 n2)) cb ZB) := at_keep CB.out.2 (Keep.set w26 g16 10 (.slice (some ⟨cb, 0, none⟩) n2 n2)) (by have := OC.out; have := OD.out; omega)
              have BW27 : Hid (Below W9.heap.size W9 (w26.setCell ⟨g16, 10, none⟩ (.slice (some ⟨cb, 0, none⟩) n2 n2))) := keep_bel (bel_on BW25.out B26.out) (Keep.set w26 g16 10 _) (by have a := w0.out; have o := ORD.out; have o2 := OG.out; unfold Ord at o; omega)
              clear x1 x2 XF X25 Q25 BW25 CA25 CB B26 Q26 X26
              generalize w26.setCell ⟨g16, 10, none⟩ (.slice (some ⟨cb, 0, none⟩) n2 n2) = w27 at *
              have GC : Hid (Arg w27 (some ⟨ca, 0, none⟩) n1 n1 ZA ∧ Arg w27 (some ⟨cb, 0, none⟩) n2 n2 ZB) := ⟨own_arg CA27.out MA.out.2.2.2.1 (by have := hn.out; omega) MA.out.2.2.2.2, own_arg CB27.out MB.out.2.2.2.1 (by have := hn.out; omega) MB.out.2.2.2.2⟩
              obtain ⟨⟨r0, r1, r2, r3, r4, r5, r6, r7, r8, r9, r10, r11, r12⟩, -⟩ := X27.out.c13
              have TF3 : Hid (∀ W, Below w27.heap.size w27 W → (W.cell? ⟨g13, 0, none⟩ = some (.int .u64 u) ∧ W.cell? ⟨g13, 1, none⟩ = some (.int .i64 i) ∧ W.cell? ⟨g13, 2, none⟩ = some (.int .i64 j) ∧ W.cell? ⟨g13, 3, none⟩ = some (.bool b) ∧ W.cell? ⟨g13, 4, none⟩ = some (.bool ng) ∧ W.cell? ⟨g13, 5, none⟩ = some (.int .i64 cc) ∧ W.cell? ⟨g13, 6, none⟩ = some (.int .u64 mm) ∧ W.cell? ⟨g13, 7, none⟩ = some (.int .i64 xx) ∧ W.cell? ⟨g13, 8, none⟩ = some (.slice pw ll ll) ∧ W.cell? ⟨g13, 9, none⟩ = some (.int .i64 e)) ∧ (W.frozen? ⟨g13, 0, none⟩ = false ∧ W.frozen? ⟨g13, 1, none⟩ = false ∧ W.frozen? ⟨g13, 2, none⟩ = false ∧ W.frozen? ⟨g13, 3, none⟩ = false ∧ W.frozen? ⟨g13, 4, none⟩ = false ∧ W.frozen? ⟨g13, 5, none⟩ = false ∧ W.frozen? ⟨g13, 6, none⟩ = false ∧ W.frozen? ⟨g13, 7, none⟩ = false ∧ W.frozen? ⟨g13, 8, none⟩ = false ∧ W.frozen? ⟨g13, 9, none⟩ = false)) := fun W hW => by
                have q := Q27.out.b13.on hW
                have f := q.c10
                refine ⟨f, ?_, ?_, ?_, ?_, ?_, ?_, ?_, ?_, ?_, ?_⟩ <;> (simp only [Bx] at q; simp [World.frozen?, q])
              go_upto_region 35 with (go_at_call 7; refine (HW2.out _ _ _ _ _ (T7.out _ (bel_on I.out.1 BW27.out)) GC.out.1 GC.out.2).mono ?_; rintro r w28 ⟨pw2, rfl, hls, hB⟩; have LW28 := hid hls.out; have B28 := hid hB; obtain ⟨⟨t0, t1, t2, t3, t4, t5, t6, t7, t8, t9⟩, ⟨f0, f1, f2, f3, f4, f5, f6, f7, f8, f9⟩⟩ := TF3.out _ hB; clear hB hls)
              have Q28 := hid (Q27.out.on B28.out)
              have K29 : Hid (Keep (fun b => b = g13) w28 ((((((((((w28.setCell ⟨g13, 0, none⟩ (.int .u64 u2)).setCell ⟨g13, 1, none⟩ (.int .i64 i2)).setCell ⟨g13, 2, none⟩ (.int .i64 j2)).setCell ⟨g13, 3, none⟩ (.bool b2)).setCell ⟨g13, 4, none⟩ (.bool ng2)).setCell ⟨g13, 5, none⟩ (.int .i64 cc2)).setCell ⟨g13, 6, none⟩ (.int .u64 mm2)).setCell ⟨g13, 7, none⟩ (.int .i64 xx2)).setCell ⟨g13, 8, none⟩ (.slice pw2 ll2 ll2)).setCell ⟨g13, 9, none⟩ (.int .i64 e2))) := ((((((((((Keep.set w28 g13 0 _).trans (Keep.set _ g13 1 _)).trans (Keep.set _ g13 2 _)).trans (Keep.set _ g13 3 _)).trans (Keep.set _ g13 4 _)).trans (Keep.set _ g13 5 _)).trans (Keep.set _ g13 6 _)).trans (Keep.set _ g13 7 _)).trans (Keep.set _ g13 8 _)).trans (Keep.set _ g13 9 _))
              have C29 : Hid (Bx ((((((((((w28.setCell ⟨g13, 0, none⟩ (.int .u64 u2)).setCell ⟨g13, 1, none⟩ (.int .i64 i2)).setCell ⟨g13, 2, none⟩ (.int .i64 j2)).setCell ⟨g13, 3, none⟩ (.bool b2)).setCell ⟨g13, 4, none⟩ (.bool ng2)).setCell ⟨g13, 5, none⟩ (.int .i64 cc2)).setCell ⟨g13, 6, none⟩ (.int .u64 mm2)).setCell ⟨g13, 7, none⟩ (.int .i64 xx2)).setCell ⟨g13, 8, none⟩ (.slice pw2 ll2 ll2)).setCell ⟨g13, 9, none⟩ (.int .i64 e2)) g13 34 #[.int .u64 u2, .int .i64 i2, .int .i64 j2, .bool b2, .bool ng2, .int .i64 cc2, .int .u64 mm2, .int .i64 xx2, .slice pw2 ll2 ll2, .int .i64 e2]) := set_row10 Q28.out.b13
              clear t0 t1 t2 t3 t4 t5 t6 t7 t8 t9 f0 f1 f2 f3 f4 f5 f6 f7 f8 f9 TF3 r0 r1 r2 r3 r4 r5 r6 r7 r8 r9 r10 r11 r12 HW2 GC
              generalize (((((((((w28.setCell ⟨g13, 0, none⟩ (.int .u64 u2)).setCell ⟨g13, 1, none⟩ (.int .i64 i2)).setCell ⟨g13, 2, none⟩ (.int .i64 j2)).setCell ⟨g13, 3, none⟩ (.bool b2)).setCell ⟨g13, 4, none⟩ (.bool ng2)).setCell ⟨g13, 5, none⟩ (.int .i64 cc2)).setCell ⟨g13, 6, none⟩ (.int .u64 mm2)).setCell ⟨g13, 7, none⟩ (.int .i64 xx2)).setCell ⟨g13, 8, none⟩ (.slice pw2 ll2 ll2)).setCell ⟨g13, 9, none⟩ (.int .i64 e2) = w29 at *
              have Q29 := hid (Q28.out.t13 ORD.out K29.out C29.out)
              have LW29 : Hid (Ls w27.heap.size w29 pw2 zs2) := LW28.out.keep K29.out (fun a ha h0 q => by have := (LW28.out.2 a ha h0).1; have := Q27.out.b13.lt; omega)
              have BW29 : Hid (Below W9.heap.size W9 w29) := keep_bel (bel_on BW27.out B28.out) K29.out (by have a := w0.out; have o := ORD.out; unfold Ord at o; omega)
              have CZ : Hid (g15 < w29.heap.size) := Q29.out.b15.lt
              clear Q28 K29 C29 LW28 B28 BW27 Q27 CA27 CB27 X27 OC OD OG
              obtain ⟨⟨r0, r1, r2, r3, r4, r5, r6, r7, r8, r9, r10, r11, r12⟩, -⟩ := Q29.out.ra.o.c13
              go_upto_region 36 with (go_at_call 8; refine (HA2.out _ _ _ _ _ (HC.out _ (bel_on I.out.1 BW29.out)).2.2.2 (HM.out _ Q29.out.ra).1.1 (HM.out _ Q29.out.ra).1.2).mono ?_; rintro r w30 ⟨pz, rfl, hls, hB⟩; have LZ := hid hls.out; have B30 := hid hB; clear hB hls)
              obtain ⟨g17, hg17⟩ : ∃ g17, w30.heap.size = g17 := ⟨_, rfl⟩
              have C17 : Hid (Bx (w30.alloc (.cells #[.int .u64 u2, .int .i64 i2, .int .i64 j2, .bool b2, .bool ng2, .int .i64 cc2, .int .u64 mm2, .int .i64 xx2, .slice pz ll2 ll2, .int .i64 e2] 34)) g17 34 #[.int .u64 u2, .int .i64 i2, .int .i64 j2, .bool b2, .bool ng2, .int .i64 cc2, .int .u64 mm2, .int .i64 xx2, .slice pz ll2 ll2, .int .i64 e2]) := by rw [← hg17]; exact heap_alloc_new w30 _
              have B31 : Hid (Below w29.heap.size w29 (w30.alloc (.cells #[.int .u64 u2, .int .i64 i2, .int .i64 j2, .bool b2, .bool ng2, .int .i64 cc2, .int .u64 mm2, .int .i64 xx2, .slice pz ll2 ll2, .int .i64 e2] 34))) := bel_on B30.out (alloc_b2 w30 _)
              have LZ31 := hid (LZ.out.on (alloc_b2 w30 (.cells #[.int .u64 u2, .int .i64 i2, .int .i64 j2, .bool b2, .bool ng2, .int .i64 cc2, .int .u64 mm2, .int .i64 xx2, .slice pz ll2 ll2, .int .i64 e2] 34)))
              have LW31 := hid (LW29.out.on B31.out)
              have Q31 := hid (Q29.out.on B31.out)
              have BW31 := hid (bel_on BW29.out B31.out)
              have OZ : Hid (w29.heap.size ≤ g17) := by have := B30.out.size; show _ ≤ _; omega
              simp only [hg17]
              clear hg17 r0 r1 r2 r3 r4 r5 r6 r7 r8 r9 r10 r11 r12 Q29 LW29 BW29 LZ B30 B31 HA2
              generalize w30.alloc (.cells #[.int .u64 u2, .int .i64 i2, .int .i64 j2, .bool b2, .bool ng2, .int .i64 cc2, .int .u64 mm2, .int .i64 xx2, .slice pz ll2 ll2, .int .i64 e2] 34) = w31 at *
              have G33 : Hid (∀ W, Below w31.heap.size w31 W → (Arg W pz ll2 ll2 zs2 ∧ Arg W pw2 ll2 ll2 zs2) ∧ (Arg W (some ⟨fa, 0, none⟩) NA NA YA ∧ Arg W (some ⟨wa, 0, none⟩) NA NA YA) ∧ (Arg W (some ⟨fb, 0, none⟩) NB NB YB ∧ Arg W (some ⟨wb, 0, none⟩) NB NB YB)) := fun W h =>
                ⟨⟨⟨ZL2.out.1, Nat.le_refl _, ZL2.out.2.1, (LZ31.out.on h).1, ZL2.out.2.2⟩, ⟨ZL2.out.1, Nat.le_refl _, ZL2.out.2.1, (LW31.out.on h).1, ZL2.out.2.2⟩⟩, (HM.out _ (Q31.out.ra.on h)).2.2.1, (HM.out _ (Q31.out.ra.on h)).2.2.2⟩
              obtain ⟨s0, s1, s2, s3, s4, s5, s6, s7, s8, s9⟩ := C17.out.c10
              obtain ⟨t0, t1, t2, t3, t4, t5, t6, t7, t8, t9⟩ := Q31.out.b13.c10
              go_upto_region 38 with (first
                | (go_at_call 9; refine (AK.out _ _ _ _ _ _ _ _ _ _ _ _ _ _ _ _ _ (G33.out _ (Below.refl _ _)).1.1 (G33.out _ (Below.refl _ _)).1.2).mono ?_; rintro r w32 ⟨rfl, hB⟩; have D32 := hid hB; clear hB)
                | (go_at_call 10; first
                  | (with_reducible refine (SM.out _ _ _ _ _ _ _ _ (G33.out _ D32.out).2.1.1 (G33.out _ D32.out).2.1.2).mono ?_; rintro r w33 ⟨rfl, hB⟩; have D33 := hid (bel_on D32.out hB); clear hB)
                  | (with_reducible refine (SM.out _ _ _ _ _ _ _ _ (G33.out _ D33.out).2.2.1 (G33.out _ D33.out).2.2.2).mono ?_; rintro r w34 ⟨rfl, hB⟩; have D34 := hid (bel_on D33.out hB); clear hB)))
              have Q34 := hid (Q31.out.on D34.out)
              have LZ34 := hid (LZ31.out.on D34.out)
              have C34 := hid (C17.out.on D34.out)
              have BW34 := hid (bel_on BW31.out D34.out)
              clear s0 s1 s2 s3 s4 s5 s6 s7 s8 s9 t0 t1 t2 t3 t4 t5 t6 t7 t8 t9 Q31 LW31 LZ31 C17 BW31 D32 D33 D34 G33 HM SM AK
              have I2 : Hid (KI T0 w.heap.size w34 u3 (L ++ three3 px py pz ll ll2) L.length) := by
                have a := w0.out
                have o := ORD.out
                have cz := CZ.out
                have oz := OZ.out
                have bs := BW34.out.size
                unfold Ord at o
                refine I.out.2.ext BW34.out I.out.1.size _ (fun x hx => ?_) (apart3 (fun q h => blk_lr Q34.out.lx ZL.out.1 h) (fun q h => blk_lr Q34.out.ly ZL.out.1 h) (fun q h => (blk_ls LZ34.out ZL2.out.1 h).1) (by omega) (by omega))
                simp only [three3, List.mem_cons, List.not_mem_nil, or_false] at hx
                rcases hx with rfl | rfl | rfl
                · exact ⟨⟨zs, ZL.out.1, Q34.out.lx.ls (by omega)⟩, ZL.out.2.1⟩
                · exact ⟨⟨zs, ZL.out.1, Q34.out.ly.ls (by omega)⟩, ZL.out.2.1⟩
                · exact ⟨⟨zs2, ZL2.out.1, LZ34.out.low (by omega)⟩, ZL2.out.2.1⟩
              have E0 : (L ++ three3 px py pz ll ll2)[L.length]? = some (Ke.mk px ll) := by rw [List.getElem?_append_right (Nat.le_refl _), Nat.sub_self]; rfl
              have E1 : (L ++ three3 px py pz ll ll2)[L.length + 1]? = some (Ke.mk py ll) := by rw [List.getElem?_append_right (by omega), show L.length + 1 - L.length = 1 by omega]; rfl
              have E2 : (L ++ three3 px py pz ll ll2)[L.length + 1 + 1]? = some (Ke.mk pz ll2) := by rw [List.getElem?_append_right (by omega), show L.length + 1 + 1 - L.length = 2 by omega]; rfl
              have EL : (L ++ three3 px py pz ll ll2).length = L.length + 1 + 1 + 1 := by rw [List.length_append]; rfl
              have MO : ∀ g, u3.ownBlock = some g → g < W9.heap.size := fun g h => (ow_lt I.out.2.row h).2
              have M15 : Hid (∀ g, g = g15 ∨ g = g17 → W9.heap.size ≤ g ∧ g < w34.heap.size) := fun g h => by
                have a := w0.out
                have o := ORD.out
                have cz := CZ.out
                have oz := OZ.out
                unfold Ord at o
                have q1 := Q34.out.b15.lt
                have q2 := C34.out.lt
                rcases h with rfl | rfl <;> constructor <;> omega
              have x14 := Q34.out.b14.c10.2.2.2.2.2.2.2.2.1
              have X15 := hid Q34.out.b15
              have WB34 := hid (bel_on I.out.1 BW34.out)
              have HL : Hid ((L ++ three3 px py pz ll ll2).length ≤ 4000000000000) := by rw [Hid, EL]; omega
              have HE := hid (And.intro E0 (And.intro E1 (And.intro E2 EL)))
              clear E0 E1 E2 EL
              generalize hLL : (L ++ three3 px py pz ll ll2) = LL at *
              clear hLL
              obtain ⟨mv1, w35, ap, k35, b35, kp35, o35⟩ := I2.out.push HE.out.1 HL.out WB34.out.size
              have M1 : Hid (∀ g, mv1.ownBlock = some g → g < W9.heap.size ∨ w34.heap.size ≤ g) := fun g h => by
                rcases o35 g h with q | q
                · exact .inl (MO g q)
                · exact .inr q
              have AP := hid ap
              have K35 := hid k35
              have WB35 := hid (WB34.out.trans b35)
              have X15b : Hid (Bx w35 g15 34 #[.int .u64 u, .int .i64 i, .int .i64 j, .bool b, .bool ng, .int .i64 cc, .int .u64 mm, .int .i64 xx, .slice py ll ll, .int .i64 e]) := at_keepS X15.out kp35 (fun h => by have := MO _ h; have := M15.out g15 (.inl rfl); omega)
              have C35 : Hid (Bx w35 g17 34 #[.int .u64 u2, .int .i64 i2, .int .i64 j2, .bool b2, .bool ng2, .int .i64 cc2, .int .u64 mm2, .int .i64 xx2, .slice pz ll2 ll2, .int .i64 e2]) := at_keepS C34.out kp35 (fun h => by have := MO _ h; have := M15.out g17 (.inr rfl); omega)
              have S35 := hid kp35.size
              clear ap k35 b35 kp35 o35 MO I2 X15 C34 Q34 LZ34 BW34 ORD ZL ZL2 MA MB LA LB HC CP nA nB NAb NBb OZ CZ w0 SZ hx hn T7
              go_upto_region 39 with (at_builtin; refine wpList_append_row rfl _ _ rfl AP.out (by rfl) (by rfl) ?_; clear AP)
              obtain ⟨mv2, w36, ap, k36, b36, kp36, o36⟩ := K35.out.push HE.out.2.1 HL.out WB35.out.size
              have AP := hid ap
              have K36 := hid k36
              have WB36 := hid (WB35.out.trans b36)
              have C36 : Hid (Bx w36 g17 34 #[.int .u64 u2, .int .i64 i2, .int .i64 j2, .bool b2, .bool ng2, .int .i64 cc2, .int .u64 mm2, .int .i64 xx2, .slice pz ll2 ll2, .int .i64 e2]) := at_keepS C35.out kp36 (fun h => by have := M1.out _ h; have := M15.out g17 (.inr rfl); omega)
              have x15 := X15b.out.c10.2.2.2.2.2.2.2.2.1
              clear ap k36 b36 kp36 o36 K35 WB35 M1 X15b C35 S35
              go_upto_region 40 with (at_builtin; refine wpList_append_row rfl _ _ rfl AP.out (by rfl) (by rfl) ?_; clear AP)
              clear x14 x15
              obtain ⟨mv3, w37, ap, k37, b37, kp37, o37⟩ := K36.out.push HE.out.2.2.1 HL.out WB36.out.size
              have AP := hid ap
              have WB37 := hid (WB36.out.trans b37)
              have K37 : Hid (KI T0 w.heap.size w37 mv3 LL LL.length) := by
                have e2 : LL.length = L.length + 1 + 1 + 1 := HE.out.2.2.2
                rw [e2]
                exact k37
              have x17 := C36.out.c10.2.2.2.2.2.2.2.2.1
              clear ap k37 b37 kp37 o37 K36 WB36 C36
              go_wp2_with (at_builtin; refine wpList_append_row rfl _ _ rfl AP.out (by rfl) (by rfl) ?_; clear AP)
              go_roundg (len - (k + 1))
              case measure => omega
              case rel => exact ⟨k + 1, LL, by omega, by go_num, by have := HE.out.2.2.2; omega, WB37.out, K37.out⟩
    · obtain rfl : k = len := by omega
      have kli : ¬ (k : Int) < (k : Int) := by omega
      have WB := hid I.out.1
      have S2 : Hid (K2 (CK 0 0) w.heap.size wr u3 (.slice none 0 0) L 0) := ⟨I.out.2.mono (fun j e he zs hz _ => ck_zero j zs), Re.Ow.nil _, fun _ _ _ _ h => (by cases h), fun _ h => (by cases h)⟩
      obtain ⟨q3, c3, rfl⟩ := row_len I.out.2.row (n := L.length) (by simp)
      obtain ⟨n, hn⟩ : ∃ n, L.length = n := ⟨_, rfl⟩
      have nb : n ≤ 3300000000000 := by omega
      have nbi : (n : Int) ≤ 3300000000000 := by omega
      have HN := hid hn
      rw [hn] at S2 ⊢
      clear I RD hL5 hn BH CP SM AK
      go_wp2_with fail
      go_loopg [19, 20] n (fun m sv iv wr => ∃ i : Nat, i + m = n ∧ iv = .int .i64 (i : Int) ∧ Hid (Below w.heap.size w wr ∧ K2 (CK i 0) w.heap.size wr (.slice q3 n c3) sv L i))
      case atStart => exact ⟨0, by omega, rfl, WB.out, S2.out⟩
      case round =>
        obtain ⟨i, hi, rfl, I⟩ := hrel
        clear S2 WB
        by_cases il : i < n
        · have ili : (i : Int) < (n : Int) := by omega
          obtain ⟨⟨ep, en⟩, he⟩ : ∃ e, L[i]? = some e := ⟨_, List.getElem?_eq_getElem (by have := HN.out; omega)⟩
          have HE := hid he
          have enb : en ≤ 17592186044000 := I.out.2.ki.small _ (List.mem_of_getElem? he)
          have row : Re.Ow v1 28 1 w.heap.size wr (.slice q3 n c3) (L.map Ke.v) := by
            have q := I.out.2.ki.row
            rwa [List.take_length] at q
          obtain ⟨g, rfl, cl⟩ := row_cell row (i := i) (x := ⟨ep, en, en⟩) (by rw [List.getElem?_map, he]; rfl)
          simp only at cl
          obtain ⟨sv', w5, ap, k5, b5⟩ := I.out.2.push he (by have := HN.out; omega) I.out.1.size
          simp only at ap
          have AP := hid ap
          have W5 : Hid (Below w.heap.size w w5) := I.out.1.trans b5
          have K5 : Hid (K2 (CK i 0) w.heap.size w5 (.slice (some ⟨g, 0, none⟩) n c3) sv' L (i + 1)) := k5
          have eni : (en : Int) ≤ 17592186044000 := by omega
          clear he row ap k5 b5 I
          go_upto_region 46 with (at_builtin; refine wpList_append_row rfl _ _ rfl AP.out (by rfl) (by rfl) ?_; clear AP)
          clear cl
          go_wp2_with fail
          go_loopg [21] en (fun m iv wr => ∃ t : Nat, t + m = en ∧ iv = .int .i64 (t : Int) ∧ Hid (Below w.heap.size w wr ∧ K2 (CK i t) w.heap.size wr (.slice (some ⟨g, 0, none⟩) n c3) sv' L (i + 1)))
          case atStart => exact ⟨0, by omega, rfl, W5.out, K5.out⟩
          case round =>
            obtain ⟨t, ht, rfl, J⟩ := hrel
            clear K5 W5
            have row : Re.Ow v1 28 1 w.heap.size wr (.slice (some ⟨g, 0, none⟩) n c3) (L.map Ke.v) := by
              have q := J.out.2.ki.row
              rwa [List.take_length] at q
            obtain ⟨g', e', cl⟩ := row_cell row (i := i) (x := ⟨ep, en, en⟩) (by rw [List.getElem?_map, HE.out]; rfl)
            cases e'
            simp only at cl
            clear row
            by_cases tl : t < en
            · have tli : (t : Int) < (en : Int) := by omega
              obtain ⟨x, hx⟩ : ∃ x, mk1 i = x := ⟨_, rfl⟩
              have w1 : IntKind.u64.wrap (i : Int) = (i : Int) := by rw [Sh.wrap_mod]; omega
              have w2x : IntKind.u64.wrap (7881706626762146792 + (i : Int)) = x := by rw [← hx, mk1, Sh.wrap_mod]; omega
              obtain ⟨b, off, y, hp, cb, fb, hB, K6⟩ := J.out.2.put HE.out tl x (CK i (t + 1)) (fun j zs hj c => ck_other hj c) (fun zs hz c => by rw [← hx]; exact ck_put (by simp only at hz; omega) c)
              simp only at hp
              subst hp
              have K7 := hid K6
              have W7 : Hid (Below w.heap.size w (wr.setCell ⟨b, off + t, none⟩ (.int .u64 x))) := J.out.1.setCell (p := ⟨b, off + t, none⟩) hB _
              clear K6 J hB hx
              go_wp2_with fail
              go_roundg (en - (t + 1))
              case measure => omega
              case rel => exact ⟨t + 1, by omega, by go_num, W7.out, K7.out⟩
            · obtain rfl : t = en := by omega
              have tli : ¬ (t : Int) < (t : Int) := by omega
              have K8 : Hid (K2 (CK (i + 1) 0) w.heap.size wr (.slice (some ⟨g, 0, none⟩) n c3) sv' L (i + 1)) := J.out.2.mono (fun j e he zs hz c => ck_next (fun q => by subst q; have := HE.out; rw [he] at this; cases this; exact hz) c)
              have W8 := hid J.out.1
              clear J
              go_wp2_with fail
              go_roundg (n - (i + 1))
              case measure => omega
              case rel => exact ⟨i + 1, by omega, by go_num, W8.out, K8.out⟩
        · obtain rfl : i = n := by omega
          have ili : ¬ (i : Int) < (i : Int) := by omega
          have S3 : Hid (K3 w.heap.size wr (.slice q3 i c3) u19 L (L.map Ke.v) 0) := K3.start (by rw [HN.out]; exact I.out.2)
          have SMALL : Hid (∀ e ∈ L, e.n ≤ 17592186044000) := I.out.2.ki.small
          have WB := hid I.out.1
          obtain ⟨q4, c4, rfl⟩ := int_len I.out.2.sz (n := i) (by rw [List.length_map, List.length_take, HN.out]; omega)
          clear I
          go_wp2_with fail
          go_loopg [22] i (fun m iv wr => ∃ (k : Nat) (vs : List Sl), k + m = i ∧ iv = .int .i64 (k : Int) ∧ Hid (Below w.heap.size w wr ∧ K3 w.heap.size wr (.slice q3 i c3) (.slice q4 i c4) L vs k))
          case atStart => exact ⟨0, _, by omega, rfl, WB.out, S3.out⟩
          case round =>
            obtain ⟨k, vs, hk, rfl, I⟩ := hrel
            clear S3 WB
            by_cases kl : k < i
            · have kli : (k : Int) < (i : Int) := by omega
              obtain ⟨⟨ep, en⟩, he⟩ : ∃ e, L[k]? = some e := ⟨_, List.getElem?_eq_getElem (by have := HN.out; omega)⟩
              have enb : en ≤ 17592186044000 := SMALL.out _ (List.mem_of_getElem? he)
              obtain ⟨hv, hL, hne⟩ := I.out.2.old k _ (Nat.le_refl _) he
              obtain ⟨g, rfl, cl⟩ := row_cell I.out.2.row hv
              obtain ⟨x, hx⟩ : ∃ x, mk1 k = x := ⟨_, rfl⟩
              rw [hx] at hL
              simp only [Ke.v] at cl hL
              have HL := hid hL
              have HE := hid he
              have HX := hid hx
              have w1 : IntKind.u64.wrap (k : Int) = (k : Int) := by rw [Sh.wrap_mod]; omega
              have w2x : IntKind.u64.wrap (7881706626762146792 + (k : Int)) = x := by rw [← hx, mk1, Sh.wrap_mod]; omega
              obtain ⟨W0, hW0⟩ : ∃ W0, W0 = wr := ⟨_, rfl⟩
              have I0 : Hid (Below w.heap.size w W0 ∧ K3 w.heap.size W0 (.slice (some ⟨g, 0, none⟩) i c3) (.slice q4 i c4) L vs k) := by rw [hW0]; exact I.out
              have HL0 : Hid (Lies W0 ep (List.replicate en x)) := by rw [hW0]; exact HL.out
              have HW : Hid (W0 = wr) := hW0
              clear hv hL hne he hx I HL hW0
              go_upto_region 54 with fail
              clear cl
              go_wp2_with fail
              go_loopg [23, 24] 20 (fun m lv iv wr => ∃ t : Nat, t + m = 20 ∧ iv = .int .i64 (t : Int) ∧ Hid (Below W0.heap.size W0 wr ∧ ((t = 0 ∧ lv = .slice ep en en) ∨ (0 < t ∧ Re.Ow u1 25 1 W0.heap.size wr lv (List.replicate (en + t) x)))))
              case atStart => exact ⟨0, by omega, rfl, by rw [HW.out]; exact Below.refl _ _, .inl ⟨rfl, rfl⟩⟩
              case round =>
                obtain ⟨t, ht, rfl, J⟩ := hrel
                clear HW
                by_cases tl : t < 20
                · have tli : (t : Int) < 20 := by omega
                  obtain ⟨lv', w6, ap, o6, b6⟩ := app_l enb tl (HL0.out.below J.out.1 (Nat.le_refl _)) J.out.1.size J.out.2
                  have AP := hid ap
                  have O6 := hid o6
                  have W6 : Hid (Below W0.heap.size W0 w6) := J.out.1.trans b6
                  clear ap o6 b6 J
                  go_wp2_with (at_builtin; refine wpList_append_row rfl _ _ rfl AP.out (by rfl) (by rfl) ?_; clear AP)
                  go_roundg (20 - (t + 1))
                  case measure => omega
                  case rel => exact ⟨t + 1, by omega, by go_num, W6.out, .inr ⟨by omega, O6.out⟩⟩
                · obtain rfl : t = 20 := by omega
                  have tli : ¬ (((20 : Nat) : Int)) < 20 := by omega
                  have ow : Re.Ow u1 25 1 W0.heap.size wr u23 (List.replicate (en + 20) x) := by
                    rcases J.out.2 with ⟨h, _⟩ | ⟨_, h⟩
                    · cases h
                    · exact h
                  obtain ⟨gl, cl', rfl, hg, hL2⟩ := ow_u1 ow (by omega)
                  have I1 := hid (I0.out.2.on J.out.1)
                  have mo : (Value.slice (some ⟨g, 0, none⟩) i c3).ownBlock ≠ some gl := fun h => by
                    have := (ow_lt I0.out.2.row h).2
                    omega
                  obtain ⟨gk, ck, e1, hb, ⟨u, cu, cu1⟩, fu, K9⟩ := I1.out.put HE.out (g := gl) (cap := cl') (by rw [HX.out]; exact hL2) mo
                  simp only [Value.slice.injEq, Option.some.injEq, Addr.mk.injEq, and_true] at e1
                  obtain ⟨rfl, -, -⟩ := e1
                  have K10 := hid K9
                  have W10 : Hid (Below w.heap.size w (wr.setCell ⟨g, k, none⟩ (.slice (some ⟨gl, 0, none⟩) (en + 20) cl'))) := (I0.out.1.trans (J.out.1.mono I0.out.1.size)).setCell (p := ⟨g, k, none⟩) hb _
                  simp only at K10
                  obtain ⟨Q, hQ⟩ : ∃ Q, en + 20 = Q := ⟨_, rfl⟩
                  rw [hQ] at K10 W10
                  simp only [hQ]
                  clear K9 I1 J hL2 ow mo hb I0 hQ
                  go_wp2_with fail
                  go_roundg (i - (k + 1))
                  case measure => omega
                  case rel => exact ⟨k + 1, _, by omega, by go_num, W10.out, K10.out⟩
            · obtain rfl : k = i := by omega
              have kli : ¬ (k : Int) < (k : Int) := by omega
              have S4 := hid I.out.2
              have WB := hid I.out.1
              clear I
              go_wp2_with fail
              go_loopg [25] k (fun m iv wr => ∃ j : Nat, j + m = k ∧ iv = .int .i64 (j : Int) ∧ Hid (Below w.heap.size w wr ∧ K3 w.heap.size wr (.slice q3 k c3) (.slice q4 k c4) L vs k))
              case atStart => exact ⟨0, by omega, rfl, WB.out, S4.out⟩
              case round =>
                obtain ⟨j, hj, rfl, I⟩ := hrel
                clear S4 WB
                by_cases jl : j < k
                · have jli : (j : Int) < (k : Int) := by omega
                  obtain ⟨⟨ep, en⟩, he⟩ : ∃ e, L[j]? = some e := ⟨_, List.getElem?_eq_getElem (by have := HN.out; omega)⟩
                  have enb : en ≤ 17592186044000 := SMALL.out _ (List.mem_of_getElem? he)
                  obtain ⟨gl, cl', hv, hL, hne⟩ := I.out.2.new j _ jl he
                  obtain ⟨g, rfl, cl⟩ := row_cell I.out.2.row hv
                  obtain ⟨g4, rfl, cs⟩ := int_cell I.out.2.sz (i := j) (x := (en : Int)) (by rw [List.getElem?_map, he]; rfl)
                  obtain ⟨x, hx⟩ : ∃ x, mk1 j = x := ⟨_, rfl⟩
                  rw [hx] at hL
                  simp only at cl hL
                  have w1 : IntKind.u64.wrap (j : Int) = (j : Int) := by rw [Sh.wrap_mod]; omega
                  have w2x : IntKind.u64.wrap (7881706626762146792 + (j : Int)) = x := by rw [← hx, mk1, Sh.wrap_mod]; omega
                  obtain ⟨Q, hQ⟩ : ∃ Q, en + 20 = Q := ⟨_, rfl⟩
                  have w3 : IntKind.i64.wrap ((en : Int) + 20) = (Q : Int) := by rw [IntKind.wrap_i64]; omega
                  rw [hQ] at cl hL
                  have Qb : (Q : Int) ≤ 17592186044020 := by omega
                  have HL := hid hL
                  have HE := hid he
                  have hv2 := hid hv
                  have HQ := hid hQ
                  clear hL hne hx he hv hQ
                  go_upto_region 62 with fail
                  go_quiet (fail)
                  have I2 : Hid (Below w.heap.size w (wr.drewN nq) ∧ K3 w.heap.size (wr.drewN nq) (.slice (some ⟨g, 0, none⟩) k c3) (.slice (some ⟨g4, 0, none⟩) k c4) L vs k) := ⟨below_drewM I.out.1 nq, I.out.2.on (below_drewM (Below.refl _ _) nq)⟩
                  have HL2 : Hid (Lies (wr.drewN nq) (some ⟨gl, 0, none⟩) (List.replicate Q x)) := HL.out.below (below_drewM (Below.refl _ _) nq) (Nat.le_refl _)
                  clear I HL cl cs w3
                  generalize wr.drewN nq = wq at *
                  go_wp2_with fail
                  go_loopg [26] Q (fun m iv wr => ∃ t : Nat, t + m = Q ∧ iv = .int .i64 (t : Int) ∧ Hid (wr = wq))
                  case atStart => exact ⟨0, by omega, rfl, rfl⟩
                  case round =>
                    obtain ⟨t, ht, rfl, J⟩ := hrel
                    obtain rfl : wr = wq := J.out
                    obtain ⟨g', e', cl⟩ := row_cell I2.out.2.row hv2.out
                    cases e'
                    simp only at cl
                    rw [HQ.out] at cl
                    by_cases tl : t < Q
                    · have tli : (t : Int) < (Q : Int) := by omega
                      have cx : wr.cell? ⟨gl, t, none⟩ = some (.int .u64 x) := by
                        rcases HL2.out with h | ⟨b, off, e, h⟩
                        · have := congrArg List.length h; simp at this; omega
                        · cases e
                          have := h t (by rw [List.length_replicate]; exact tl)
                          rw [Nat.zero_add] at this
                          rw [this]
                          simp [List.getD, tl]
                      go_wp2_with fail
                      go_roundg (Q - (t + 1))
                      case measure => omega
                      case rel => exact ⟨t + 1, by omega, by go_num, rfl⟩
                    · obtain rfl : t = Q := by omega
                      have tli : ¬ (t : Int) < (t : Int) := by omega
                      go_wp2_with fail
                      go_roundg (k - (j + 1))
                      case measure => omega
                      case rel => exact ⟨j + 1, by omega, by go_num, I2.out⟩
                · obtain rfl : j = k := by omega
                  have jli : ¬ (j : Int) < (j : Int) := by omega
                  have WB := hid I.out.1
                  clear I
                  go_wp2_with fail
                  go_ret
                  exact ⟨rfl, WB.out⟩
end Go.Proofs.YtggiioipppbedaaGreatDoor

namespace Go.Proofs.YtggiioipppbedaaGreatDoor
open Go Go.RowKit Go.Deep

theorem tab_laid : (Rows.laid_math_bits_deBruijn64tab : DataW Unit) = Lib.tabData .u8 (List.map Int.ofNat Lib.deBruijn64tab) := by kernel_rfl

theorem tab_of {W : World} {rest : List (String × DataW Unit)} (h : laidMet Tryz.prog (("math/bits.deBruijn64tab", Rows.laid_math_bits_deBruijn64tab) :: rest) W) : Tab W := by
  rw [tab_laid] at h
  have ht := Lib.tabIs_of_head (g := 0) (t := 89) (e := 5) (n := 64) (k := .u8) (zs := List.map Int.ofNat Lib.deBruijn64tab) (by kernel_rfl) (by kernel_rfl) Tryz.underlying89 Tryz.underlying5 (by kernel_rfl) (by kernel_rfl) h
  intro j hj
  have hl : (List.map Int.ofNat Lib.deBruijn64tab).length = Lib.deBruijn64tab.length := by simp
  rw [ht.cell (g := 0) (by kernel_rfl) j (by omega)]
  simp [List.getD, hj]

end Go.Proofs.YtggiioipppbedaaGreatDoor
