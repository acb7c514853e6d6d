/-
  Texts put together: EOther, ZEncA, ZEnc, ZRef6, ZRef9, ZRef13, ZArg, ZRef7, ZRef17.
-/
import Derived.Test.YtggiioipppbedaaGreatDoorRC
import Derived.Test.YtggiioipppbedaaGreatDoorRB
import Derived.Test.YtggiioipppbedaaGreatDoorZRef3
import Derived.Test.YtggiioipppbedaaGreatDoorTrailW
import Derived.Test.YtggiioipppbedaaGreatDoorWalk5
import Derived.Test.YtggiioipppbedaaGreatDoorTimesNum
import Derived.Test.YtggiioipppbedaaGreatDoorBare
import Derived.Deep.RegionWith
import Derived.Test.YtggiioipppbedaaGreatDoorBlenIs
import Derived.Test.YtggiioipppbedaaGreatDoorBitW
/-
  asked and wanted: a kind that is none (made by mkeask.py).
-/
namespace Go.Proofs.YtggiioipppbedaaGreatDoor
open Go Go.RowKit Go.Deep

set_option maxRecDepth 100000 in
set_option maxHeartbeats 4000000 in
theorem easked_other (kd : Int) (X Y I : Int) (pn : Bool) (pc pm px : Int) (neg : Bool) (p q : Option Addr) (n k cap cap' : Nat) (ex : Int) (more : Bool) (w : World) (hk : kd < 1 ∨ 18 < kd) :
    Calls Tryz.prog 8 #[opOf kd X Y I pn pc pm px neg (.slice p n cap) (.slice q k cap') ex more] w fun r w' => r = .returned (ansOf 0 0 0 false false 0 0 0 (.slice none 0 0) 0) ∧ Below w.heap.size w w' := by
  simp only [opOf, ansOf]
  have k1 : (kd == 1) = false := by rw [beq_eq_false_iff_ne]; omega
  have k2 : (kd == 2) = false := by rw [beq_eq_false_iff_ne]; omega
  have k3 : (kd == 3) = false := by rw [beq_eq_false_iff_ne]; omega
  have k4 : (kd == 4) = false := by rw [beq_eq_false_iff_ne]; omega
  have k5 : (kd == 5) = false := by rw [beq_eq_false_iff_ne]; omega
  have k6 : (kd == 6) = false := by rw [beq_eq_false_iff_ne]; omega
  have k7 : (kd == 7) = false := by rw [beq_eq_false_iff_ne]; omega
  have k8 : (kd == 8) = false := by rw [beq_eq_false_iff_ne]; omega
  have k9 : (kd == 9) = false := by rw [beq_eq_false_iff_ne]; omega
  have k10 : (kd == 10) = false := by rw [beq_eq_false_iff_ne]; omega
  have k11 : (kd == 11) = false := by rw [beq_eq_false_iff_ne]; omega
  have k12 : (kd == 12) = false := by rw [beq_eq_false_iff_ne]; omega
  have k13 : (kd == 13) = false := by rw [beq_eq_false_iff_ne]; omega
  have k14 : (kd == 14) = false := by rw [beq_eq_false_iff_ne]; omega
  have k15 : (kd == 15) = false := by rw [beq_eq_false_iff_ne]; omega
  have k16 : (kd == 16) = false := by rw [beq_eq_false_iff_ne]; omega
  have k17 : (kd == 17) = false := by rw [beq_eq_false_iff_ne]; omega
  have k18 : (kd == 18) = false := by rw [beq_eq_false_iff_ne]; omega
  clear hk
  go_enter Tryz.func8, Tryz.ntmps8
  go_wp2_with fail
  (try simp only [Exit.inBlock, Exit.then])
  refine bodyPost_ret (results_cell_row rfl _ _ (w.heap.size + 1) 34 _ (0, 0) _ rfl (heap_alloc3_mid _ _ _ _ _) Tryz.underlying34 rfl (by kernel_rfl)) rfl ?_
  exact ⟨rfl, alloc3_below _ _ _ _⟩

set_option maxRecDepth 100000 in
set_option maxHeartbeats 4000000 in
theorem ewanted_other (kd : Int) (X Y I : Int) (pn : Bool) (pc pm px : Int) (neg : Bool) (p q : Option Addr) (n k cap cap' : Nat) (ex : Int) (more : Bool) (w : World) (hk : kd < 1 ∨ 18 < kd) :
    Calls Tryz.prog 7 #[opOf kd X Y I pn pc pm px neg (.slice p n cap) (.slice q k cap') ex more] w fun r w' => r = .returned (ansOf 0 0 0 false false 0 0 0 (.slice none 0 0) 0) ∧ Below w.heap.size w w' := by
  simp only [opOf, ansOf]
  have k1 : (kd == 1) = false := by rw [beq_eq_false_iff_ne]; omega
  have k2 : (kd == 2) = false := by rw [beq_eq_false_iff_ne]; omega
  have k3 : (kd == 3) = false := by rw [beq_eq_false_iff_ne]; omega
  have k4 : (kd == 4) = false := by rw [beq_eq_false_iff_ne]; omega
  have k5 : (kd == 5) = false := by rw [beq_eq_false_iff_ne]; omega
  have k6 : (kd == 6) = false := by rw [beq_eq_false_iff_ne]; omega
  have k7 : (kd == 7) = false := by rw [beq_eq_false_iff_ne]; omega
  have k8 : (kd == 8) = false := by rw [beq_eq_false_iff_ne]; omega
  have k9 : (kd == 9) = false := by rw [beq_eq_false_iff_ne]; omega
  have k10 : (kd == 10) = false := by rw [beq_eq_false_iff_ne]; omega
  have k11 : (kd == 11) = false := by rw [beq_eq_false_iff_ne]; omega
  have k12 : (kd == 12) = false := by rw [beq_eq_false_iff_ne]; omega
  have k13 : (kd == 13) = false := by rw [beq_eq_false_iff_ne]; omega
  have k14 : (kd == 14) = false := by rw [beq_eq_false_iff_ne]; omega
  have k15 : (kd == 15) = false := by rw [beq_eq_false_iff_ne]; omega
  have k16 : (kd == 16) = false := by rw [beq_eq_false_iff_ne]; omega
  have k17 : (kd == 17) = false := by rw [beq_eq_false_iff_ne]; omega
  have k18 : (kd == 18) = false := by rw [beq_eq_false_iff_ne]; omega
  clear hk
  go_enter Tryz.func7, Tryz.ntmps7
  go_wp2_with fail
  (try simp only [Exit.inBlock, Exit.then])
  refine bodyPost_ret (results_cell_row rfl _ _ (w.heap.size + 1) 34 _ (0, 0) _ rfl (heap_alloc3_mid _ _ _ _ _) Tryz.underlying34 rfl (by kernel_rfl)) rfl ?_
  exact ⟨rfl, alloc3_below _ _ _ _⟩

end Go.Proofs.YtggiioipppbedaaGreatDoor

/-
  The document's Encode (made by mkzenc.py).
-/
namespace Go.Proofs.YtggiioipppbedaaGreatDoor
open Go Go.RowKit Go.Deep

theorem Ie.dec_range (d : Int) : (0 ≤ Ie.cls d ∧ Ie.cls d ≤ 4) ∧ Ie.dm d < 9007199254740992 ∧ -1074 ≤ Ie.de d ∧ Ie.de d ≤ 971 := by
  rcases Ie.dec_kinds d _ rfl with ⟨c, m, x, k1⟩ | ⟨c, m, x, k1, k2⟩ | ⟨c, m, x, k1, k2⟩ | ⟨c, m, x, k1⟩ | ⟨c, m, x, k1, k2⟩
  · rw [c, m, x]; omega
  · rw [c, m, x]; omega
  · rw [c, m, x, Ie.man, if_neg (by omega), Ie.ex]; omega
  · rw [c, m, x]; omega
  · rw [c, m, x]; omega

theorem enc_out {neg : Bool} {c m e : Int} (h : c < 0 ∨ 4 < c ∨ 9007199254740992 ≤ m ∨ e < -1074 ∨ 971 < e) : EncIs neg c m e 0 40 := by
  refine .inr ⟨fun d _ _ k => ?_, rfl, rfl⟩
  have := Ie.dec_range d
  rw [k.2.1, k.2.2.1, k.2.2.2] at this
  omega

set_option maxRecDepth 100000 in
set_option maxHeartbeats 8000000 in
theorem zencode_out (neg : Bool) (c m x : Int) (w : World) (h : c < 0 ∨ 4 < c ∨ 9007199254740992 ≤ m ∨ x < -1074 ∨ 971 < x) :
    Calls Tryz.prog 15 #[partsOf neg c m x] w fun e w' => e = .returned (.tuple #[.int .u64 0, .int .i64 40]) ∧ Below w.heap.size w w' := by
  simp only [partsOf]
  by_cases g1 : c < 0
  · clear h
    go_enter Tryz.func15, Tryz.ntmps15
    go_wp2_with fail
    go_ret2
    exact ⟨rfl, alloc_below _ _⟩
  by_cases g2 : 4 < c
  · clear h
    go_enter Tryz.func15, Tryz.ntmps15
    go_wp2_with fail
    go_ret2
    exact ⟨rfl, alloc_below _ _⟩
  by_cases g3 : 9007199254740992 ≤ m
  · clear h
    go_enter Tryz.func15, Tryz.ntmps15
    go_wp2_with fail
    go_ret2
    exact ⟨rfl, alloc_below _ _⟩
  by_cases g4 : x < -1074
  · clear h
    go_enter Tryz.func15, Tryz.ntmps15
    go_wp2_with fail
    go_ret2
    exact ⟨rfl, alloc_below _ _⟩
  have g5 : 971 < x := by omega
  clear h
  go_enter Tryz.func15, Tryz.ntmps15
  go_wp2_with fail
  go_ret2
  exact ⟨rfl, alloc_below _ _⟩

set_option maxRecDepth 100000 in
set_option maxHeartbeats 8000000 in
theorem zencode_in0 (neg : Bool) (m x : Int) (w : World) (m0 : 0 ≤ m) (m1 : m < 9007199254740992) (x0 : -1074 ≤ x) (x1 : x ≤ 971) :
    Calls Tryz.prog 15 #[partsOf neg 0 m x] w fun e w' => ∃ d err, e = .returned (.tuple #[.int .u64 d, .int .i64 err]) ∧ EncIs neg 0 m x d err ∧ Below w.heap.size w w' := by
  obtain ⟨j0, j1, js⟩ := Ie.jn_bd neg 0 m x
  have hf : Ie.jf 0 x = 0 := by rw [Ie.jf]; rw [if_neg (by decide), if_neg (by decide)]
  have y0 : 0 ≤ m % 4503599627370496 ∧ m % 4503599627370496 < 4503599627370496 := by omega
  have PU : Hid (∀ (wx : World), Calls Tryz.prog 53 #[.bool neg, .int .i64 (0), .int .u64 (m % 4503599627370496)] wx fun r w' => r = .returned (.int .u64 (Ie.jn neg 0 m x)) ∧ w' = wx) := by
    intro wx
    have := zput_any neg (0) (m % 4503599627370496) wx (by omega) (by omega) (by omega) (by omega) (by omega)
    rw [Ie.jn, hf, Int.add_comm (m % 4503599627370496)]
    exact this
  have DE := hid (fun (wx : World) => zdecode_any (Ie.jn neg 0 m x) wx j0 j1)
  rw [js] at DE
  have YES : Hid ((Ie.cls (Ie.jn neg 0 m x) = 0 ∧ Ie.dm (Ie.jn neg 0 m x) = m ∧ Ie.de (Ie.jn neg 0 m x) = x) → EncIs neg 0 m x (Ie.jn neg 0 m x) 0) := fun k => .inl ⟨⟨j0, j1⟩, ⟨js, k⟩, rfl⟩
  have NO := hid (fun h => enc_no (neg := neg) (c := 0) (m := m) (e := x) h)
  generalize Ie.jn neg 0 m x = d at *
  generalize Ie.cls d = c' at *
  generalize Ie.dm d = m' at *
  generalize Ie.de d = x' at *
  simp only [partsOf] at *
  have AL : Hid (∀ (g g' : Obj) (w1 : World), g = .cells #[.bool neg, .int .i64 0, .int .u64 m, .int .i64 x] 27 → Below (w.alloc g).heap.size (w.alloc g) w1 → Below w.heap.size w (w1.alloc g') ∧ (w1.alloc g').cell? ⟨w.heap.size, 0, none⟩ = some (.bool neg) ∧ (w1.alloc g').cell? ⟨w.heap.size, 1, none⟩ = some (.int .i64 0) ∧ (w1.alloc g').cell? ⟨w.heap.size, 2, none⟩ = some (.int .u64 m) ∧ (w1.alloc g').cell? ⟨w.heap.size, 3, none⟩ = some (.int .i64 x)) := by
    intro g g' w1 hg hB
    subst hg
    have hb := alloc_below w (.cells #[.bool neg, .int .i64 0, .int .u64 m, .int .i64 x] 27)
    have hb2 := hb.trans (hB.mono hb.size)
    have hg := heap_alloc_new w (.cells #[.bool neg, .int .i64 0, .int .u64 m, .int .i64 x] 27)
    have hg1 : w1.heap[w.heap.size]? = some (.cells #[.bool neg, .int .i64 0, .int .u64 m, .int .i64 x] 27 (0, 0)) := by rw [hB.block _ (by simp)]; exact hg
    have lt : w.heap.size < w1.heap.size := by have := hB.size; simp at this; omega
    have hg2 : (w1.alloc g').heap[w.heap.size]? = some (.cells #[.bool neg, .int .i64 0, .int .u64 m, .int .i64 x] 27 (0, 0)) := by rw [heap_alloc_old w1 g' lt]; exact hg1
    refine ⟨Below.alloc hb2 hb2.size g', ?_, ?_, ?_, ?_⟩ <;> simp only [World.cell?, hg2] <;> rfl
  have four : (c' = 0 ∧ m' = m ∧ x' = x) ∨ (c' == 0) = false ∨ (c' = 0 ∧ (m' == m) = false) ∨ (c' = 0 ∧ m' = m ∧ (x' == x) = false) := by
    by_cases a : c' = 0
    · by_cases b : m' = m
      · by_cases d : x' = x
        · exact .inl ⟨a, b, d⟩
        · exact .inr (.inr (.inr ⟨a, b, by rw [beq_eq_false_iff_ne]; exact d⟩))
      · exact .inr (.inr (.inl ⟨a, by rw [beq_eq_false_iff_ne]; exact b⟩))
    · exact .inr (.inl (by rw [beq_eq_false_iff_ne]; exact a))
  clear j0 j1 js hf
  rcases four with ⟨k1, k2, k3⟩ | k1 | ⟨k1, k2⟩ | ⟨k1, k2, k3⟩
  · have EE := hid (YES.out ⟨k1, k2, k3⟩)
    clear YES NO
    subst k1
    subst k2
    subst k3
    go_enter Tryz.func15, Tryz.ntmps15
    go_wp2_with fail
    refine (PU.out _).mono ?_
    rintro e w0 ⟨rfl, hw0⟩
    subst hw0
    go_wp2_with fail
    refine (DE.out _).mono ?_
    rintro e w1 ⟨rfl, hB⟩
    obtain ⟨hB1, c0, c1, c2, c3⟩ := AL.out _ (.cells #[.bool neg, .int .i64 0, .int .u64 m', .int .i64 x'] 27) _ rfl hB
    have HB1 := hid hB1
    clear hB hB1 AL DE PU
    go_wp2_with fail
    go_ret2
    exact ⟨_, _, rfl, EE.out, HB1.out⟩
  · have EE := hid (NO.out (fun h => by rw [h.1] at k1; simp at k1))
    clear YES NO
    have k1n : ¬ c' = 0 := by rw [beq_eq_false_iff_ne] at k1; exact k1
    go_enter Tryz.func15, Tryz.ntmps15
    go_wp2_with fail
    refine (PU.out _).mono ?_
    rintro e w0 ⟨rfl, hw0⟩
    subst hw0
    go_wp2_with fail
    refine (DE.out _).mono ?_
    rintro e w1 ⟨rfl, hB⟩
    obtain ⟨hB1, c0, c1, c2, c3⟩ := AL.out _ (.cells #[.bool neg, .int .i64 c', .int .u64 m', .int .i64 x'] 27) _ rfl hB
    have HB1 := hid hB1
    clear hB hB1 AL DE PU
    go_wp2_with fail
    go_ret2
    exact ⟨_, _, rfl, EE.out, HB1.out⟩
  · have EE := hid (NO.out (fun h => by rw [h.2.1] at k2; simp at k2))
    clear YES NO
    subst k1
    have k2n : ¬ m' = m := by rw [beq_eq_false_iff_ne] at k2; exact k2
    go_enter Tryz.func15, Tryz.ntmps15
    go_wp2_with fail
    refine (PU.out _).mono ?_
    rintro e w0 ⟨rfl, hw0⟩
    subst hw0
    go_wp2_with fail
    refine (DE.out _).mono ?_
    rintro e w1 ⟨rfl, hB⟩
    obtain ⟨hB1, c0, c1, c2, c3⟩ := AL.out _ (.cells #[.bool neg, .int .i64 0, .int .u64 m', .int .i64 x'] 27) _ rfl hB
    have HB1 := hid hB1
    clear hB hB1 AL DE PU
    go_wp2_with fail
    go_ret2
    exact ⟨_, _, rfl, EE.out, HB1.out⟩
  · have EE := hid (NO.out (fun h => by rw [h.2.2] at k3; simp at k3))
    clear YES NO
    subst k1
    subst k2
    have k3n : ¬ x' = x := by rw [beq_eq_false_iff_ne] at k3; exact k3
    go_enter Tryz.func15, Tryz.ntmps15
    go_wp2_with fail
    refine (PU.out _).mono ?_
    rintro e w0 ⟨rfl, hw0⟩
    subst hw0
    go_wp2_with fail
    refine (DE.out _).mono ?_
    rintro e w1 ⟨rfl, hB⟩
    obtain ⟨hB1, c0, c1, c2, c3⟩ := AL.out _ (.cells #[.bool neg, .int .i64 0, .int .u64 m', .int .i64 x'] 27) _ rfl hB
    have HB1 := hid hB1
    clear hB hB1 AL DE PU
    go_wp2_with fail
    go_ret2
    exact ⟨_, _, rfl, EE.out, HB1.out⟩

set_option maxRecDepth 100000 in
set_option maxHeartbeats 8000000 in
theorem zencode_in1 (neg : Bool) (m x : Int) (w : World) (m0 : 0 ≤ m) (m1 : m < 9007199254740992) (x0 : -1074 ≤ x) (x1 : x ≤ 971) :
    Calls Tryz.prog 15 #[partsOf neg 1 m x] w fun e w' => ∃ d err, e = .returned (.tuple #[.int .u64 d, .int .i64 err]) ∧ EncIs neg 1 m x d err ∧ Below w.heap.size w w' := by
  obtain ⟨j0, j1, js⟩ := Ie.jn_bd neg 1 m x
  have hf : Ie.jf 1 x = 0 := by rw [Ie.jf]; rw [if_neg (by decide), if_neg (by decide)]
  have y0 : 0 ≤ m % 4503599627370496 ∧ m % 4503599627370496 < 4503599627370496 := by omega
  have PU : Hid (∀ (wx : World), Calls Tryz.prog 53 #[.bool neg, .int .i64 (0), .int .u64 (m % 4503599627370496)] wx fun r w' => r = .returned (.int .u64 (Ie.jn neg 1 m x)) ∧ w' = wx) := by
    intro wx
    have := zput_any neg (0) (m % 4503599627370496) wx (by omega) (by omega) (by omega) (by omega) (by omega)
    rw [Ie.jn, hf, Int.add_comm (m % 4503599627370496)]
    exact this
  have DE := hid (fun (wx : World) => zdecode_any (Ie.jn neg 1 m x) wx j0 j1)
  rw [js] at DE
  have YES : Hid ((Ie.cls (Ie.jn neg 1 m x) = 1 ∧ Ie.dm (Ie.jn neg 1 m x) = m ∧ Ie.de (Ie.jn neg 1 m x) = x) → EncIs neg 1 m x (Ie.jn neg 1 m x) 0) := fun k => .inl ⟨⟨j0, j1⟩, ⟨js, k⟩, rfl⟩
  have NO := hid (fun h => enc_no (neg := neg) (c := 1) (m := m) (e := x) h)
  generalize Ie.jn neg 1 m x = d at *
  generalize Ie.cls d = c' at *
  generalize Ie.dm d = m' at *
  generalize Ie.de d = x' at *
  simp only [partsOf] at *
  have AL : Hid (∀ (g g' : Obj) (w1 : World), g = .cells #[.bool neg, .int .i64 1, .int .u64 m, .int .i64 x] 27 → Below (w.alloc g).heap.size (w.alloc g) w1 → Below w.heap.size w (w1.alloc g') ∧ (w1.alloc g').cell? ⟨w.heap.size, 0, none⟩ = some (.bool neg) ∧ (w1.alloc g').cell? ⟨w.heap.size, 1, none⟩ = some (.int .i64 1) ∧ (w1.alloc g').cell? ⟨w.heap.size, 2, none⟩ = some (.int .u64 m) ∧ (w1.alloc g').cell? ⟨w.heap.size, 3, none⟩ = some (.int .i64 x)) := by
    intro g g' w1 hg hB
    subst hg
    have hb := alloc_below w (.cells #[.bool neg, .int .i64 1, .int .u64 m, .int .i64 x] 27)
    have hb2 := hb.trans (hB.mono hb.size)
    have hg := heap_alloc_new w (.cells #[.bool neg, .int .i64 1, .int .u64 m, .int .i64 x] 27)
    have hg1 : w1.heap[w.heap.size]? = some (.cells #[.bool neg, .int .i64 1, .int .u64 m, .int .i64 x] 27 (0, 0)) := by rw [hB.block _ (by simp)]; exact hg
    have lt : w.heap.size < w1.heap.size := by have := hB.size; simp at this; omega
    have hg2 : (w1.alloc g').heap[w.heap.size]? = some (.cells #[.bool neg, .int .i64 1, .int .u64 m, .int .i64 x] 27 (0, 0)) := by rw [heap_alloc_old w1 g' lt]; exact hg1
    refine ⟨Below.alloc hb2 hb2.size g', ?_, ?_, ?_, ?_⟩ <;> simp only [World.cell?, hg2] <;> rfl
  have four : (c' = 1 ∧ m' = m ∧ x' = x) ∨ (c' == 1) = false ∨ (c' = 1 ∧ (m' == m) = false) ∨ (c' = 1 ∧ m' = m ∧ (x' == x) = false) := by
    by_cases a : c' = 1
    · by_cases b : m' = m
      · by_cases d : x' = x
        · exact .inl ⟨a, b, d⟩
        · exact .inr (.inr (.inr ⟨a, b, by rw [beq_eq_false_iff_ne]; exact d⟩))
      · exact .inr (.inr (.inl ⟨a, by rw [beq_eq_false_iff_ne]; exact b⟩))
    · exact .inr (.inl (by rw [beq_eq_false_iff_ne]; exact a))
  clear j0 j1 js hf
  rcases four with ⟨k1, k2, k3⟩ | k1 | ⟨k1, k2⟩ | ⟨k1, k2, k3⟩
  · have EE := hid (YES.out ⟨k1, k2, k3⟩)
    clear YES NO
    subst k1
    subst k2
    subst k3
    go_enter Tryz.func15, Tryz.ntmps15
    go_wp2_with fail
    refine (PU.out _).mono ?_
    rintro e w0 ⟨rfl, hw0⟩
    subst hw0
    go_wp2_with fail
    refine (DE.out _).mono ?_
    rintro e w1 ⟨rfl, hB⟩
    obtain ⟨hB1, c0, c1, c2, c3⟩ := AL.out _ (.cells #[.bool neg, .int .i64 1, .int .u64 m', .int .i64 x'] 27) _ rfl hB
    have HB1 := hid hB1
    clear hB hB1 AL DE PU
    go_wp2_with fail
    go_ret2
    exact ⟨_, _, rfl, EE.out, HB1.out⟩
  · have EE := hid (NO.out (fun h => by rw [h.1] at k1; simp at k1))
    clear YES NO
    have k1n : ¬ c' = 1 := by rw [beq_eq_false_iff_ne] at k1; exact k1
    go_enter Tryz.func15, Tryz.ntmps15
    go_wp2_with fail
    refine (PU.out _).mono ?_
    rintro e w0 ⟨rfl, hw0⟩
    subst hw0
    go_wp2_with fail
    refine (DE.out _).mono ?_
    rintro e w1 ⟨rfl, hB⟩
    obtain ⟨hB1, c0, c1, c2, c3⟩ := AL.out _ (.cells #[.bool neg, .int .i64 c', .int .u64 m', .int .i64 x'] 27) _ rfl hB
    have HB1 := hid hB1
    clear hB hB1 AL DE PU
    go_wp2_with fail
    go_ret2
    exact ⟨_, _, rfl, EE.out, HB1.out⟩
  · have EE := hid (NO.out (fun h => by rw [h.2.1] at k2; simp at k2))
    clear YES NO
    subst k1
    have k2n : ¬ m' = m := by rw [beq_eq_false_iff_ne] at k2; exact k2
    go_enter Tryz.func15, Tryz.ntmps15
    go_wp2_with fail
    refine (PU.out _).mono ?_
    rintro e w0 ⟨rfl, hw0⟩
    subst hw0
    go_wp2_with fail
    refine (DE.out _).mono ?_
    rintro e w1 ⟨rfl, hB⟩
    obtain ⟨hB1, c0, c1, c2, c3⟩ := AL.out _ (.cells #[.bool neg, .int .i64 1, .int .u64 m', .int .i64 x'] 27) _ rfl hB
    have HB1 := hid hB1
    clear hB hB1 AL DE PU
    go_wp2_with fail
    go_ret2
    exact ⟨_, _, rfl, EE.out, HB1.out⟩
  · have EE := hid (NO.out (fun h => by rw [h.2.2] at k3; simp at k3))
    clear YES NO
    subst k1
    subst k2
    have k3n : ¬ x' = x := by rw [beq_eq_false_iff_ne] at k3; exact k3
    go_enter Tryz.func15, Tryz.ntmps15
    go_wp2_with fail
    refine (PU.out _).mono ?_
    rintro e w0 ⟨rfl, hw0⟩
    subst hw0
    go_wp2_with fail
    refine (DE.out _).mono ?_
    rintro e w1 ⟨rfl, hB⟩
    obtain ⟨hB1, c0, c1, c2, c3⟩ := AL.out _ (.cells #[.bool neg, .int .i64 1, .int .u64 m', .int .i64 x'] 27) _ rfl hB
    have HB1 := hid hB1
    clear hB hB1 AL DE PU
    go_wp2_with fail
    go_ret2
    exact ⟨_, _, rfl, EE.out, HB1.out⟩

set_option maxRecDepth 100000 in
set_option maxHeartbeats 8000000 in
theorem zencode_in2 (neg : Bool) (m x : Int) (w : World) (m0 : 0 ≤ m) (m1 : m < 9007199254740992) (x0 : -1074 ≤ x) (x1 : x ≤ 971) :
    Calls Tryz.prog 15 #[partsOf neg 2 m x] w fun e w' => ∃ d err, e = .returned (.tuple #[.int .u64 d, .int .i64 err]) ∧ EncIs neg 2 m x d err ∧ Below w.heap.size w w' := by
  obtain ⟨j0, j1, js⟩ := Ie.jn_bd neg 2 m x
  have hf : Ie.jf 2 x = x + 1075 := by rw [Ie.jf]; rw [if_pos rfl]; omega
  have y0 : 0 ≤ m % 4503599627370496 ∧ m % 4503599627370496 < 4503599627370496 := by omega
  have PU : Hid (∀ (wx : World), Calls Tryz.prog 53 #[.bool neg, .int .i64 (x + 1075), .int .u64 (m % 4503599627370496)] wx fun r w' => r = .returned (.int .u64 (Ie.jn neg 2 m x)) ∧ w' = wx) := by
    intro wx
    have := zput_any neg (x + 1075) (m % 4503599627370496) wx (by omega) (by omega) (by omega) (by omega) (by omega)
    rw [Ie.jn, hf, Int.add_comm (m % 4503599627370496)]
    exact this
  have DE := hid (fun (wx : World) => zdecode_any (Ie.jn neg 2 m x) wx j0 j1)
  rw [js] at DE
  have YES : Hid ((Ie.cls (Ie.jn neg 2 m x) = 2 ∧ Ie.dm (Ie.jn neg 2 m x) = m ∧ Ie.de (Ie.jn neg 2 m x) = x) → EncIs neg 2 m x (Ie.jn neg 2 m x) 0) := fun k => .inl ⟨⟨j0, j1⟩, ⟨js, k⟩, rfl⟩
  have NO := hid (fun h => enc_no (neg := neg) (c := 2) (m := m) (e := x) h)
  generalize Ie.jn neg 2 m x = d at *
  generalize Ie.cls d = c' at *
  generalize Ie.dm d = m' at *
  generalize Ie.de d = x' at *
  simp only [partsOf] at *
  have AL : Hid (∀ (g g' : Obj) (w1 : World), g = .cells #[.bool neg, .int .i64 2, .int .u64 m, .int .i64 x] 27 → Below (w.alloc g).heap.size (w.alloc g) w1 → Below w.heap.size w (w1.alloc g') ∧ (w1.alloc g').cell? ⟨w.heap.size, 0, none⟩ = some (.bool neg) ∧ (w1.alloc g').cell? ⟨w.heap.size, 1, none⟩ = some (.int .i64 2) ∧ (w1.alloc g').cell? ⟨w.heap.size, 2, none⟩ = some (.int .u64 m) ∧ (w1.alloc g').cell? ⟨w.heap.size, 3, none⟩ = some (.int .i64 x)) := by
    intro g g' w1 hg hB
    subst hg
    have hb := alloc_below w (.cells #[.bool neg, .int .i64 2, .int .u64 m, .int .i64 x] 27)
    have hb2 := hb.trans (hB.mono hb.size)
    have hg := heap_alloc_new w (.cells #[.bool neg, .int .i64 2, .int .u64 m, .int .i64 x] 27)
    have hg1 : w1.heap[w.heap.size]? = some (.cells #[.bool neg, .int .i64 2, .int .u64 m, .int .i64 x] 27 (0, 0)) := by rw [hB.block _ (by simp)]; exact hg
    have lt : w.heap.size < w1.heap.size := by have := hB.size; simp at this; omega
    have hg2 : (w1.alloc g').heap[w.heap.size]? = some (.cells #[.bool neg, .int .i64 2, .int .u64 m, .int .i64 x] 27 (0, 0)) := by rw [heap_alloc_old w1 g' lt]; exact hg1
    refine ⟨Below.alloc hb2 hb2.size g', ?_, ?_, ?_, ?_⟩ <;> simp only [World.cell?, hg2] <;> rfl
  have four : (c' = 2 ∧ m' = m ∧ x' = x) ∨ (c' == 2) = false ∨ (c' = 2 ∧ (m' == m) = false) ∨ (c' = 2 ∧ m' = m ∧ (x' == x) = false) := by
    by_cases a : c' = 2
    · by_cases b : m' = m
      · by_cases d : x' = x
        · exact .inl ⟨a, b, d⟩
        · exact .inr (.inr (.inr ⟨a, b, by rw [beq_eq_false_iff_ne]; exact d⟩))
      · exact .inr (.inr (.inl ⟨a, by rw [beq_eq_false_iff_ne]; exact b⟩))
    · exact .inr (.inl (by rw [beq_eq_false_iff_ne]; exact a))
  clear j0 j1 js hf
  rcases four with ⟨k1, k2, k3⟩ | k1 | ⟨k1, k2⟩ | ⟨k1, k2, k3⟩
  · have EE := hid (YES.out ⟨k1, k2, k3⟩)
    clear YES NO
    subst k1
    subst k2
    subst k3
    go_enter Tryz.func15, Tryz.ntmps15
    go_wp2_with fail
    refine (PU.out _).mono ?_
    rintro e w0 ⟨rfl, hw0⟩
    subst hw0
    go_wp2_with fail
    refine (DE.out _).mono ?_
    rintro e w1 ⟨rfl, hB⟩
    obtain ⟨hB1, c0, c1, c2, c3⟩ := AL.out _ (.cells #[.bool neg, .int .i64 2, .int .u64 m', .int .i64 x'] 27) _ rfl hB
    have HB1 := hid hB1
    clear hB hB1 AL DE PU
    go_wp2_with fail
    go_ret2
    exact ⟨_, _, rfl, EE.out, HB1.out⟩
  · have EE := hid (NO.out (fun h => by rw [h.1] at k1; simp at k1))
    clear YES NO
    have k1n : ¬ c' = 2 := by rw [beq_eq_false_iff_ne] at k1; exact k1
    go_enter Tryz.func15, Tryz.ntmps15
    go_wp2_with fail
    refine (PU.out _).mono ?_
    rintro e w0 ⟨rfl, hw0⟩
    subst hw0
    go_wp2_with fail
    refine (DE.out _).mono ?_
    rintro e w1 ⟨rfl, hB⟩
    obtain ⟨hB1, c0, c1, c2, c3⟩ := AL.out _ (.cells #[.bool neg, .int .i64 c', .int .u64 m', .int .i64 x'] 27) _ rfl hB
    have HB1 := hid hB1
    clear hB hB1 AL DE PU
    go_wp2_with fail
    go_ret2
    exact ⟨_, _, rfl, EE.out, HB1.out⟩
  · have EE := hid (NO.out (fun h => by rw [h.2.1] at k2; simp at k2))
    clear YES NO
    subst k1
    have k2n : ¬ m' = m := by rw [beq_eq_false_iff_ne] at k2; exact k2
    go_enter Tryz.func15, Tryz.ntmps15
    go_wp2_with fail
    refine (PU.out _).mono ?_
    rintro e w0 ⟨rfl, hw0⟩
    subst hw0
    go_wp2_with fail
    refine (DE.out _).mono ?_
    rintro e w1 ⟨rfl, hB⟩
    obtain ⟨hB1, c0, c1, c2, c3⟩ := AL.out _ (.cells #[.bool neg, .int .i64 2, .int .u64 m', .int .i64 x'] 27) _ rfl hB
    have HB1 := hid hB1
    clear hB hB1 AL DE PU
    go_wp2_with fail
    go_ret2
    exact ⟨_, _, rfl, EE.out, HB1.out⟩
  · have EE := hid (NO.out (fun h => by rw [h.2.2] at k3; simp at k3))
    clear YES NO
    subst k1
    subst k2
    have k3n : ¬ x' = x := by rw [beq_eq_false_iff_ne] at k3; exact k3
    go_enter Tryz.func15, Tryz.ntmps15
    go_wp2_with fail
    refine (PU.out _).mono ?_
    rintro e w0 ⟨rfl, hw0⟩
    subst hw0
    go_wp2_with fail
    refine (DE.out _).mono ?_
    rintro e w1 ⟨rfl, hB⟩
    obtain ⟨hB1, c0, c1, c2, c3⟩ := AL.out _ (.cells #[.bool neg, .int .i64 2, .int .u64 m', .int .i64 x'] 27) _ rfl hB
    have HB1 := hid hB1
    clear hB hB1 AL DE PU
    go_wp2_with fail
    go_ret2
    exact ⟨_, _, rfl, EE.out, HB1.out⟩
end Go.Proofs.YtggiioipppbedaaGreatDoor

/-
  The document's Encode, the rest (made by mkzenc.py).
-/
namespace Go.Proofs.YtggiioipppbedaaGreatDoor
open Go Go.RowKit Go.Deep

set_option maxRecDepth 100000 in
set_option maxHeartbeats 8000000 in
theorem zencode_in3 (neg : Bool) (m x : Int) (w : World) (m0 : 0 ≤ m) (m1 : m < 9007199254740992) (x0 : -1074 ≤ x) (x1 : x ≤ 971) :
    Calls Tryz.prog 15 #[partsOf neg 3 m x] w fun e w' => ∃ d err, e = .returned (.tuple #[.int .u64 d, .int .i64 err]) ∧ EncIs neg 3 m x d err ∧ Below w.heap.size w w' := by
  obtain ⟨j0, j1, js⟩ := Ie.jn_bd neg 3 m x
  have hf : Ie.jf 3 x = 2047 := by rw [Ie.jf]; rw [if_neg (by decide), if_pos (by decide)]
  have y0 : 0 ≤ m % 4503599627370496 ∧ m % 4503599627370496 < 4503599627370496 := by omega
  have PU : Hid (∀ (wx : World), Calls Tryz.prog 53 #[.bool neg, .int .i64 (2047), .int .u64 (m % 4503599627370496)] wx fun r w' => r = .returned (.int .u64 (Ie.jn neg 3 m x)) ∧ w' = wx) := by
    intro wx
    have := zput_any neg (2047) (m % 4503599627370496) wx (by omega) (by omega) (by omega) (by omega) (by omega)
    rw [Ie.jn, hf, Int.add_comm (m % 4503599627370496)]
    exact this
  have DE := hid (fun (wx : World) => zdecode_any (Ie.jn neg 3 m x) wx j0 j1)
  rw [js] at DE
  have YES : Hid ((Ie.cls (Ie.jn neg 3 m x) = 3 ∧ Ie.dm (Ie.jn neg 3 m x) = m ∧ Ie.de (Ie.jn neg 3 m x) = x) → EncIs neg 3 m x (Ie.jn neg 3 m x) 0) := fun k => .inl ⟨⟨j0, j1⟩, ⟨js, k⟩, rfl⟩
  have NO := hid (fun h => enc_no (neg := neg) (c := 3) (m := m) (e := x) h)
  generalize Ie.jn neg 3 m x = d at *
  generalize Ie.cls d = c' at *
  generalize Ie.dm d = m' at *
  generalize Ie.de d = x' at *
  simp only [partsOf] at *
  have AL : Hid (∀ (g g' : Obj) (w1 : World), g = .cells #[.bool neg, .int .i64 3, .int .u64 m, .int .i64 x] 27 → Below (w.alloc g).heap.size (w.alloc g) w1 → Below w.heap.size w (w1.alloc g') ∧ (w1.alloc g').cell? ⟨w.heap.size, 0, none⟩ = some (.bool neg) ∧ (w1.alloc g').cell? ⟨w.heap.size, 1, none⟩ = some (.int .i64 3) ∧ (w1.alloc g').cell? ⟨w.heap.size, 2, none⟩ = some (.int .u64 m) ∧ (w1.alloc g').cell? ⟨w.heap.size, 3, none⟩ = some (.int .i64 x)) := by
    intro g g' w1 hg hB
    subst hg
    have hb := alloc_below w (.cells #[.bool neg, .int .i64 3, .int .u64 m, .int .i64 x] 27)
    have hb2 := hb.trans (hB.mono hb.size)
    have hg := heap_alloc_new w (.cells #[.bool neg, .int .i64 3, .int .u64 m, .int .i64 x] 27)
    have hg1 : w1.heap[w.heap.size]? = some (.cells #[.bool neg, .int .i64 3, .int .u64 m, .int .i64 x] 27 (0, 0)) := by rw [hB.block _ (by simp)]; exact hg
    have lt : w.heap.size < w1.heap.size := by have := hB.size; simp at this; omega
    have hg2 : (w1.alloc g').heap[w.heap.size]? = some (.cells #[.bool neg, .int .i64 3, .int .u64 m, .int .i64 x] 27 (0, 0)) := by rw [heap_alloc_old w1 g' lt]; exact hg1
    refine ⟨Below.alloc hb2 hb2.size g', ?_, ?_, ?_, ?_⟩ <;> simp only [World.cell?, hg2] <;> rfl
  have four : (c' = 3 ∧ m' = m ∧ x' = x) ∨ (c' == 3) = false ∨ (c' = 3 ∧ (m' == m) = false) ∨ (c' = 3 ∧ m' = m ∧ (x' == x) = false) := by
    by_cases a : c' = 3
    · by_cases b : m' = m
      · by_cases d : x' = x
        · exact .inl ⟨a, b, d⟩
        · exact .inr (.inr (.inr ⟨a, b, by rw [beq_eq_false_iff_ne]; exact d⟩))
      · exact .inr (.inr (.inl ⟨a, by rw [beq_eq_false_iff_ne]; exact b⟩))
    · exact .inr (.inl (by rw [beq_eq_false_iff_ne]; exact a))
  clear j0 j1 js hf
  rcases four with ⟨k1, k2, k3⟩ | k1 | ⟨k1, k2⟩ | ⟨k1, k2, k3⟩
  · have EE := hid (YES.out ⟨k1, k2, k3⟩)
    clear YES NO
    subst k1
    subst k2
    subst k3
    go_enter Tryz.func15, Tryz.ntmps15
    go_wp2_with fail
    refine (PU.out _).mono ?_
    rintro e w0 ⟨rfl, hw0⟩
    subst hw0
    go_wp2_with fail
    refine (DE.out _).mono ?_
    rintro e w1 ⟨rfl, hB⟩
    obtain ⟨hB1, c0, c1, c2, c3⟩ := AL.out _ (.cells #[.bool neg, .int .i64 3, .int .u64 m', .int .i64 x'] 27) _ rfl hB
    have HB1 := hid hB1
    clear hB hB1 AL DE PU
    go_wp2_with fail
    go_ret2
    exact ⟨_, _, rfl, EE.out, HB1.out⟩
  · have EE := hid (NO.out (fun h => by rw [h.1] at k1; simp at k1))
    clear YES NO
    have k1n : ¬ c' = 3 := by rw [beq_eq_false_iff_ne] at k1; exact k1
    go_enter Tryz.func15, Tryz.ntmps15
    go_wp2_with fail
    refine (PU.out _).mono ?_
    rintro e w0 ⟨rfl, hw0⟩
    subst hw0
    go_wp2_with fail
    refine (DE.out _).mono ?_
    rintro e w1 ⟨rfl, hB⟩
    obtain ⟨hB1, c0, c1, c2, c3⟩ := AL.out _ (.cells #[.bool neg, .int .i64 c', .int .u64 m', .int .i64 x'] 27) _ rfl hB
    have HB1 := hid hB1
    clear hB hB1 AL DE PU
    go_wp2_with fail
    go_ret2
    exact ⟨_, _, rfl, EE.out, HB1.out⟩
  · have EE := hid (NO.out (fun h => by rw [h.2.1] at k2; simp at k2))
    clear YES NO
    subst k1
    have k2n : ¬ m' = m := by rw [beq_eq_false_iff_ne] at k2; exact k2
    go_enter Tryz.func15, Tryz.ntmps15
    go_wp2_with fail
    refine (PU.out _).mono ?_
    rintro e w0 ⟨rfl, hw0⟩
    subst hw0
    go_wp2_with fail
    refine (DE.out _).mono ?_
    rintro e w1 ⟨rfl, hB⟩
    obtain ⟨hB1, c0, c1, c2, c3⟩ := AL.out _ (.cells #[.bool neg, .int .i64 3, .int .u64 m', .int .i64 x'] 27) _ rfl hB
    have HB1 := hid hB1
    clear hB hB1 AL DE PU
    go_wp2_with fail
    go_ret2
    exact ⟨_, _, rfl, EE.out, HB1.out⟩
  · have EE := hid (NO.out (fun h => by rw [h.2.2] at k3; simp at k3))
    clear YES NO
    subst k1
    subst k2
    have k3n : ¬ x' = x := by rw [beq_eq_false_iff_ne] at k3; exact k3
    go_enter Tryz.func15, Tryz.ntmps15
    go_wp2_with fail
    refine (PU.out _).mono ?_
    rintro e w0 ⟨rfl, hw0⟩
    subst hw0
    go_wp2_with fail
    refine (DE.out _).mono ?_
    rintro e w1 ⟨rfl, hB⟩
    obtain ⟨hB1, c0, c1, c2, c3⟩ := AL.out _ (.cells #[.bool neg, .int .i64 3, .int .u64 m', .int .i64 x'] 27) _ rfl hB
    have HB1 := hid hB1
    clear hB hB1 AL DE PU
    go_wp2_with fail
    go_ret2
    exact ⟨_, _, rfl, EE.out, HB1.out⟩

set_option maxRecDepth 100000 in
set_option maxHeartbeats 8000000 in
theorem zencode_in4 (neg : Bool) (m x : Int) (w : World) (m0 : 0 ≤ m) (m1 : m < 9007199254740992) (x0 : -1074 ≤ x) (x1 : x ≤ 971) :
    Calls Tryz.prog 15 #[partsOf neg 4 m x] w fun e w' => ∃ d err, e = .returned (.tuple #[.int .u64 d, .int .i64 err]) ∧ EncIs neg 4 m x d err ∧ Below w.heap.size w w' := by
  obtain ⟨j0, j1, js⟩ := Ie.jn_bd neg 4 m x
  have hf : Ie.jf 4 x = 2047 := by rw [Ie.jf]; rw [if_neg (by decide), if_pos (by decide)]
  have y0 : 0 ≤ m % 4503599627370496 ∧ m % 4503599627370496 < 4503599627370496 := by omega
  have PU : Hid (∀ (wx : World), Calls Tryz.prog 53 #[.bool neg, .int .i64 (2047), .int .u64 (m % 4503599627370496)] wx fun r w' => r = .returned (.int .u64 (Ie.jn neg 4 m x)) ∧ w' = wx) := by
    intro wx
    have := zput_any neg (2047) (m % 4503599627370496) wx (by omega) (by omega) (by omega) (by omega) (by omega)
    rw [Ie.jn, hf, Int.add_comm (m % 4503599627370496)]
    exact this
  have DE := hid (fun (wx : World) => zdecode_any (Ie.jn neg 4 m x) wx j0 j1)
  rw [js] at DE
  have YES : Hid ((Ie.cls (Ie.jn neg 4 m x) = 4 ∧ Ie.dm (Ie.jn neg 4 m x) = m ∧ Ie.de (Ie.jn neg 4 m x) = x) → EncIs neg 4 m x (Ie.jn neg 4 m x) 0) := fun k => .inl ⟨⟨j0, j1⟩, ⟨js, k⟩, rfl⟩
  have NO := hid (fun h => enc_no (neg := neg) (c := 4) (m := m) (e := x) h)
  generalize Ie.jn neg 4 m x = d at *
  generalize Ie.cls d = c' at *
  generalize Ie.dm d = m' at *
  generalize Ie.de d = x' at *
  simp only [partsOf] at *
  have AL : Hid (∀ (g g' : Obj) (w1 : World), g = .cells #[.bool neg, .int .i64 4, .int .u64 m, .int .i64 x] 27 → Below (w.alloc g).heap.size (w.alloc g) w1 → Below w.heap.size w (w1.alloc g') ∧ (w1.alloc g').cell? ⟨w.heap.size, 0, none⟩ = some (.bool neg) ∧ (w1.alloc g').cell? ⟨w.heap.size, 1, none⟩ = some (.int .i64 4) ∧ (w1.alloc g').cell? ⟨w.heap.size, 2, none⟩ = some (.int .u64 m) ∧ (w1.alloc g').cell? ⟨w.heap.size, 3, none⟩ = some (.int .i64 x)) := by
    intro g g' w1 hg hB
    subst hg
    have hb := alloc_below w (.cells #[.bool neg, .int .i64 4, .int .u64 m, .int .i64 x] 27)
    have hb2 := hb.trans (hB.mono hb.size)
    have hg := heap_alloc_new w (.cells #[.bool neg, .int .i64 4, .int .u64 m, .int .i64 x] 27)
    have hg1 : w1.heap[w.heap.size]? = some (.cells #[.bool neg, .int .i64 4, .int .u64 m, .int .i64 x] 27 (0, 0)) := by rw [hB.block _ (by simp)]; exact hg
    have lt : w.heap.size < w1.heap.size := by have := hB.size; simp at this; omega
    have hg2 : (w1.alloc g').heap[w.heap.size]? = some (.cells #[.bool neg, .int .i64 4, .int .u64 m, .int .i64 x] 27 (0, 0)) := by rw [heap_alloc_old w1 g' lt]; exact hg1
    refine ⟨Below.alloc hb2 hb2.size g', ?_, ?_, ?_, ?_⟩ <;> simp only [World.cell?, hg2] <;> rfl
  have four : (c' = 4 ∧ m' = m ∧ x' = x) ∨ (c' == 4) = false ∨ (c' = 4 ∧ (m' == m) = false) ∨ (c' = 4 ∧ m' = m ∧ (x' == x) = false) := by
    by_cases a : c' = 4
    · by_cases b : m' = m
      · by_cases d : x' = x
        · exact .inl ⟨a, b, d⟩
        · exact .inr (.inr (.inr ⟨a, b, by rw [beq_eq_false_iff_ne]; exact d⟩))
      · exact .inr (.inr (.inl ⟨a, by rw [beq_eq_false_iff_ne]; exact b⟩))
    · exact .inr (.inl (by rw [beq_eq_false_iff_ne]; exact a))
  clear j0 j1 js hf
  rcases four with ⟨k1, k2, k3⟩ | k1 | ⟨k1, k2⟩ | ⟨k1, k2, k3⟩
  · have EE := hid (YES.out ⟨k1, k2, k3⟩)
    clear YES NO
    subst k1
    subst k2
    subst k3
    go_enter Tryz.func15, Tryz.ntmps15
    go_wp2_with fail
    refine (PU.out _).mono ?_
    rintro e w0 ⟨rfl, hw0⟩
    subst hw0
    go_wp2_with fail
    refine (DE.out _).mono ?_
    rintro e w1 ⟨rfl, hB⟩
    obtain ⟨hB1, c0, c1, c2, c3⟩ := AL.out _ (.cells #[.bool neg, .int .i64 4, .int .u64 m', .int .i64 x'] 27) _ rfl hB
    have HB1 := hid hB1
    clear hB hB1 AL DE PU
    go_wp2_with fail
    go_ret2
    exact ⟨_, _, rfl, EE.out, HB1.out⟩
  · have EE := hid (NO.out (fun h => by rw [h.1] at k1; simp at k1))
    clear YES NO
    have k1n : ¬ c' = 4 := by rw [beq_eq_false_iff_ne] at k1; exact k1
    go_enter Tryz.func15, Tryz.ntmps15
    go_wp2_with fail
    refine (PU.out _).mono ?_
    rintro e w0 ⟨rfl, hw0⟩
    subst hw0
    go_wp2_with fail
    refine (DE.out _).mono ?_
    rintro e w1 ⟨rfl, hB⟩
    obtain ⟨hB1, c0, c1, c2, c3⟩ := AL.out _ (.cells #[.bool neg, .int .i64 c', .int .u64 m', .int .i64 x'] 27) _ rfl hB
    have HB1 := hid hB1
    clear hB hB1 AL DE PU
    go_wp2_with fail
    go_ret2
    exact ⟨_, _, rfl, EE.out, HB1.out⟩
  · have EE := hid (NO.out (fun h => by rw [h.2.1] at k2; simp at k2))
    clear YES NO
    subst k1
    have k2n : ¬ m' = m := by rw [beq_eq_false_iff_ne] at k2; exact k2
    go_enter Tryz.func15, Tryz.ntmps15
    go_wp2_with fail
    refine (PU.out _).mono ?_
    rintro e w0 ⟨rfl, hw0⟩
    subst hw0
    go_wp2_with fail
    refine (DE.out _).mono ?_
    rintro e w1 ⟨rfl, hB⟩
    obtain ⟨hB1, c0, c1, c2, c3⟩ := AL.out _ (.cells #[.bool neg, .int .i64 4, .int .u64 m', .int .i64 x'] 27) _ rfl hB
    have HB1 := hid hB1
    clear hB hB1 AL DE PU
    go_wp2_with fail
    go_ret2
    exact ⟨_, _, rfl, EE.out, HB1.out⟩
  · have EE := hid (NO.out (fun h => by rw [h.2.2] at k3; simp at k3))
    clear YES NO
    subst k1
    subst k2
    have k3n : ¬ x' = x := by rw [beq_eq_false_iff_ne] at k3; exact k3
    go_enter Tryz.func15, Tryz.ntmps15
    go_wp2_with fail
    refine (PU.out _).mono ?_
    rintro e w0 ⟨rfl, hw0⟩
    subst hw0
    go_wp2_with fail
    refine (DE.out _).mono ?_
    rintro e w1 ⟨rfl, hB⟩
    obtain ⟨hB1, c0, c1, c2, c3⟩ := AL.out _ (.cells #[.bool neg, .int .i64 4, .int .u64 m', .int .i64 x'] 27) _ rfl hB
    have HB1 := hid hB1
    clear hB hB1 AL DE PU
    go_wp2_with fail
    go_ret2
    exact ⟨_, _, rfl, EE.out, HB1.out⟩

theorem zencode_any (neg : Bool) (c m x : Int) (w : World) (m0 : 0 ≤ m) :
    Calls Tryz.prog 15 #[partsOf neg c m x] w fun e w' => ∃ d err, e = .returned (.tuple #[.int .u64 d, .int .i64 err]) ∧ EncIs neg c m x d err ∧ Below w.heap.size w w' := by
  by_cases h : c < 0 ∨ 4 < c ∨ 9007199254740992 ≤ m ∨ x < -1074 ∨ 971 < x
  · exact (zencode_out neg c m x w h).mono fun e w' k => ⟨0, 40, k.1, enc_out h, k.2⟩
  · have hc : c = 0 ∨ c = 1 ∨ c = 2 ∨ c = 3 ∨ c = 4 := by omega
    have m1 : m < 9007199254740992 := by omega
    have x0 : -1074 ≤ x := by omega
    have x1 : x ≤ 971 := by omega
    rcases hc with rfl | rfl | rfl | rfl | rfl
    · exact zencode_in0 neg m x w m0 m1 x0 x1
    · exact zencode_in1 neg m x w m0 m1 x0 x1
    · exact zencode_in2 neg m x w m0 m1 x0 x1
    · exact zencode_in3 neg m x w m0 m1 x0 x1
    · exact zencode_in4 neg m x w m0 m1 x0 x1

end Go.Proofs.YtggiioipppbedaaGreatDoor

namespace Go.Proofs.YtggiioipppbedaaGreatDoor
open Go.RowKit Go.Deep

theorem cmp_at3 {zs ys : List Int} (hz : Nm.Limbs zs) (hy : Nm.Limbs ys) (hl : (Nm.trim zs).length = (Nm.trim ys).length) (t : Nat) (ht : t < (Nm.trim zs).length) (he : ∀ i, t + 1 ≤ i → (Nm.trim zs).getD i 0 = (Nm.trim ys).getD i 0) {x y : Int}
    (hx : x = (Nm.trim zs).getD t 0) (hy' : y = (Nm.trim ys).getD t 0) : (x < y → cmpI (Nm.val zs) (Nm.val ys) = -1) ∧ (y < x → cmpI (Nm.val zs) (Nm.val ys) = 1) := by
  refine ⟨fun h => ?_, fun h => ?_⟩
  · rw [← cmp_at hz hy hl t ht he hx hy' (by omega)]
    simp [sgn]; omega
  · rw [← cmp_at hz hy hl t ht he hx hy' (by omega)]
    simp [sgn, h]

set_option maxRecDepth 100000 in
set_option maxHeartbeats 2000000 in
theorem refCmp_any (p q : Option Addr) (n cap m cap' : Nat) (zs ys : List Int) (w : World) (ha : Arg w p n cap zs) (hb : Arg w q m cap' ys) :
    Calls Tryz.prog 84 #[.slice p n cap, .slice q m cap'] w fun e w' => e = .returned (.int .i64 (cmpI (Nm.val zs) (Nm.val ys))) ∧ Below w.heap.size w w' := by
  obtain ⟨a1, a2, a3, a4, a5⟩ := ha
  obtain ⟨b1, b2, b3, b4, b5⟩ := hb
  have tl := Nm.tsize_le zs
  have tl' := Nm.tsize_le ys
  have S1 := hid (refSize_any p n cap zs w a1 (by omega) a4)
  have S2 := hid (refSize_any q m cap' ys w b1 (by omega) b4)
  by_cases h1 : Nm.tsize zs < Nm.tsize ys
  · have E := hid (cmpI_lt (val_lt_of_tsize a5 b5 h1))
    have h1' : (Nm.tsize zs : Int) < (Nm.tsize ys : Int) := by omega
    clear h1
    go_enter Tryz.func84, Tryz.ntmps84
    go_wp2_with fail
    refine S1.out.mono ?_
    rintro e w' ⟨rfl, rfl⟩
    go_wp2_with fail
    refine S2.out.mono ?_
    rintro e w' ⟨rfl, rfl⟩
    go_wp2
    go_ret
    exact ⟨ret_i64 E.out.symm, Below.refl _ _⟩
  by_cases h2 : Nm.tsize ys < Nm.tsize zs
  · have E := hid (cmpI_gt (val_lt_of_tsize b5 a5 h2))
    have h1' : ¬ (Nm.tsize zs : Int) < (Nm.tsize ys : Int) := by omega
    have h2' : (Nm.tsize ys : Int) < (Nm.tsize zs : Int) := by omega
    clear h1 h2
    go_enter Tryz.func84, Tryz.ntmps84
    go_wp2_with fail
    refine S1.out.mono ?_
    rintro e w' ⟨rfl, rfl⟩
    go_wp2_with fail
    refine S2.out.mono ?_
    rintro e w' ⟨rfl, rfl⟩
    go_wp2
    go_ret
    exact ⟨ret_i64 E.out.symm, Below.refl _ _⟩
  obtain ⟨N, HN⟩ : ∃ N, Hid (Nm.tsize zs = N) := ⟨_, rfl⟩
  have HN' : Hid (Nm.tsize ys = N) := by have := HN.out; exact (show Nm.tsize ys = N by omega)
  have T1 := S1.out
  have T2 := S2.out
  rw [HN.out] at T1
  rw [HN'.out] at T2
  have HT1 := hid T1
  have HT2 := hid T2
  have hN : N ≤ 17592186044000 := by have := HN.out; omega
  have L1 := hid (Nm.trim_length zs)
  have L2 := hid (Nm.trim_length ys)
  clear h1 h2 tl tl' T1 T2 S1 S2
  have FIN : Hid (Nm.trim zs = Nm.trim ys → cmpI (Nm.val zs) (Nm.val ys) = 0) := fun h => cmpI_eq (by rw [← Nm.val_trim zs, ← Nm.val_trim ys, h])
  by_cases h0 : N = 0
  · subst h0
    go_enter Tryz.func84, Tryz.ntmps84
    go_wp2_with fail
    refine HT1.out.mono ?_
    rintro e w' ⟨rfl, rfl⟩
    go_wp2_with fail
    refine HT2.out.mono ?_
    rintro e w' ⟨rfl, rfl⟩
    go_wp2_with fail
    refine wp_loop_rounds 1 ?_
    rw [rounds_succ]
    go_wp2
    go_ret
    exact ⟨ret_i64 (FIN.out (by rw [List.eq_nil_of_length_eq_zero (L1.out.trans HN.out), List.eq_nil_of_length_eq_zero (L2.out.trans HN'.out)])).symm, Below.refl _ _⟩
  · obtain ⟨b, off, rfl, hbw, HC⟩ := a4.trim.at (by have := L1.out; have := HN.out; omega)
    obtain ⟨b', off', rfl, hbw', HC'⟩ := b4.trim.at (by have := L2.out; have := HN'.out; omega)
    have hNn : N ≤ n := by have := HN.out; have := Nm.tsize_le zs; omega
    have hNm : N ≤ m := by have := HN'.out; have := Nm.tsize_le ys; omega
    go_enter Tryz.func84, Tryz.ntmps84
    go_wp2_with fail
    refine HT1.out.mono ?_
    rintro e w' ⟨rfl, rfl⟩
    go_wp2_with fail
    refine HT2.out.mono ?_
    rintro e w' ⟨rfl, rfl⟩
    go_wp2_with fail
    go_loopw [7] (fun i wr => ∃ j : Nat, j ≤ N ∧ i = .int .i64 ((j : Int) - 1) ∧ Hid (∀ t, j ≤ t → (Nm.trim zs).getD t 0 = (Nm.trim ys).getD t 0) ∧ Below w'.heap.size w' wr) (fun i _ => (intOf i + 1).toNat)
    case atStart => exact ⟨N, Nat.le_refl _, rfl, fun t ht => by rw [List.getD, List.getElem?_eq_none (by have := L1.out; have := HN.out; omega), List.getD, List.getElem?_eq_none (by have := L2.out; have := HN'.out; omega)], Below.refl _ _⟩
    case round =>
      obtain ⟨j, hj, rfl, hE, hB⟩ := hrel
      by_cases hj0 : j = 0
      · subst hj0
        have HB := hid hB
        clear hB
        go_wp2
        go_ret
        refine ⟨ret_i64 (FIN.out ?_).symm, HB.out⟩
        have e := Nm.drop_eq_of_getD (by rw [L1.out, L2.out, HN.out, HN'.out]) 0 hE.out
        simpa using e
      · obtain ⟨t, rfl⟩ : ∃ t, j = t + 1 := ⟨j - 1, by omega⟩
        obtain ⟨x, hx, X⟩ : ∃ x, wr.cell? ⟨b, off + t, none⟩ = some (.int .u64 x) ∧ Hid (x = (Nm.trim zs).getD t 0) := ⟨_, (hB.cell (p := ⟨b, off + t, none⟩) hbw).trans (HC.out t (by have := L1.out; have := HN.out; omega)), rfl⟩
        obtain ⟨y, hy, Y⟩ : ∃ y, wr.cell? ⟨b', off' + t, none⟩ = some (.int .u64 y) ∧ Hid (y = (Nm.trim ys).getD t 0) := ⟨_, (hB.cell (p := ⟨b', off' + t, none⟩) hbw').trans (HC'.out t (by have := L2.out; have := HN'.out; omega)), rfl⟩
        have HB := hid hB
        have CM := hid (cmp_at3 a5 b5 (by rw [L1.out, L2.out, HN.out, HN'.out]) t (by rw [L1.out, HN.out]; omega) hE.out X.out Y.out)
        clear hB
        have htn : (t : Int) < (n : Int) := by omega
        have htm : (t : Int) < (m : Int) := by omega
        by_cases hxy : x < y
        · go_wp2_with fail
          go_quiet (fail)
          go_wp2
          go_ret
          exact ⟨ret_i64 (CM.out.1 hxy).symm, below_drewN HB.out _⟩
        · go_wp2_with fail
          go_quiet (fail)
          have hx2 : (wr.drewN nq).cell? ⟨b, off + t, none⟩ = some (.int .u64 x) := hx
          have hy2 : (wr.drewN nq).cell? ⟨b', off' + t, none⟩ = some (.int .u64 y) := hy
          have HB2 := hid (below_drewN HB.out nq)
          clear hx hy HB
          generalize wr.drewN nq = wq at *
          by_cases hyx : y < x
          · go_wp2_with fail
            go_quiet (fail)
            go_wp2
            go_ret
            exact ⟨ret_i64 (CM.out.2 hyx).symm, below_drewN HB2.out _⟩
          · have EQ : Hid (x = y) := by show _ = _; omega
            go_wp2_with fail
            go_quiet (fail)
            go_wp2
            go_roundw
            case rel =>
              refine ⟨t, by omega, by go_num, fun i hi => ?_, below_drewN HB2.out _⟩
              by_cases e : i = t
              · subst e; rw [← X.out, ← Y.out]; exact EQ.out
              · exact hE.out i (by omega)
            case measure => simp [intOf]
end Go.Proofs.YtggiioipppbedaaGreatDoor

namespace Go.Proofs.YtggiioipppbedaaGreatDoor
open Go.RowKit Go.Deep


set_option maxRecDepth 20000 in
set_option maxRecDepth 100000 in
set_option maxHeartbeats 4000000 in
theorem times_any (p q : Option Addr) (n cap m cap' : Nat) (za zb : List Int) (w : World) (ha : Arg w p n cap za) (hb : Arg w q m cap' zb) (hn : Nm.tsize za ≤ 1099511627776) (hm : Nm.tsize zb ≤ 1099511627776) :
    Calls Tryz.prog 83 #[.slice p n cap, .slice q m cap'] w fun e w' => ∃ r os, e = .returned (.slice r (List.length os) (List.length os)) ∧ Ans w.heap.size w' r os (Nm.val za * Nm.val zb) ∧ Below w.heap.size w w' := by
  have HA := hid ha
  have HB0 := hid hb
  clear ha hb
  go_enter Tryz.func83, Tryz.ntmps83
  go_wp2_with fail
  refine (halves_any p n cap za _ HA.out (by have := HA.out.2.1; have := HA.out.2.2.1; omega)).mono ?_
  rintro e w1 ⟨xs, rfl, lx, hx, vx, kx, bx⟩
  have HB1 := hid (HB0.out.below bx (Nat.le_refl _))
  have D1 := hid bx
  obtain ⟨l1, LX⟩ : ∃ l1, Hid (xs.length = l1) := ⟨_, rfl⟩
  have LX0 := hid lx
  have HX := hid hx
  have VX := hid vx
  have kx1 : l1 ≤ 2 * Nm.tsize za := by have := LX.out; omega
  rw [LX.out]
  clear lx hx vx kx bx HB0
  go_wp2_with fail
  refine (halves_any q m cap' zb _ HB1.out (by have := HB1.out.2.1; have := HB1.out.2.2.1; omega)).mono ?_
  rintro e w2 ⟨ys, rfl, ly, hy, vy, ky, by_⟩
  have D2 := hid (chain D1.out by_ (Nat.le_refl _))
  obtain ⟨l2, LY⟩ : ∃ l2, Hid (ys.length = l2) := ⟨_, rfl⟩
  have HY := hid hy
  have VY := hid vy
  have ky1 : l2 ≤ 2 * Nm.tsize zb := by have := LY.out; omega
  obtain ⟨g1, G1⟩ : ∃ g1, w.heap.size = g1 := ⟨_, rfl⟩
  obtain ⟨g2, G2⟩ : ∃ g2, w1.heap.size = g2 := ⟨_, rfl⟩
  have LX2 := LX0.out.below by_ (Nat.le_refl _)
  rw [G1] at LX2
  have ly2 := ly
  rw [G2] at ly2
  have CX : Hid (∀ i, i < l1 → w2.cell? ⟨g1, i, none⟩ = some (.int .u64 (xs.getD i 0))) := fun i hi => by have := LX2.cells i (by have := LX.out; omega); rwa [Nat.zero_add] at this
  have CY : Hid (∀ i, i < l2 → w2.cell? ⟨g2, i, none⟩ = some (.int .u64 (ys.getD i 0))) := fun i hi => by have := ly2.cells i (by have := LY.out; omega); rwa [Nat.zero_add] at this
  obtain ⟨g, Gg⟩ : ∃ g, Hid (w2.heap.size = g) := ⟨_, rfl⟩
  have BX : Hid (∀ {j : Nat}, j < l1 → g1 < g) := fun {j} hj => by rw [← Gg.out]; exact cell_lt (CX.out j hj)
  have BY : Hid (∀ {j : Nat}, j < l2 → g2 < g) := fun {j} hj => by rw [← Gg.out]; exact cell_lt (CY.out j hj)
  rw [LY.out, G1, G2]
  clear ly hy vy ky by_ LX0 LX2 ly2 HB1 D1 G2
  by_cases hz : l1 = 0 ∨ l2 = 0
  · have V0 : Hid (Nm.val za * Nm.val zb = 0) := by
      rw [Hid, ← VX.out, ← VY.out]
      rcases hz with h | h
      · rw [List.eq_nil_of_length_eq_zero (LX.out.trans h)]; simp [Nm.v32]
      · rw [List.eq_nil_of_length_eq_zero (LY.out.trans h)]; simp [Nm.v32]
    have bm := (Below.refl w2.heap.size w2).alloc (Nat.le_refl _) (.cells #[] 25)
    have D3 := hid (chain D2.out bm (Nat.le_refl _))
    have GS : Hid (w.heap.size ≤ g) := by rw [← Gg.out]; exact D2.out.size
    clear bm
    have fin : ∀ x : World, Below w.heap.size w x → ∃ r os, Ending.returned (.slice (some ⟨g, 0, none⟩) 0 0) = .returned (.slice r (List.length os) (List.length os)) ∧ Ans w.heap.size x r os (Nm.val za * Nm.val zb) ∧ Below w.heap.size w x := fun x hx => ⟨some ⟨g, 0, none⟩, [], rfl, ⟨Lies.nil _ _, Nm.Limbs.nil, rfl, V0.out.symm, fun a h => by cases h; exact ⟨GS.out, fun h0 => absurd h0 (by simp)⟩⟩, hx⟩
    have FIN := hid fin
    clear fin
    by_cases h1 : l1 = 0
    · subst h1
      go_wp2
      go_ret
      rw [Gg.out]
      exact FIN.out _ D3.out
    · have h2 : l2 = 0 := by omega
      subst h2
      have h1' : ¬ (l1 : Int) = 0 := by omega
      have h1'' : ((l1 : Int) == 0) = false := by rw [beq_eq_false_iff_ne]; exact h1'
      go_wp2
      go_ret
      rw [Gg.out]
      exact FIN.out _ D3.out
  · have h1 : ¬ (l1 : Int) = 0 := by omega
    have h2 : ¬ (l2 : Int) = 0 := by omega
    have h1' : ((l1 : Int) == 0) = false := by rw [beq_eq_false_iff_ne]; exact h1
    have h2' : ((l2 : Int) == 0) = false := by rw [beq_eq_false_iff_ne]; exact h2
    have hmk := make64 (l1 + l2) (by omega) w2
    rw [show ((l1 + l2 : Nat) : Int) = (l1 : Int) + (l2 : Int) by omega, Gg.out] at hmk
    have bm := hid ((Below.refl w2.heap.size w2).alloc (Nat.le_refl _) (.cells (madeCells #[.int .u64 0] (l1 + l2)) 25))
    have gm : Own (w2.alloc (.cells (madeCells #[.int .u64 0] (l1 + l2)) 25)) w2.heap.size (List.replicate (l1 + l2) 0) := by rw [made_zero]; exact Own.alloc w2 _
    rw [Gg.out] at bm gm
    generalize w2.alloc (.cells (madeCells #[.int .u64 0] (l1 + l2)) 25) = wm at hmk bm gm
    have I0 : Hid (TimesInv g (l1 + l2) w2 (Nm.v32 (xs.take 0) * Nm.v32 ys) 0 0 (0 + l2) (List.replicate (l1 + l2) 0) wm) := ⟨gm, by simp, Nm.Halves.zeros _, by rw [Nm.v32_zeros]; simp [Nm.v32], fun t _ => getD_replicate _ _, bm.out⟩
    clear gm bm hz
    go_wp2
    clear hmk
    obtain ⟨K, HK⟩ : ∃ K, Hid (l1 + l2 = K) := ⟨_, rfl⟩
    have I1 := I0.out
    rw [HK.out] at I1 ⊢
    have J0 := hid I1
    clear I0 I1
    have hKb : K ≤ 35184372088832 := by have := HK.out; omega
    go_loopw [8] (fun i wr => ∃ (k : Nat) (ps : List Int), k ≤ l1 ∧ i = .int .i64 k ∧ Hid (TimesInv g K w2 (Nm.v32 (xs.take k) * Nm.v32 ys) 0 k (k + l2) ps wr)) (fun i _ => l1 - (intOf i).toNat)
    case atStart => exact ⟨0, _, Nat.zero_le _, rfl, J0.out⟩
    case round =>
      obtain ⟨k, ps, hk, rfl, TI⟩ := hrel
      by_cases hlt : k < l1
      · have hlt' : (k : Int) < (l1 : Int) := by omega
        obtain ⟨x, X⟩ : ∃ x, Hid (x = xs.getD k 0) := ⟨_, rfl⟩
        have hx0 : 0 ≤ x := by have := HX.out.at k; have := X.out; omega
        have hx1 : x < 4294967296 := by have := HX.out.at k; have := X.out; omega
        obtain ⟨V, HV⟩ : ∃ V, Hid (V = Nm.v32 (xs.take k) * Nm.v32 ys) := ⟨_, rfl⟩
        have TJ : Hid (TimesInv g K w2 (V + Nm.p32 k * (x * Nm.v32 (ys.take 0))) 0 (k + 0) (k + l2) ps wr) := by
          have h := TI.out
          rw [← HV.out] at h
          simp only [List.take_zero, Nm.v32, Int.mul_zero, Int.add_zero, Nat.add_zero]
          exact h
        clear TI
        go_wp2_with fail
        go_loopw [9, 10] (fun c j wr => ∃ (t : Nat) (cc : Int) (ps : List Int), t ≤ l2 ∧ j = .int .i64 t ∧ c = .int .u64 cc ∧ 0 ≤ cc ∧ cc < 4294967296 ∧ Hid (TimesInv g K w2 (V + Nm.p32 k * (x * Nm.v32 (ys.take t))) cc (k + t) (k + l2) ps wr)) (fun _ j _ => l2 - (intOf j).toNat)
        case atStart => exact ⟨0, 0, ps, Nat.zero_le _, rfl, rfl, by omega, by omega, TJ.out⟩
        case round =>
          clear TJ ps
          obtain ⟨t, cc, ps, ht, rfl, rfl, hc0, hc1, TI⟩ := hrel
          obtain ⟨o1, o2, o3, o4, o5, o6⟩ := TI.out
          by_cases htl : t < l2
          · have htl' : (t : Int) < (l2 : Int) := by omega
            have hx : wr.cell? ⟨g1, k, none⟩ = some (.int .u64 x) := by rw [X.out]; exact (o6.cell (p := ⟨g1, k, none⟩) (BX.out hlt)).trans (CX.out k hlt)
            obtain ⟨y, hy, Y⟩ : ∃ y, wr.cell? ⟨g2, t, none⟩ = some (.int .u64 y) ∧ Hid (y = ys.getD t 0) := ⟨_, (o6.cell (p := ⟨g2, t, none⟩) (BY.out htl)).trans (CY.out t htl), rfl⟩
            have hkt : k + t < K := by have := HK.out; omega
            obtain ⟨pv, hpv, PV⟩ : ∃ pv, wr.cell? ⟨g, k + t, none⟩ = some (.int .u64 pv) ∧ Hid (pv = ps.getD (k + t) 0) := ⟨_, o1.cell (k + t) (by omega), rfl⟩
            have hfr := o1.free (k + t)
            have hy0 : 0 ≤ y := by have := HY.out.at t; have := Y.out; omega
            have hy1 : y < 4294967296 := by have := HY.out.at t; have := Y.out; omega
            have hp0 : 0 ≤ pv := by have := o3.at (k + t); have := PV.out; omega
            have hp1 : pv < 4294967296 := by have := o3.at (k + t); have := PV.out; omega
            have hxy0 : 0 ≤ x * y := Int.mul_nonneg hx0 hy0
            have hxy1 : x * y ≤ 4294967295 * 4294967295 := Int.mul_le_mul (by omega) (by omega) hy0 (by omega)
            obtain ⟨m0, hm0, M0⟩ : ∃ m0, IntKind.u64.wrap (x * y) = m0 ∧ Hid (m0 = x * y) := ⟨_, by rw [IntKind.wrap_u64, Int.emod_eq_of_lt (by omega) (by omega)], rfl⟩
            have hm00 : 0 ≤ m0 := by have := M0.out; omega
            have hm01 : m0 ≤ 18446744065119617025 := by have := M0.out; omega
            obtain ⟨m1, hm1, M1⟩ : ∃ m1, IntKind.u64.wrap (m0 + pv) = m1 ∧ Hid (m1 = m0 + pv) := ⟨_, by rw [IntKind.wrap_u64, Int.emod_eq_of_lt (by omega) (by omega)], rfl⟩
            have hm10 : 0 ≤ m1 := by have := M1.out; omega
            have hm11 : m1 ≤ 18446744069414584320 := by have := M1.out; omega
            obtain ⟨tt, htt, TT⟩ : ∃ tt, IntKind.u64.wrap (m1 + cc) = tt ∧ Hid (tt = m1 + cc) := ⟨_, by rw [IntKind.wrap_u64, Int.emod_eq_of_lt (by omega) (by omega)], rfl⟩
            have htt0 : 0 ≤ tt := by have := TT.out; omega
            have htt1 : tt ≤ 18446744073709551615 := by have := TT.out; omega
            obtain ⟨lo, hlo, LO⟩ : ∃ lo, bits .and .u64 tt 4294967295 = lo ∧ Hid (lo = tt % 4294967296) := ⟨_, r_mask32 tt (by omega) (by omega), rfl⟩
            obtain ⟨hi, hhi, HI⟩ : ∃ hi, tt / 4294967296 = hi ∧ Hid (hi = tt / 4294967296) := ⟨_, rfl, rfl⟩
            have BLO : Hid ((0 ≤ lo ∧ lo < 4294967296) ∧ 0 ≤ hi ∧ hi < 4294967296) := by have := LO.out; have := HI.out; show _ ∧ _; omega
            have ST : Hid (lo + 4294967296 * hi = x * ys.getD t 0 + pv + cc) := by
              have h1 := LO.out; have h2 := HI.out; have h3 := TT.out; have h4 := M1.out; have h5 := M0.out
              rw [Hid, ← Y.out]; omega
            have O1 := hid o1
            have O2 := hid o2
            have O3 := hid o3
            have O4 := hid o4
            have O5 := hid o5
            have O6 := hid o6
            have hkt' : (k : Int) + (t : Int) < (K : Int) := by omega
            clear o1 o2 o3 o4 o5 o6 TI hxy0 hxy1
            go_wp2_with fail
            go_quiet (fail)
            have hpv2 : (wr.drewN nq).cell? ⟨g, k + t, none⟩ = some (.int .u64 pv) := hpv
            have hfr2 : (wr.drewN nq).frozen? ⟨g, k + t, none⟩ = false := hfr
            have P1 : Hid (Own (wr.drewN nq) g ps) := O1.out
            have P6 := hid (below_drewN O6.out nq)
            clear hx hy hpv hfr O1 O6
            generalize wr.drewN nq = wq at *
            go_wp2
            go_roundw
            case rel =>
              refine ⟨t + 1, hi, ps.set (k + t) lo, by omega, by go_num, by first | rfl | rw [hhi], BLO.out.2.1, BLO.out.2.2, P1.out.set _ _, by rw [List.length_set]; exact O2.out, O3.out.set _ BLO.out.1.1 BLO.out.1.2, ?_, ?_, P6.out.setCell (Nat.le_refl _) _⟩
              · exact Nm.times_digit (by have := O2.out; omega) PV.out O4.out ST.out
              · intro s hs
                rw [Nm.getD_set ps (k + t) s lo (by have := O2.out; omega), if_neg (by omega)]
                exact O5.out s hs
            case measure => simp [intOf]; omega
          · have htl' : ¬ (t : Int) < (l2 : Int) := by omega
            obtain rfl : t = l2 := by omega
            rw [List.take_of_length_le (by have := LY.out; omega)] at o4
            have hkt : k + t < K := by have := HK.out; omega
            obtain ⟨pv, hpv⟩ : ∃ pv, wr.cell? ⟨g, k + t, none⟩ = some (.int .u64 pv) := ⟨_, o1.cell (k + t) (by omega)⟩
            have hfr := o1.free (k + t)
            have Z0 := o5 (k + t) (Nat.le_refl _)
            have NX : Hid (TimesInv g K w2 (Nm.v32 (xs.take (k + 1)) * Nm.v32 ys) 0 (k + 1) (k + 1 + t) (ps.set (k + t) cc) (wr.setCell ⟨g, k + t, none⟩ (.int .u64 cc))) := by
              refine ⟨o1.set _ _, by rw [List.length_set]; exact o2, o3.set _ hc0 hc1, ?_, ?_, o6.setCell (Nat.le_refl _) _⟩
              · rw [Nm.v32_set ps (k + t) cc (by omega), Z0, Nm.v32_take_next, ← X.out, Int.add_mul, ← HV.out, Int.mul_zero, Int.add_zero, Int.sub_zero, Int.mul_assoc]
                exact o4
              · intro s hs
                rw [Nm.getD_set ps (k + t) s cc (by omega), if_neg (by omega)]
                exact o5 s (by omega)
            have hkt' : (k : Int) + (t : Int) < (K : Int) := by omega
            clear o1 o2 o3 o4 o5 o6 TI Z0
            go_wp2
            go_roundw
            case rel => exact ⟨k + 1, _, by omega, by go_num, NX.out⟩
            case measure => simp [intOf]; omega
      · have hlt' : ¬ (k : Int) < (l1 : Int) := by omega
        obtain rfl : k = l1 := by omega
        obtain ⟨o1, o2, o3, o4, o5, o6⟩ := TI.out
        rw [List.take_of_length_le (by have := LX.out; omega), VX.out, VY.out, Int.mul_zero, Int.add_zero] at o4
        have D3 := hid (chain D2.out (by rw [Gg.out]; exact o6) (Nat.le_refl _))
        have AG : Hid (Arg wr (some ⟨g, 0, none⟩) K K ps) := ⟨o2, Nat.le_refl _, by have := HK.out; omega, o1.lies, o3.limbs⟩
        have hw3 : Hid (w.heap.size ≤ wr.heap.size) := D3.out.size
        have HV := hid o4
        have HS := hid o3
        clear o1 o2 o3 o4 o5 o6 TI
        go_wp2_with fail
        refine (rlimbs_any _ K K ps _ AG.out HS.out).mono ?_
        rintro e w4 ⟨r, os, rfl, hA, hb⟩
        rw [HV.out] at hA
        have A4 := hid (hA.mono hw3.out)
        have D4 := hid (chain D3.out hb (Nat.le_refl _))
        clear hA hb
        go_wp2
        go_ret
        exact ⟨r, os, rfl, A4.out, D4.out⟩
end Go.Proofs.YtggiioipppbedaaGreatDoor

namespace Go.Proofs.YtggiioipppbedaaGreatDoor
open Go.RowKit Go.Deep

namespace Nm
theorem p32_pow : ∀ z, p32 z = 2 ^ (32 * z)
  | 0 => rfl
  | z + 1 => by
    rw [show 32 * (z + 1) = 32 * z + 32 by omega, two_add, ← p32_pow z]
    simp only [p32]
    rw [Int.mul_comm, show (2 : Int) ^ 32 = 4294967296 by decide]

theorem lift_step {ss xs : List Int} {z j : Nat} {F c c' lo : Int} (hl : ss.length = z + j) (h : v32 ss + p32 (z + j) * c = p32 z * (F * v32 (xs.take j))) (hs : lo + 4294967296 * c' = xs.getD j 0 * F + c) :
    v32 (ss ++ [lo]) + p32 (z + (j + 1)) * c' = p32 z * (F * v32 (xs.take (j + 1))) := by
  rw [v32_snoc, v32_take_next, hl, Int.mul_add F, Int.mul_add (p32 z)]
  have e1 : p32 (z + (j + 1)) * c' = p32 (z + j) * (4294967296 * c') := by
    rw [← Nat.add_assoc]; simp only [p32]; rw [Int.mul_comm 4294967296 (p32 (z + j)), Int.mul_assoc]
  have e2 : p32 z * (F * (p32 j * xs.getD j 0)) = p32 (z + j) * (xs.getD j 0 * F) := by
    rw [p32_add, Int.mul_left_comm F, ← Int.mul_assoc, Int.mul_comm F]
  have e3 : p32 (z + j) * (lo + 4294967296 * c') = p32 (z + j) * (xs.getD j 0 * F + c) := by rw [hs]
  rw [Int.mul_add, Int.mul_add] at e3
  omega
end Nm

set_option maxRecDepth 20000 in
set_option maxRecDepth 100000 in
set_option maxHeartbeats 4000000 in
theorem lift_any (p : Option Addr) (n cap : Nat) (za : List Int) (kk : Int) (k : Nat) (w : World) (ha : Arg w p n cap za) (hn : Nm.tsize za ≤ 1099511627776) (hkk : kk = (k : Int)) (hk : k ≤ 4194304) :
    Calls Tryz.prog 59 #[.slice p n cap, .int .i64 kk] w fun e w' => ∃ r os, e = .returned (.slice r (List.length os) (List.length os)) ∧ Ans w.heap.size w' r os (Nm.val za * 2 ^ k) ∧ Below w.heap.size w w' := by
  have HA := hid ha
  have hk0 : 0 ≤ kk := by omega
  have hk1 : kk ≤ 4194304 := by omega
  obtain ⟨z, HZ⟩ : ∃ z : Nat, Hid (kk / 32 = (z : Int) ∧ z = k / 32) := ⟨k / 32, by show _ ∧ _; omega⟩
  obtain ⟨r, HR⟩ : ∃ r : Nat, Hid (kk % 32 = (r : Int) ∧ r = k % 32) := ⟨k % 32, by show _ ∧ _; omega⟩
  have KZ : Hid (k = 32 * z + r) := by have := HZ.out; have := HR.out; show _ = _; omega
  have hz8 : z ≤ 131072 := by have := HZ.out; omega
  have hr31 : r ≤ 31 := by have := HR.out; omega
  clear ha hkk hk
  go_enter Tryz.func59, Tryz.ntmps59
  go_wp2_with fail
  refine (halves_any p n cap za _ HA.out (by have := HA.out.2.1; have := HA.out.2.2.1; omega)).mono ?_
  rintro e w1 ⟨xs, rfl, lx, hx, vx, kx, bx⟩
  have D1 := hid bx
  obtain ⟨l1, LX⟩ : ∃ l1, Hid (xs.length = l1) := ⟨_, rfl⟩
  have HX := hid hx
  have VX := hid vx
  have kx1 : l1 ≤ 2 * Nm.tsize za := by have := LX.out; omega
  obtain ⟨g1, G1⟩ : ∃ g1, w.heap.size = g1 := ⟨_, rfl⟩
  have lx2 := lx
  rw [G1] at lx2
  have CX : Hid (∀ i, i < l1 → w1.cell? ⟨g1, i, none⟩ = some (.int .u64 (xs.getD i 0))) := fun i hi => by have := lx2.cells i (by have := LX.out; omega); rwa [Nat.zero_add] at this
  obtain ⟨g, Gg⟩ : ∃ g, Hid (w1.heap.size = g) := ⟨_, rfl⟩
  have BX : Hid (∀ {j : Nat}, j < l1 → g1 < g) := fun {j} hj => by rw [← Gg.out]; exact cell_lt (CX.out j hj)
  rw [LX.out, G1]
  clear lx lx2 hx vx kx bx
  by_cases hz : l1 = 0
  · have V0 : Hid (Nm.val za * 2 ^ k = 0) := by
      rw [Hid, ← VX.out, List.eq_nil_of_length_eq_zero (LX.out.trans hz)]; simp [Nm.v32]
    have D3 := hid (chain D1.out ((Below.refl w1.heap.size w1).alloc (Nat.le_refl _) (.cells #[] 25)) (Nat.le_refl _))
    have GS : Hid (w.heap.size ≤ g) := by rw [← Gg.out]; exact D1.out.size
    have FIN : Hid (∀ x : World, Below w.heap.size w x → ∃ r os, Ending.returned (.slice (some ⟨g, 0, none⟩) 0 0) = .returned (.slice r (List.length os) (List.length os)) ∧ Ans w.heap.size x r os (Nm.val za * 2 ^ k) ∧ Below w.heap.size w x) := fun x hx => ⟨some ⟨g, 0, none⟩, [], rfl, ⟨Lies.nil _ _, Nm.Limbs.nil, rfl, V0.out.symm, fun a h => by cases h; exact ⟨GS.out, fun h0 => absurd h0 (by simp)⟩⟩, hx⟩
    subst hz
    go_wp2
    go_ret
    rw [Gg.out]
    exact FIN.out _ D3.out
  · have h1' : ((l1 : Int) == 0) = false := by rw [beq_eq_false_iff_ne]; omega
    obtain ⟨C, HC⟩ : ∃ C, Hid (z + l1 + 1 = C) := ⟨_, rfl⟩
    have hmk := make64_room (z + l1 + 1) (by omega) w1
    rw [show ((z + l1 + 1 : Nat) : Int) = kk / 32 + (l1 : Int) + 1 by have := HZ.out; omega, HC.out, Gg.out] at hmk
    have bm := hid ((Below.refl w1.heap.size w1).alloc (Nat.le_refl _) (.cells (madeCells #[.int .u64 0] C) 25))
    have gm := hid (Grown.made w1 C)
    rw [Gg.out] at bm gm
    generalize w1.alloc (.cells (madeCells #[.int .u64 0] C) 25) = wm at hmk bm gm
    have hCb : C ≤ 35184372088832 := by have := HC.out; omega
    go_wp2
    clear hmk
    go_loopw [6, 7] (fun a i wr => ∃ j : Nat, j ≤ z ∧ i = .int .i64 j ∧ a = .slice (some ⟨g, 0, none⟩) j C ∧ Hid (Grown wr g (List.replicate j 0) (C - j)) ∧ Below g w1 wr) (fun _ i _ => z - (intOf i).toNat)
    case atStart => exact ⟨0, Nat.zero_le _, rfl, rfl, gm.out, bm.out⟩
    case round =>
      obtain ⟨j, hj, rfl, rfl, G, hB⟩ := hrel
      by_cases hlt : j < z
      · have hlt' : (j : Int) < kk / 32 := by have := HZ.out; omega
        have G' := G.out
        rw [show C - j = (C - j - 1) + 1 by have := HC.out; omega] at G'
        obtain ⟨w2, ap, gr, be, sz⟩ := push64 g j (C - j - 1) C (List.replicate j 0) 0 wr (by simp) (by have := HC.out; omega) G'
        have AP := hid ap
        have GR := hid gr
        have BE := hid (hB.trans be)
        clear ap gr be sz hB G G'
        go_wp2_with (at_builtin; refine wpList_append_row rfl _ _ rfl AP.out (by rfl) (by rfl) ?_; clear AP)
        go_roundw
        case rel =>
          refine ⟨j + 1, by omega, by go_num, rfl, ?_, BE.out⟩
          have := GR.out
          rw [← List.replicate_succ'] at this
          exact this
        case measure => simp [intOf]; omega
      · have hlt' : ¬ (j : Int) < kk / 32 := by have := HZ.out; omega
        obtain rfl : j = z := by omega
        have HB := hid hB
        clear hB
        go_wp2
        go_loop [8, 9] (fun f i => ∃ (t : Nat) (F : Int), t ≤ r ∧ i = .int .i64 t ∧ f = .int .u64 F ∧ 1 ≤ F ∧ F ≤ 2147483648 ∧ Hid (F = 2 ^ t)) (fun _ i => r - (intOf i).toNat)
        case atStart => exact ⟨0, 1, Nat.zero_le _, rfl, rfl, by omega, by omega, rfl⟩
        case round =>
          obtain ⟨t, F, ht, rfl, rfl, hF0, hF1, HF⟩ := hrel
          by_cases htl : t < r
          · have htl' : (t : Int) < kk % 32 := by have := HR.out; omega
            obtain ⟨F2, hF2, FF⟩ : ∃ F2, IntKind.u64.wrap (F * 2) = F2 ∧ Hid (F2 = F * 2) := ⟨_, by rw [IntKind.wrap_u64, Int.emod_eq_of_lt (by omega) (by omega)], rfl⟩
            have E2 : Hid (F2 = 2 ^ (t + 1)) := by rw [Hid, FF.out, HF.out, Nm.two_succ, Int.mul_comm]
            have hF20 : 1 ≤ F2 := by have := FF.out; omega
            have hF21 : F2 ≤ 2147483648 := by
              rw [E2.out]
              have := Nm.two_mono (show t + 1 ≤ 31 by omega)
              have e : (2 : Int) ^ 31 = 2147483648 := by decide
              omega
            go_wp2
            go_round
            case rel => exact ⟨t + 1, F2, by omega, by go_num, by first | rfl | rw [hF2], hF20, hF21, E2.out⟩
            case measure => simp [intOf]; omega
          · have htl' : ¬ (t : Int) < kk % 32 := by have := HR.out; omega
            obtain rfl : t = r := by omega
            have FV : Hid (Nm.p32 j * (F * Nm.v32 xs) = Nm.val za * 2 ^ k) := by
              rw [Hid, Nm.p32_pow, HF.out, VX.out, KZ.out, Nm.two_add, ← Int.mul_assoc, Int.mul_comm]
            go_wp2
            go_loopw [6, 10, 11] (fun a c i wr => ∃ (i' : Nat) (cc : Int) (ss : List Int), i' ≤ l1 ∧ i = .int .i64 i' ∧ a = .slice (some ⟨g, 0, none⟩) (j + i') C ∧ c = .int .u64 cc ∧ 0 ≤ cc ∧ cc < 4294967296 ∧ Hid (Grown wr g ss (C - (j + i'))) ∧ Hid (ss.length = j + i') ∧ Hid (Nm.Halves ss) ∧ Hid (Nm.v32 ss + Nm.p32 (j + i') * cc = Nm.p32 j * (F * Nm.v32 (xs.take i'))) ∧ Below g w1 wr) (fun _ _ i _ => l1 - (intOf i).toNat)
            case atStart => exact ⟨0, 0, List.replicate j 0, Nat.zero_le _, rfl, rfl, rfl, by omega, by omega, G.out, by simp [Hid], Nm.Halves.zeros _, by simp [Hid, Nm.v32_zeros, Nm.v32], HB.out⟩
            case round =>
              obtain ⟨i', cc, ss, hi', rfl, rfl, rfl, hc0, hc1, G3, L, HS, V, hB⟩ := hrel
              have G' := G3.out
              rw [show C - (j + i') = (C - (j + i') - 1) + 1 by have := HC.out; omega] at G'
              by_cases hl : i' < l1
              · have hl' : (i' : Int) < (l1 : Int) := by omega
                obtain ⟨x, hx, X⟩ : ∃ x, wr.cell? ⟨g1, i', none⟩ = some (.int .u64 x) ∧ Hid (x = xs.getD i' 0) := ⟨_, (hB.cell (p := ⟨g1, i', none⟩) (BX.out hl)).trans (CX.out i' hl), rfl⟩
                have hx0 : 0 ≤ x := by have := HX.out.at i'; have := X.out; omega
                have hx1 : x < 4294967296 := by have := HX.out.at i'; have := X.out; omega
                have hxf0 : 0 ≤ x * F := Int.mul_nonneg hx0 (by omega)
                have hxf1 : x * F ≤ 4294967295 * 2147483648 := Int.mul_le_mul (by omega) hF1 (by omega) (by omega)
                obtain ⟨m0, hm0, M0⟩ : ∃ m0, IntKind.u64.wrap (x * F) = m0 ∧ Hid (m0 = x * F) := ⟨_, by rw [IntKind.wrap_u64, Int.emod_eq_of_lt (by omega) (by omega)], rfl⟩
                have hm00 : 0 ≤ m0 := by have := M0.out; omega
                have hm01 : m0 ≤ 9223372034707292160 := by have := M0.out; omega
                obtain ⟨tt, htt, TT⟩ : ∃ tt, IntKind.u64.wrap (m0 + cc) = tt ∧ Hid (tt = m0 + cc) := ⟨_, by rw [IntKind.wrap_u64, Int.emod_eq_of_lt (by omega) (by omega)], rfl⟩
                have htt0 : 0 ≤ tt := by have := TT.out; omega
                have htt1 : tt ≤ 9223372039002259455 := by have := TT.out; omega
                obtain ⟨lo, hlo, LO⟩ : ∃ lo, bits .and .u64 tt 4294967295 = lo ∧ Hid (lo = tt % 4294967296) := ⟨_, r_mask32 tt (by omega) (by omega), rfl⟩
                obtain ⟨hi, hhi, HI⟩ : ∃ hi, tt / 4294967296 = hi ∧ Hid (hi = tt / 4294967296) := ⟨_, rfl, rfl⟩
                have BLO : Hid ((0 ≤ lo ∧ lo < 4294967296) ∧ 0 ≤ hi ∧ hi < 4294967296) := by have := LO.out; have := HI.out; show _ ∧ _; omega
                have ST : Hid (lo + 4294967296 * hi = xs.getD i' 0 * F + cc) := by
                  have h1 := LO.out; have h2 := HI.out; have h3 := TT.out; have h5 := M0.out
                  rw [Hid, ← X.out]; omega
                obtain ⟨w2, ap, gr, be, sz⟩ := push64 g (j + i') (C - (j + i') - 1) C ss lo wr L.out (by have := HC.out; omega) G'
                have AP := hid ap
                have GR := hid gr
                have BE := hid (hB.trans be)
                clear ap gr be sz hB G3 G' hxf0 hxf1
                go_wp2_with (at_builtin; refine wpList_append_row rfl _ _ rfl AP.out (by rfl) (by rfl) ?_; clear AP)
                go_roundw
                case rel =>
                  refine ⟨i' + 1, hi, ss ++ [lo], by omega, by go_num, rfl, by first | rfl | rw [hhi], BLO.out.2.1, BLO.out.2.2, GR.out, ?_, HS.out.snoc BLO.out.1.1 BLO.out.1.2, ?_, BE.out⟩
                  · have := L.out; simp only [Hid, List.length_append, List.length_cons, List.length_nil]; omega
                  · exact Nm.lift_step L.out V.out ST.out
                case measure => simp [intOf]; omega
              · have hl' : ¬ (i' : Int) < (l1 : Int) := by omega
                obtain ⟨w3, ap, gr, be, sz⟩ := push64 g (j + i') (C - (j + i') - 1) C ss cc wr L.out (by have := HC.out; omega) G'
                have AP := hid ap
                have D3 := hid (chain D1.out (by rw [Gg.out]; exact hB.trans be) (Nat.le_refl _))
                have VV : Hid (Nm.v32 (ss ++ [cc]) = Nm.val za * 2 ^ k) := by
                  have := V.out
                  rw [List.take_of_length_le (by have := LX.out; omega), FV.out] at this
                  rw [Hid, Nm.v32_snoc, L.out]
                  exact this
                have HS2 := hid (HS.out.snoc hc0 hc1)
                have AG : Hid (Arg w3 (some ⟨g, 0, none⟩) (j + i' + 1) C (ss ++ [cc])) := ⟨by simp [L.out], by have := HC.out; omega, by have := HC.out; omega, gr.lies, HS2.out.limbs⟩
                have hw3 : Hid (w.heap.size ≤ w3.heap.size) := D3.out.size
                clear ap gr be sz hB G3 G'
                go_wp2_with (at_builtin; refine wpList_append_row rfl _ _ rfl AP.out (by rfl) (by rfl) ?_; clear AP)
                refine (rlimbs_any _ (j + i' + 1) C (ss ++ [cc]) _ AG.out HS2.out).mono ?_
                rintro e w4 ⟨r4, os, rfl, hA, hb⟩
                rw [VV.out] at hA
                have A4 := hid (hA.mono hw3.out)
                have D4 := hid (chain D3.out hb (Nat.le_refl _))
                clear hA hb
                go_wp2
                go_ret
                exact ⟨r4, os, rfl, A4.out, D4.out⟩
end Go.Proofs.YtggiioipppbedaaGreatDoor

/-
  The document's FromUint.
-/
namespace Go.Proofs.YtggiioipppbedaaGreatDoor
open Go Go.RowKit Go.Deep

theorem arg_z {w : World} {g : Nat} {x : Int} (h : w.heap[g]? = some (.cells #[.int .u64 x] 25 (0, 0))) (h0 : 0 ≤ x) (h1 : x < 18446744073709551616) : Arg w (some ⟨g, 0, none⟩) 1 1 [x] := by
  refine ⟨rfl, Nat.le_refl _, by omega, .inr ⟨g, 0, rfl, fun i hi => ?_⟩, Nm.Limbs.mk h0 h1 Nm.Limbs.nil⟩
  obtain rfl : i = 0 := by simpa using hi
  simp [World.cell?, h]
end Go.Proofs.YtggiioipppbedaaGreatDoor

namespace Go.Proofs.YtggiioipppbedaaGreatDoor
open Go.RowKit Go.Deep

theorem half_more (x0 : Int) (c : Nat) : x0 / 2 ^ c / 2 = x0 / 2 ^ (c + 1) := by
  rw [Nm.two_add, ← Int.ediv_ediv_of_nonneg (by have := Nm.two_pos c; omega)]
  rfl

set_option maxRecDepth 20000 in
set_option maxRecDepth 100000 in
set_option maxHeartbeats 2000000 in
theorem refBitLen_any (p : Option Addr) (n cap : Nat) (zs : List Int) (w : World) (ha : Arg w p n cap zs) :
    Calls Tryz.prog 62 #[.slice p n cap] w fun e w' => (∃ L : Nat, e = .returned (.int .i64 (L : Int)) ∧ Nm.BLen (Nm.val zs) L) ∧ w' = w := by
  obtain ⟨a1, a2, a3, a4, a5⟩ := ha
  have tl := Nm.tsize_le zs
  have S1 := refSize_any p n cap zs w a1 (by omega) a4
  by_cases h0 : Nm.tsize zs = 0
  · rw [h0] at S1
    have HS := hid S1
    have hv := (Nm.tsize_zero_iff a5).1 h0
    have B0 : Hid (Nm.BLen (Nm.val zs) 0) := ⟨by rw [hv]; decide, fun _ => rfl, fun h => by omega⟩
    clear S1 h0 hv
    go_enter Tryz.func62, Tryz.ntmps62
    go_wp2_with fail
    refine HS.out.mono ?_
    rintro e w' ⟨rfl, rfl⟩
    go_wp2
    go_ret
    exact ⟨⟨0, rfl, B0.out⟩, rfl⟩
  · obtain ⟨t, ht⟩ : ∃ t, Nm.tsize zs = t + 1 := ⟨Nm.tsize zs - 1, by omega⟩
    obtain ⟨b, off, rfl, hbw, HC⟩ := a4.at (by omega)
    obtain ⟨x0, hx, X⟩ : ∃ x0, w.cell? ⟨b, off + t, none⟩ = some (.int .u64 x0) ∧ Hid (x0 = zs.getD t 0) := ⟨_, HC.out t (by omega), rfl⟩
    have hx0 : 0 ≤ x0 := by have := a5.at t; have := X.out; omega
    have hx1 : x0 < 18446744073709551616 := by have := a5.at t; have := X.out; omega
    have XP : Hid (0 < x0) := by
      have h := Nm.tsize_top zs (by omega)
      rw [ht, Nat.add_sub_cancel, ← X.out] at h
      show 0 < x0
      omega
    have FIN : Hid (∀ c : Nat, x0 / 2 ^ c = 0 → (c = 0 ∨ 2 ^ (c - 1) ≤ x0) → Nm.BLen (Nm.val zs) (64 * t + c)) := by
      intro c h1 h2
      have hp := Nm.two_pos c
      have hlt : x0 < 2 ^ c := by
        rcases Int.lt_or_le x0 (2 ^ c) with h | h
        · exact h
        · have : 1 ≤ x0 / 2 ^ c := (Int.le_ediv_iff_mul_le hp).2 (by omega)
          omega
      have hc : 1 ≤ c := by
        rcases Nat.eq_zero_or_pos c with h | h
        · subst h
          have := XP.out
          have e : (2 : Int) ^ 0 = 1 := rfl
          omega
        · exact h
      have h3 : (2 : Int) ^ (c - 1) ≤ x0 := by
        rcases h2 with h | h
        · omega
        · exact h
      exact Nm.blen_at zs t c a5 ht hc (by rw [← X.out]; exact h3) (by rw [← X.out]; exact hlt)
    have CB : Hid (∀ c : Nat, 2 ^ (c - 1) ≤ x0 → c ≤ 64) := by
      intro c h
      have h2 : (2 : Int) ^ (c - 1) < 2 ^ 64 := by rw [Nm.two_64]; omega
      rcases Nat.lt_or_ge (c - 1) 64 with h3 | h3
      · omega
      · have := Nm.two_mono h3
        omega
    rw [ht] at S1
    have hS : ((t + 1 : Nat) : Int) = (t : Int) + 1 := by omega
    rw [hS] at S1
    have HS := hid S1
    have htn : (t : Int) < (n : Int) := by omega
    have htb : t ≤ 17592186044000 := by omega
    clear S1 h0 hS ht tl a4
    go_enter Tryz.func62, Tryz.ntmps62
    go_wp2_with fail
    refine HS.out.mono ?_
    rintro e w' ⟨rfl, rfl⟩
    go_wp2_with fail
    go_loop [4, 5] (fun s y => ∃ (c S : Nat) (x : Int), Hid (S = 64 * t + c) ∧ S ≤ 1125899906842688 ∧ s = .int .i64 S ∧ y = .int .u64 x ∧ 0 ≤ x ∧ x ≤ x0 ∧ Hid (x = x0 / 2 ^ c) ∧ Hid (c = 0 ∨ 2 ^ (c - 1) ≤ x0)) (fun _ y => (intOf y).toNat)
    case atStart => exact ⟨0, 64 * t, x0, rfl, by omega, by first | rfl | go_num, rfl, hx0, by omega, by simp [Hid], .inl rfl⟩
    case round =>
      obtain ⟨c, S, x, HSS, hS, rfl, rfl, h1, h2, HX, HCc⟩ := hrel
      by_cases hz : x = 0
      · have hz' : ¬ (0 : Int) < x := by omega
        have E : Hid (Nm.BLen (Nm.val zs) S) := by rw [HSS.out]; exact FIN.out c (by rw [← HX.out]; exact hz) HCc.out
        clear hz
        go_wp2
        go_ret
        exact ⟨⟨S, rfl, E.out⟩, rfl⟩
      · have hz' : (0 : Int) < x := by omega
        have P1 : Hid (2 ^ c ≤ x0) := by
          have h := HX.out
          have hp := Nm.two_pos c
          have : 1 ≤ x0 / 2 ^ c := by omega
          have := (Int.le_ediv_iff_mul_le hp).1 this
          show _ ≤ _
          omega
        have hc64 : c + 1 ≤ 64 := CB.out (c + 1) (by rw [Nat.add_sub_cancel]; exact P1.out)
        have hS2 : S + 1 ≤ 1125899906842688 := by have := HSS.out; omega
        obtain ⟨y, hy, Y⟩ : ∃ y, x / 2 = y ∧ Hid (y = x / 2) := ⟨_, rfl, rfl⟩
        have hy0 : 0 ≤ y := by omega
        have hyx : y < x := by omega
        have YX : Hid (y = x0 / 2 ^ (c + 1)) := by rw [Hid, Y.out, HX.out, half_more]
        clear hz
        go_wp2
        go_round
        case rel => exact ⟨c + 1, S + 1, y, by have := HSS.out; show _ = _; omega, hS2, by go_num, by rw [hy], hy0, by omega, YX.out, .inr (by rw [Nat.add_sub_cancel]; exact P1.out)⟩
        case measure => simp [intOf]; omega
end Go.Proofs.YtggiioipppbedaaGreatDoor

namespace Go.Proofs.YtggiioipppbedaaGreatDoor
open Go.RowKit Go.Deep


theorem refBit_neg (p : Option Addr) (n cap : Nat) (i : Int) (w : World) (hi : i < 0) :
    Calls Tryz.prog 63 #[.slice p n cap, .int .i64 i] w fun e w' => e = .returned (.int .i64 0) ∧ w' = w := by
  go_enter Tryz.func63, Tryz.ntmps63
  go_wp2
  go_ret
  exact ⟨rfl, rfl⟩

set_option maxRecDepth 20000 in
set_option maxRecDepth 100000 in
set_option maxHeartbeats 2000000 in
theorem refBit_any (p : Option Addr) (n cap : Nat) (zs : List Int) (i : Nat) (ii : Int) (w : World) (ha : Arg w p n cap zs) (hi : ii ≤ 9223372036854775807) (hii : ii = (i : Int)) :
    Calls Tryz.prog 63 #[.slice p n cap, .int .i64 ii] w fun e w' => e = .returned (.int .i64 (Nm.val zs / 2 ^ i % 2)) ∧ w' = w := by
  obtain ⟨a1, a2, a3, a4, a5⟩ := ha
  have hi0 : 0 ≤ ii := by omega
  have hi0' : ¬ ii < 0 := by omega
  obtain ⟨k, HK⟩ : ∃ k : Nat, Hid (ii / 64 = (k : Int) ∧ k = i / 64) := ⟨i / 64, by show _ ∧ _; omega⟩
  obtain ⟨r, HR⟩ : ∃ r : Nat, Hid (ii % 64 = (r : Int) ∧ r = i % 64) := ⟨i % 64, by show _ ∧ _; omega⟩
  have hr : r ≤ 63 := by have := HR.out; omega
  by_cases hk : n ≤ k
  · have hk' : (n : Int) ≤ ii / 64 := by have := HK.out; omega
    have E : Hid (0 = Nm.val zs / 2 ^ i % 2) := by
      have h1 := Nm.val_bd zs a5
      rw [a1, Nm.pw_two] at h1
      have h2 := Nm.two_mono (show 64 * n ≤ i by have := HK.out; omega)
      rw [Hid, Int.ediv_eq_zero_of_lt h1.1 (by omega)]
      rfl
    clear hii
    go_enter Tryz.func63, Tryz.ntmps63
    go_wp2
    go_ret
    exact ⟨ret_i64 E.out, rfl⟩
  · have hk' : ¬ (n : Int) ≤ ii / 64 := by have := HK.out; omega
    obtain ⟨b, off, rfl, hbw, HC⟩ := a4.at (by omega)
    obtain ⟨x0, hx, X⟩ : ∃ x0, w.cell? ⟨b, off + k, none⟩ = some (.int .u64 x0) ∧ Hid (x0 = zs.getD k 0) := ⟨_, HC.out k (by omega), rfl⟩
    have hx0 : 0 ≤ x0 := by have := a5.at k; have := X.out; omega
    have hx1 : x0 < 18446744073709551616 := by have := a5.at k; have := X.out; omega
    have E : Hid (x0 / 2 ^ r % 2 = Nm.val zs / 2 ^ i % 2) := by
      rw [Hid, X.out]
      exact (Nm.bit_at zs i k r (by have := HK.out; have := HR.out; omega) (by omega) a5 (by omega)).symm
    have hq : ii / 64 = (k : Int) := HK.out.1
    have hkn : (k : Int) < (n : Int) := by omega
    have hkn' : ¬ (n : Int) ≤ (k : Int) := by omega
    clear hii a4
    go_enter Tryz.func63, Tryz.ntmps63
    go_wp2
    clear hq
    go_loop [5, 6] (fun y t => ∃ (c : Nat) (x : Int), c ≤ r ∧ t = .int .i64 c ∧ y = .int .u64 x ∧ 0 ≤ x ∧ x ≤ x0 ∧ Hid (x = x0 / 2 ^ c)) (fun _ t => r - (intOf t).toNat)
    case atStart => exact ⟨0, x0, Nat.zero_le _, rfl, rfl, hx0, by omega, by simp [Hid]⟩
    case round =>
      obtain ⟨c, x, hc, rfl, rfl, h1, h2, HX⟩ := hrel
      by_cases hlt : c < r
      · have hlt' : (c : Int) < ii % 64 := by have := HR.out; omega
        obtain ⟨y, hy, Y⟩ : ∃ y, x / 2 = y ∧ Hid (y = x / 2) := ⟨_, rfl, rfl⟩
        have hy0 : 0 ≤ y := by omega
        have hyx : y ≤ x0 := by omega
        have YX : Hid (y = x0 / 2 ^ (c + 1)) := by rw [Hid, Y.out, HX.out, half_more]
        go_wp2
        go_round
        case rel => exact ⟨c + 1, y, by omega, by go_num, by first | rfl | rw [hy], hy0, hyx, YX.out⟩
        case measure => simp [intOf]; omega
      · have hlt' : ¬ (c : Int) < ii % 64 := by have := HR.out; omega
        obtain rfl : c = r := by omega
        obtain ⟨y, hy, Y⟩ : ∃ y, x % 2 = y ∧ Hid (y = x % 2) := ⟨_, rfl, rfl⟩
        have hy0 : 0 ≤ y := by omega
        have hy1 : y ≤ 1 := by omega
        have E2 : Hid (y = Nm.val zs / 2 ^ i % 2) := by rw [Hid, Y.out, HX.out]; exact E.out
        go_wp2
        go_ret
        exact ⟨ret_i64 E2.out, rfl⟩
end Go.Proofs.YtggiioipppbedaaGreatDoor
