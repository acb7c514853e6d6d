/-
  Texts put together: IEnc3, ZAlike, IWalk1, ZAsk, ZPut, ZDecA, ZDec, ZAsk1, EAsk0, EAsk1, EAsk2.
-/
import Derived.Test.YtbmbijadnojfaaaGreatDoorRB
import Derived.Test.YtbmbijadnojfaaaGreatDoorZRef1
import Derived.Test.YtbmbijadnojfaaaGreatDoorIWalk1B
import Derived.Test.YtbmbijadnojfaaaGreatDoorIWalk1C
import Derived.Test.YtbmbijadnojfaaaGreatDoorIDec
/-
  ieee: joined and Encode of any parts.
-/
namespace Go.Proofs.YtbmbijadnojfaaaGreatDoor
open Go Go.RowKit Go.Deep

namespace Ie
/-- The exponent field that joined makes. -/
def jf (c e : Int) : Int := if c = 2 then (e + 1075) % 2048 else if c = 3 ∨ c = 4 then 2047 else 0
/-- What joined makes of any parts. -/
def jn (neg : Bool) (c m e : Int) : Int := sg neg (m % 4503599627370496 + jf c e * 4503599627370496)

theorem jn_dec (d : Int) (h0 : 0 ≤ d) (h1 : d < 18446744073709551616) : jn (decide (9223372036854775808 ≤ d)) (cls d) (dm d) (de d) = d := by
  have sb := sg_back d h0 h1
  have key : dm d % 4503599627370496 + jf (cls d) (de d) * 4503599627370496 = d % 9223372036854775808 := by
    rcases dec_kinds d _ rfl with ⟨c, m, x, k1⟩ | ⟨c, m, x, k1, k2⟩ | ⟨c, m, x, k1, k2⟩ | ⟨c, m, x, k1⟩ | ⟨c, m, x, k1, k2⟩
    · rw [c, m, x, jf, if_neg (by omega), if_neg (by omega)]; omega
    · rw [c, m, x, jf, if_neg (by omega), if_neg (by omega)]; omega
    · rw [c, m, x, jf, if_pos rfl, man, if_neg (by omega), ex]; omega
    · rw [c, m, x, jf, if_neg (by omega), if_pos (by omega)]; omega
    · rw [c, m, x, jf, if_neg (by omega), if_pos (by omega)]; omega
  rw [jn, key, sb]
end Ie

set_option maxRecDepth 100000 in
set_option maxHeartbeats 4000000 in
theorem joined_any (neg : Bool) (c m e : Int) (w : World) (m0 : 0 ≤ m) (m1 : m < 18446744073709551616) :
    Calls Tryz.prog 65 #[partsOf neg c m e] w fun r w' => r = .returned (.int .u64 (Ie.jn neg c m e)) ∧ Below w.heap.size w w' := by
  obtain ⟨y, hy⟩ : ∃ y, m % 4503599627370496 = y := ⟨_, rfl⟩
  have y0 : 0 ≤ y := by omega
  have y1 : y < 4503599627370496 := by omega
  have F := Ib.frac_and m m0 m1
  rw [hy] at F
  obtain ⟨f, hf⟩ : ∃ f, Ie.jf c e = f := ⟨_, rfl⟩
  have fb : 0 ≤ f ∧ f ≤ 2047 := by
    rw [← hf, Ie.jf]
    split
    · omega
    · split <;> omega
  have SG : Hid (∀ (wx : World) (x : Int), x = y + f * 4503599627370496 → Calls Tryz.prog 47 #[.bool neg, .int .u64 x] wx fun r w' => r = .returned (.int .u64 (Ie.jn neg c m e)) ∧ w' = wx) := by
    intro wx x hx
    have := signed_any neg x wx (by omega) (by omega)
    rw [Ie.jn, hy, hf, ← hx]
    exact this
  have O1 := Ib.field_or y f y0 y1 fb.1 (by omega)
  have O2 := Ie.fin_or y y0 y1
  have WF : IntKind.u64.wrap (f * 4503599627370496) = f * 4503599627370496 := by rw [IntKind.wrap_u64]; omega
  obtain ⟨fb0, fb1⟩ := fb
  simp only [partsOf]
  by_cases c2 : c = 2
  · subst c2
    have hf2 : (e + 1075) % 2048 = f := by rw [← hf, Ie.jf, if_pos rfl]
    have AX : Hid (bits .and .u64 (IntKind.u64.wrap (wrap64 (wrap64 (e + 1074) + 1))) 2047 = f) := by
      rw [Hid, Ib.field_and _ (by rw [IntKind.wrap_u64]; omega) (by rw [IntKind.wrap_u64]; omega), IntKind.wrap_u64, ← hf2]
      simp only [wrap64]
      omega
    have OO := hid O1
    have WW := hid WF
    clear hf hy hf2 O1 O2 WF
    go_enter Tryz.func65, Tryz.ntmps65
    go_wp2_with fail
    refine (SG.out _ _ (by rw [AX.out, WW.out, OO.out])).mono ?_
    rintro r w' ⟨rfl, rfl⟩
    go_wp2_with fail
    go_ret
    exact ⟨rfl, alloc_below _ _⟩
  · have c2' : (c == 2) = false := by rw [beq_eq_false_iff_ne]; exact c2
    by_cases c3 : c = 3
    · subst c3
      have hf2 : f = 2047 := by rw [← hf, Ie.jf, if_neg (by omega), if_pos (by omega)]
      subst hf2
      clear hf hy
      go_enter Tryz.func65, Tryz.ntmps65
      go_wp2_with fail
      refine (SG.out _ _ (by omega)).mono ?_
      rintro r w' ⟨rfl, rfl⟩
      go_wp2_with fail
      go_ret
      exact ⟨rfl, alloc_below _ _⟩
    · have c3' : (c == 3) = false := by rw [beq_eq_false_iff_ne]; exact c3
      by_cases c4 : c = 4
      · subst c4
        have hf2 : f = 2047 := by rw [← hf, Ie.jf, if_neg (by omega), if_pos (by omega)]
        subst hf2
        clear hf hy
        go_enter Tryz.func65, Tryz.ntmps65
        go_wp2_with fail
        refine (SG.out _ _ (by omega)).mono ?_
        rintro r w' ⟨rfl, rfl⟩
        go_wp2_with fail
        go_ret
        exact ⟨rfl, alloc_below _ _⟩
      · have c4' : (c == 4) = false := by rw [beq_eq_false_iff_ne]; exact c4
        have hf2 : f = 0 := by rw [← hf, Ie.jf, if_neg c2, if_neg (by omega)]
        subst hf2
        clear hf hy
        go_enter Tryz.func65, Tryz.ntmps65
        go_wp2_with fail
        refine (SG.out _ _ (by omega)).mono ?_
        rintro r w' ⟨rfl, rfl⟩
        go_wp2_with fail
        go_ret
        exact ⟨rfl, alloc_below _ _⟩

theorem Ie.jn_bd (neg : Bool) (c m e : Int) : 0 ≤ Ie.jn neg c m e ∧ Ie.jn neg c m e < 18446744073709551616 ∧ decide (9223372036854775808 ≤ Ie.jn neg c m e) = neg := by
  have fb : 0 ≤ Ie.jf c e ∧ Ie.jf c e ≤ 2047 := by
    rw [Ie.jf]
    split
    · omega
    · split <;> omega
  rw [Ie.jn]
  generalize Ie.jf c e = f at *
  cases neg
  · refine ⟨by simp [Ie.sg]; omega, by simp [Ie.sg]; omega, by simp [Ie.sg]; omega⟩
  · refine ⟨by simp [Ie.sg]; omega, by simp [Ie.sg]; omega, by simp [Ie.sg]; omega⟩

/-- What Encode tells: the one double with these parts, or ErrParts. -/
def EncIs (neg : Bool) (c m e d err : Int) : Prop :=
  ((0 ≤ d ∧ d < 18446744073709551616) ∧ (decide (9223372036854775808 ≤ d) = neg ∧ Ie.cls d = c ∧ Ie.dm d = m ∧ Ie.de d = e) ∧ err = 0) ∨
  ((∀ x, 0 ≤ x → x < 18446744073709551616 → ¬ (decide (9223372036854775808 ≤ x) = neg ∧ Ie.cls x = c ∧ Ie.dm x = m ∧ Ie.de x = e)) ∧ d = 0 ∧ err = 40)

theorem EncIs.one {neg : Bool} {c m e d err d' err' : Int} (h : EncIs neg c m e d err) (h' : EncIs neg c m e d' err') : d = d' ∧ err = err' := by
  rcases h with ⟨⟨a, b⟩, ⟨k1, k2, k3, k4⟩, rfl⟩ | ⟨n, rfl, rfl⟩
  · rcases h' with ⟨⟨a', b'⟩, ⟨k1', k2', k3', k4'⟩, rfl⟩ | ⟨n', _, _⟩
    · have e1 := Ie.jn_dec d a b
      have e2 := Ie.jn_dec d' a' b'
      rw [k1, k2, k3, k4] at e1
      rw [k1', k2', k3', k4'] at e2
      exact ⟨e1.symm.trans e2, rfl⟩
    · exact absurd ⟨k1, k2, k3, k4⟩ (n' d a b)
  · rcases h' with ⟨⟨a', b'⟩, k, rfl⟩ | ⟨n', rfl, rfl⟩
    · exact absurd k (n d' a' b')
    · exact ⟨rfl, rfl⟩

theorem enc_no {neg : Bool} {c m e : Int} (h : ¬ (Ie.cls (Ie.jn neg c m e) = c ∧ Ie.dm (Ie.jn neg c m e) = m ∧ Ie.de (Ie.jn neg c m e) = e)) : EncIs neg c m e 0 40 := by
  refine .inr ⟨fun x x0 x1 k => h ?_, rfl, rfl⟩
  have := Ie.jn_dec x x0 x1
  rw [k.1, k.2.1, k.2.2.1, k.2.2.2] at this
  rw [this]
  exact k.2

set_option maxRecDepth 100000 in
set_option maxHeartbeats 8000000 in
theorem encode_any (neg : Bool) (c m x : Int) (w : World) (m0 : 0 ≤ m) (m1 : m < 18446744073709551616) :
    Calls Tryz.prog 31 #[partsOf neg c m x] w fun e w' => ∃ d err, e = .returned (.tuple #[.int .u64 d, .int .i64 err]) ∧ EncIs neg c m x d err ∧ Below w.heap.size w w' := by
  obtain ⟨j0, j1, js⟩ := Ie.jn_bd neg c m x
  have JO := hid (fun (wx : World) => joined_any neg c m x wx m0 m1)
  have DE := hid (fun (wx : World) => decode_any (Ie.jn neg c m x) wx j0 j1)
  rw [js] at DE
  have YES : Hid ((Ie.cls (Ie.jn neg c m x) = c ∧ Ie.dm (Ie.jn neg c m x) = m ∧ Ie.de (Ie.jn neg c m x) = x) → EncIs neg c m x (Ie.jn neg c m x) 0) := fun k => .inl ⟨⟨j0, j1⟩, ⟨js, k⟩, rfl⟩
  have NO := hid (fun h => enc_no (neg := neg) (c := c) (m := m) (e := x) h)
  generalize Ie.jn neg c m x = d at *
  generalize Ie.cls d = c' at *
  generalize Ie.dm d = m' at *
  generalize Ie.de d = x' at *
  simp only [partsOf] at *
  have AL : Hid (∀ (g : Obj) (w1 : World), g = .cells #[.bool neg, .int .i64 c, .int .u64 m, .int .i64 x] 26 → Below (w.alloc g).heap.size (w.alloc g) w1 → Below w.heap.size w w1 ∧ w1.cell? ⟨w.heap.size, 0, none⟩ = some (.bool neg) ∧ w1.cell? ⟨w.heap.size, 1, none⟩ = some (.int .i64 c) ∧ w1.cell? ⟨w.heap.size, 2, none⟩ = some (.int .u64 m) ∧ w1.cell? ⟨w.heap.size, 3, none⟩ = some (.int .i64 x)) := by
    intro g w1 hg hB
    subst hg
    have hb := alloc_below w (.cells #[.bool neg, .int .i64 c, .int .u64 m, .int .i64 x] 26)
    have hg := heap_alloc_new w (.cells #[.bool neg, .int .i64 c, .int .u64 m, .int .i64 x] 26)
    have hg1 : w1.heap[w.heap.size]? = some (.cells #[.bool neg, .int .i64 c, .int .u64 m, .int .i64 x] 26 (0, 0)) := by rw [hB.block _ (by simp)]; exact hg
    refine ⟨hb.trans (hB.mono hb.size), ?_, ?_, ?_, ?_⟩ <;> simp only [World.cell?, hg1] <;> rfl
  clear j0 j1 js m0 m1
  have four : (c' = c ∧ m' = m ∧ x' = x) ∨ (c' == c) = false ∨ (c' = c ∧ (m' == m) = false) ∨ (c' = c ∧ m' = m ∧ (x' == x) = false) := by
    by_cases a : c' = c
    · by_cases b : m' = m
      · by_cases d : x' = x
        · exact .inl ⟨a, b, d⟩
        · exact .inr (.inr (.inr ⟨a, b, by rw [beq_eq_false_iff_ne]; exact d⟩))
      · exact .inr (.inr (.inl ⟨a, by rw [beq_eq_false_iff_ne]; exact b⟩))
    · exact .inr (.inl (by rw [beq_eq_false_iff_ne]; exact a))
  rcases four with ⟨k1, k2, k3⟩ | k1 | ⟨k1, k2⟩ | ⟨k1, k2, k3⟩
  · have EE := hid (YES.out ⟨k1, k2, k3⟩)
    clear YES NO
    subst k1
    subst k2
    subst k3
    go_enter Tryz.func31, Tryz.ntmps31
    go_wp2_with fail
    refine (JO.out _).mono ?_
    rintro e w1 ⟨rfl, hB⟩
    obtain ⟨hB1, c0, c1, c2, c3⟩ := AL.out _ _ rfl hB
    have HB1 := hid hB1
    have CA : Hid (∀ wx w2 : World, wx.heap = w1.heap → Below w.heap.size w wx → Below wx.heap.size wx w2 → Below w.heap.size w w2 ∧ w2.cell? ⟨w.heap.size, 0, none⟩ = some (.bool neg) ∧ w2.cell? ⟨w.heap.size, 1, none⟩ = some (.int .i64 c') ∧ w2.cell? ⟨w.heap.size, 2, none⟩ = some (.int .u64 m') ∧ w2.cell? ⟨w.heap.size, 3, none⟩ = some (.int .i64 x')) := by
      intro wx w2 hh hw hB2
      have lt : w.heap.size < wx.heap.size := by rw [hh]; exact cell_lt c0
      have eq : ∀ o, wx.cell? ⟨w.heap.size, o, none⟩ = w1.cell? ⟨w.heap.size, o, none⟩ := fun o => World.cell?_of_block (by rw [hh])
      exact ⟨hw.trans (hB2.mono hw.size), by rw [hB2.cell (p := ⟨w.heap.size, 0, none⟩) lt, eq]; exact c0, by rw [hB2.cell (p := ⟨w.heap.size, 1, none⟩) lt, eq]; exact c1, by rw [hB2.cell (p := ⟨w.heap.size, 2, none⟩) lt, eq]; exact c2, by rw [hB2.cell (p := ⟨w.heap.size, 3, none⟩) lt, eq]; exact c3⟩
    clear hB hB1 AL JO
    go_wp2_with fail
    go_region_with (go_at_call 10; refine (DE.out _).mono ?_; rintro e w2 ⟨rfl, hB2⟩; obtain ⟨hB3, k0, k1', k2', k3'⟩ := CA.out w1.drew w2 rfl (below_drew1 HB1.out) hB2; have HB2 := hid hB3; clear hB2 hB3)
    all_goals (go_wp2_with fail; go_ret2; exact ⟨_, _, rfl, EE.out, HB2.out⟩)
  · have EE := hid (NO.out (fun h => by rw [h.1] at k1; simp at k1))
    clear YES NO
    go_enter Tryz.func31, Tryz.ntmps31
    go_wp2_with fail
    refine (JO.out _).mono ?_
    rintro e w1 ⟨rfl, hB⟩
    obtain ⟨hB1, c0, c1, c2, c3⟩ := AL.out _ _ rfl hB
    have HB1 := hid hB1
    have CA : Hid (∀ wx w2 : World, wx.heap = w1.heap → Below w.heap.size w wx → Below wx.heap.size wx w2 → Below w.heap.size w w2 ∧ w2.cell? ⟨w.heap.size, 0, none⟩ = some (.bool neg) ∧ w2.cell? ⟨w.heap.size, 1, none⟩ = some (.int .i64 c) ∧ w2.cell? ⟨w.heap.size, 2, none⟩ = some (.int .u64 m) ∧ w2.cell? ⟨w.heap.size, 3, none⟩ = some (.int .i64 x)) := by
      intro wx w2 hh hw hB2
      have lt : w.heap.size < wx.heap.size := by rw [hh]; exact cell_lt c0
      have eq : ∀ o, wx.cell? ⟨w.heap.size, o, none⟩ = w1.cell? ⟨w.heap.size, o, none⟩ := fun o => World.cell?_of_block (by rw [hh])
      exact ⟨hw.trans (hB2.mono hw.size), by rw [hB2.cell (p := ⟨w.heap.size, 0, none⟩) lt, eq]; exact c0, by rw [hB2.cell (p := ⟨w.heap.size, 1, none⟩) lt, eq]; exact c1, by rw [hB2.cell (p := ⟨w.heap.size, 2, none⟩) lt, eq]; exact c2, by rw [hB2.cell (p := ⟨w.heap.size, 3, none⟩) lt, eq]; exact c3⟩
    clear hB hB1 AL JO
    go_wp2_with fail
    go_region_with (go_at_call 10; refine (DE.out _).mono ?_; rintro e w2 ⟨rfl, hB2⟩; obtain ⟨hB3, k0, k1', k2', k3'⟩ := CA.out w1.drew w2 rfl (below_drew1 HB1.out) hB2; have HB2 := hid hB3; clear hB2 hB3)
    all_goals (go_wp2_with fail; go_ret2; exact ⟨_, _, rfl, EE.out, HB2.out⟩)
  · have EE := hid (NO.out (fun h => by rw [h.2.1] at k2; simp at k2))
    clear YES NO
    subst k1
    go_enter Tryz.func31, Tryz.ntmps31
    go_wp2_with fail
    refine (JO.out _).mono ?_
    rintro e w1 ⟨rfl, hB⟩
    obtain ⟨hB1, c0, c1, c2, c3⟩ := AL.out _ _ rfl hB
    have HB1 := hid hB1
    have CA : Hid (∀ wx w2 : World, wx.heap = w1.heap → Below w.heap.size w wx → Below wx.heap.size wx w2 → Below w.heap.size w w2 ∧ w2.cell? ⟨w.heap.size, 0, none⟩ = some (.bool neg) ∧ w2.cell? ⟨w.heap.size, 1, none⟩ = some (.int .i64 c') ∧ w2.cell? ⟨w.heap.size, 2, none⟩ = some (.int .u64 m) ∧ w2.cell? ⟨w.heap.size, 3, none⟩ = some (.int .i64 x)) := by
      intro wx w2 hh hw hB2
      have lt : w.heap.size < wx.heap.size := by rw [hh]; exact cell_lt c0
      have eq : ∀ o, wx.cell? ⟨w.heap.size, o, none⟩ = w1.cell? ⟨w.heap.size, o, none⟩ := fun o => World.cell?_of_block (by rw [hh])
      exact ⟨hw.trans (hB2.mono hw.size), by rw [hB2.cell (p := ⟨w.heap.size, 0, none⟩) lt, eq]; exact c0, by rw [hB2.cell (p := ⟨w.heap.size, 1, none⟩) lt, eq]; exact c1, by rw [hB2.cell (p := ⟨w.heap.size, 2, none⟩) lt, eq]; exact c2, by rw [hB2.cell (p := ⟨w.heap.size, 3, none⟩) lt, eq]; exact c3⟩
    clear hB hB1 AL JO
    go_wp2_with fail
    go_region_with (go_at_call 10; refine (DE.out _).mono ?_; rintro e w2 ⟨rfl, hB2⟩; obtain ⟨hB3, k0, k1', k2', k3'⟩ := CA.out w1.drew w2 rfl (below_drew1 HB1.out) hB2; have HB2 := hid hB3; clear hB2 hB3)
    all_goals (go_wp2_with fail; go_ret2; exact ⟨_, _, rfl, EE.out, HB2.out⟩)
  · have EE := hid (NO.out (fun h => by rw [h.2.2] at k3; simp at k3))
    clear YES NO
    subst k1
    subst k2
    go_enter Tryz.func31, Tryz.ntmps31
    go_wp2_with fail
    refine (JO.out _).mono ?_
    rintro e w1 ⟨rfl, hB⟩
    obtain ⟨hB1, c0, c1, c2, c3⟩ := AL.out _ _ rfl hB
    have HB1 := hid hB1
    have CA : Hid (∀ wx w2 : World, wx.heap = w1.heap → Below w.heap.size w wx → Below wx.heap.size wx w2 → Below w.heap.size w w2 ∧ w2.cell? ⟨w.heap.size, 0, none⟩ = some (.bool neg) ∧ w2.cell? ⟨w.heap.size, 1, none⟩ = some (.int .i64 c') ∧ w2.cell? ⟨w.heap.size, 2, none⟩ = some (.int .u64 m') ∧ w2.cell? ⟨w.heap.size, 3, none⟩ = some (.int .i64 x)) := by
      intro wx w2 hh hw hB2
      have lt : w.heap.size < wx.heap.size := by rw [hh]; exact cell_lt c0
      have eq : ∀ o, wx.cell? ⟨w.heap.size, o, none⟩ = w1.cell? ⟨w.heap.size, o, none⟩ := fun o => World.cell?_of_block (by rw [hh])
      exact ⟨hw.trans (hB2.mono hw.size), by rw [hB2.cell (p := ⟨w.heap.size, 0, none⟩) lt, eq]; exact c0, by rw [hB2.cell (p := ⟨w.heap.size, 1, none⟩) lt, eq]; exact c1, by rw [hB2.cell (p := ⟨w.heap.size, 2, none⟩) lt, eq]; exact c2, by rw [hB2.cell (p := ⟨w.heap.size, 3, none⟩) lt, eq]; exact c3⟩
    clear hB hB1 AL JO
    go_wp2_with fail
    go_region_with (go_at_call 10; refine (DE.out _).mono ?_; rintro e w2 ⟨rfl, hB2⟩; obtain ⟨hB3, k0, k1', k2', k3'⟩ := CA.out w1.drew w2 rfl (below_drew1 HB1.out) hB2; have HB2 := hid hB3; clear hB2 hB3)
    all_goals (go_wp2_with fail; go_ret2; exact ⟨_, _, rfl, EE.out, HB2.out⟩)
end Go.Proofs.YtbmbijadnojfaaaGreatDoor

/-
  The law's alike.
-/
namespace Go.Proofs.YtbmbijadnojfaaaGreatDoor
open Go Go.RowKit Go.Deep

/-- What a call answers, as a value. -/
def ansOf (u i j : Int) (b neg : Bool) (c m x : Int) (l : Value) (e : Int) : Value :=
  .agg #[.int .u64 u, .int .i64 i, .int .i64 j, .bool b, .bool neg, .int .i64 c, .int .u64 m, .int .i64 x, l, .int .i64 e]

theorem alloc2_below (w : World) (g g' : Obj) : Below w.heap.size w ((w.alloc g).alloc g') := Below.alloc (alloc_below w g) (alloc_below w g).size g'

set_option maxRecDepth 100000 in
set_option maxHeartbeats 8000000 in
theorem alike_same (u i j : Int) (b neg : Bool) (c m x e : Int) (p q : Option Addr) (n k cap cap' : Nat) (zs : List Int) (w : World) (A : Arg w p n cap zs) (B : Arg w q k cap' zs) :
    Calls Tryz.prog 7 #[ansOf u i j b neg c m x (.slice p n cap) e, ansOf u i j b neg c m x (.slice q k cap') e] w fun r w' => r = .returned (.bool true) ∧ Below w.heap.size w w' := by
  simp only [ansOf]
  have SA : Hid (∀ wx, Below w.heap.size w wx → Calls Tryz.prog 30 #[.slice p n cap, .slice q k cap'] wx fun e w' => e = .returned (.bool true) ∧ Below w.heap.size w w') := by
    intro wx hB
    refine (refSame_any p q n cap k cap' zs zs wx (A.below hB (Nat.le_refl _)) (B.below hB (Nat.le_refl _))).mono ?_
    rintro r w' ⟨rfl, h⟩
    exact ⟨by simp, hB.trans (h.mono hB.size)⟩
  clear A B
  go_enter Tryz.func7, Tryz.ntmps7
  go_wp2_with fail
  refine (SA.out _ (alloc2_below w _ _)).mono ?_
  rintro r w' ⟨rfl, hB⟩
  have HB := hid hB
  clear hB SA
  go_wp2_with fail
  go_ret
  exact ⟨rfl, HB.out⟩
end Go.Proofs.YtbmbijadnojfaaaGreatDoor

/-
  ieee: Abs.
-/
namespace Go.Proofs.YtbmbijadnojfaaaGreatDoor
open Go Go.RowKit Go.Deep

set_option maxRecDepth 100000 in
theorem abs_any (d : Int) (w : World) (h0 : 0 ≤ d) (h1 : d < 18446744073709551616) :
    Calls Tryz.prog 34 #[.int .u64 d] w fun e w' => e = .returned (.int .u64 (d % 9223372036854775808)) ∧ w' = w := by
  have B := Ib.sign_andNot d h0 h1
  go_enter Tryz.func34, Tryz.ntmps34
  go_wp2
  go_ret
  exact ⟨rfl, rfl⟩
end Go.Proofs.YtbmbijadnojfaaaGreatDoor

/-
  The law's asked: a first kind (4), what the others need.
-/
namespace Go.Proofs.YtbmbijadnojfaaaGreatDoor
open Go Go.RowKit Go.Deep

/-- A call, as a value. -/
def opOf (k X Y I : Int) (pn : Bool) (pc pm px : Int) (neg : Bool) (N D : Value) (ex : Int) (more : Bool) : Value :=
  .agg #[.int .i64 k, .int .u64 X, .int .u64 Y, .int .i64 I, .bool pn, .int .i64 pc, .int .u64 pm, .int .i64 px, .bool neg, N, D, .int .i64 ex, .bool more]

theorem alloc3_below (w : World) (g g' g'' : Obj) : Below w.heap.size w (((w.alloc g).alloc g').alloc g'') := Below.alloc (alloc2_below w g g') (alloc2_below w g g').size g''

theorem heap_alloc3_mid (w : World) (g : Obj) (c : Array Value) (t : Nat) (g'' : Obj) : (((w.alloc g).alloc (.cells c t)).alloc g'').heap[w.heap.size + 1]? = some (.cells c t (0, 0)) := by
  have e : (w.alloc g).heap.size = w.heap.size + 1 := by simp
  have := heap_alloc2_old (w.alloc g) (.cells c t) g''
  rw [e] at this
  exact this

theorem mid_kept {w w' : World} {g : Obj} {c c' : Array Value} {t t' : Nat} (h : Below (((w.alloc g).alloc (.cells c t)).alloc (.cells c' t')).heap.size (((w.alloc g).alloc (.cells c t)).alloc (.cells c' t')) w') :
    w'.heap[w.heap.size + 1]? = some (.cells c t (0, 0)) ∧ w'.heap[w.heap.size + 1 + 1]? = some (.cells c' t' (0, 0)) := by
  have e : ((w.alloc g).alloc (.cells c t)).heap.size = w.heap.size + 1 + 1 := by simp
  constructor
  · rw [h.block _ (by simp)]; exact heap_alloc3_mid _ _ _ _ _
  · rw [h.block _ (by simp)]
    have := heap_alloc_new ((w.alloc g).alloc (.cells c t)) (.cells c' t')
    rw [e] at this
    exact this

set_option maxRecDepth 100000 in
set_option maxHeartbeats 8000000 in
theorem asked4 (X Y I : Int) (pn : Bool) (pc pm px : Int) (neg : Bool) (p q : Option Addr) (n k cap cap' : Nat) (ex : Int) (more : Bool) (w : World) (U : Int)
    (H : ∀ wx : World, Calls Tryz.prog 33 #[.int .u64 X] wx fun r w' => r = .returned (.int .u64 U) ∧ w' = wx) :
    Calls Tryz.prog 8 #[opOf 4 X Y I pn pc pm px neg (.slice p n cap) (.slice q k cap') ex more] w fun r w' => r = .returned (ansOf U 0 0 false false 0 0 0 (.slice none 0 0) 0) ∧ Below w.heap.size w w' := by
  simp only [opOf, ansOf]
  have H := hid H
  go_enter Tryz.func8, Tryz.ntmps8
  go_wp2_with fail
  refine (H.out _).mono ?_
  rintro r w' ⟨rfl, hw⟩
  subst hw
  clear H
  go_wp2_with fail
  (try simp only [Exit.inBlock, Exit.then])
  refine bodyPost_ret (results_cell_row rfl _ _ (w.heap.size + 1) 31 _ (0, 0) _ rfl (heap_alloc3_mid _ _ _ _ _) Tryz.underlying31 rfl (by kernel_rfl)) rfl ?_
  exact ⟨rfl, alloc3_below _ _ _ _⟩
end Go.Proofs.YtbmbijadnojfaaaGreatDoor

namespace Go.Proofs.YtbmbijadnojfaaaGreatDoor
open Go Go.RowKit Go.Deep

set_option maxRecDepth 100000 in
theorem zput_any (neg : Bool) (e f : Int) (w : World) (e0 : 0 ≤ e) (e1 : e ≤ 2047) (f0 : 0 ≤ f) (f1 : f ≤ 9007199254740992) (h : e * 4503599627370496 + f < 9223372036854775808) :
    Calls Tryz.prog 52 #[.bool neg, .int .i64 e, .int .u64 f] w fun r w' => r = .returned (.int .u64 (Ie.sg neg (e * 4503599627370496 + f))) ∧ w' = w := by
  cases neg
  · go_enter Tryz.func52, Tryz.ntmps52
    go_wp2
    go_ret
    exact ⟨rfl, rfl⟩
  · go_enter Tryz.func52, Tryz.ntmps52
    go_wp2
    go_ret
    exact ⟨rfl, rfl⟩

theorem ret_sg {neg : Bool} {a b : Int} (h : a = b) : Ending.returned (.tuple #[.int .u64 (Ie.sg neg a), .int .i64 0]) = .returned (.tuple #[.int .u64 (Ie.sg neg b), .int .i64 0]) := by rw [h]
end Go.Proofs.YtbmbijadnojfaaaGreatDoor

/-
  The document's put and Decode.
-/
namespace Go.Proofs.YtbmbijadnojfaaaGreatDoor
open Go Go.RowKit Go.Deep

set_option maxRecDepth 100000 in
set_option maxHeartbeats 4000000 in
theorem zdecode_any (d : Int) (w : World) (h0 : 0 ≤ d) (h1 : d < 18446744073709551616) :
    Calls Tryz.prog 12 #[.int .u64 d] w fun e w' => e = .returned (partsOf (decide (9223372036854775808 ≤ d)) (Ie.cls d) (Ie.dm d) (Ie.de d)) ∧ Below w.heap.size w w' := by
  obtain ⟨f, hf⟩ : ∃ f, d / 4503599627370496 % 2048 = f := ⟨_, rfl⟩
  obtain ⟨y, hy⟩ : ∃ y, d % 4503599627370496 = y := ⟨_, rfl⟩
  obtain ⟨sv, hs⟩ : ∃ sv, d / 9223372036854775808 = sv := ⟨_, rfl⟩
  have hf' : Ie.fld d = f := hf
  have fb0 : 0 ≤ f := by omega
  have fb1 : f < 2048 := by omega
  have y0 : 0 ≤ y := by omega
  have y1 : y < 4503599627370496 := by omega
  have sc : (sv = 0 ∧ decide (9223372036854775808 ≤ d) = false) ∨ (sv = 1 ∧ decide (9223372036854775808 ≤ d) = true) := by
    rcases (show d < 9223372036854775808 ∨ 9223372036854775808 ≤ d by omega) with h | h
    · left; exact ⟨by omega, by simp; omega⟩
    · right; exact ⟨by omega, by simp; omega⟩
  have hc : Ie.cls d = if f = 0 then (if y = 0 then 0 else 1) else if f = 2047 then (if y = 0 then 3 else 4) else 2 := by rw [Ie.cls, hf', hy]
  have hm : Ie.dm d = if Ie.cls d = 2 then 4503599627370496 + y else if Ie.cls d = 1 ∨ Ie.cls d = 4 then y else 0 := by rw [Ie.dm, hy]
  have he : Ie.de d = if Ie.cls d = 2 then f - 1075 else if Ie.cls d = 1 then -1074 else 0 := by rw [Ie.de, hf']
  rcases sc with ⟨hv, sn⟩ | ⟨hv, sn⟩ <;> rw [sn] <;> rw [hv] at hs <;> clear hv sn
  · by_cases a : f = 0
    · subst a
      by_cases b : y = 0
      · subst b
        rw [if_pos rfl, if_pos rfl] at hc
        rw [hm, he, hc]
        show Calls _ _ _ _ fun e w' => e = .returned (partsOf _ 0 0 0) ∧ _
        go_enter Tryz.func12, Tryz.ntmps12
        go_wp2_with fail
        (try simp only [Exit.inBlock, Exit.then])
        refine bodyPost_ret (results_cell_row rfl _ _ w.heap.size 26 _ (0, 0) _ rfl (heap_alloc_new _ _) Tryz.underlying26 rfl (by kernel_rfl)) rfl ?_
        exact ⟨rfl, Below.alloc (Below.refl _ _) (Nat.le_refl _) _⟩
      · have b' : (y == 0) = false := by rw [beq_eq_false_iff_ne]; exact b
        rw [if_pos rfl, if_neg b] at hc
        rw [hm, he, hc]
        show Calls _ _ _ _ fun e w' => e = .returned (partsOf _ 1 y (-1074)) ∧ _
        go_enter Tryz.func12, Tryz.ntmps12
        go_wp2_with fail
        (try simp only [Exit.inBlock, Exit.then])
        refine bodyPost_ret (results_cell_row rfl _ _ w.heap.size 26 _ (0, 0) _ rfl (heap_alloc_new _ _) Tryz.underlying26 rfl (by kernel_rfl)) rfl ?_
        exact ⟨rfl, Below.alloc (Below.refl _ _) (Nat.le_refl _) _⟩
    · have a' : (f == 0) = false := by rw [beq_eq_false_iff_ne]; exact a
      have ap : 0 < f := by omega
      by_cases a2 : f = 2047
      · subst a2
        by_cases b : y = 0
        · subst b
          rw [if_neg a, if_pos rfl, if_pos rfl] at hc
          rw [hm, he, hc]
          show Calls _ _ _ _ fun e w' => e = .returned (partsOf _ 3 0 0) ∧ _
          go_enter Tryz.func12, Tryz.ntmps12
          go_wp2_with fail
          (try simp only [Exit.inBlock, Exit.then])
          refine bodyPost_ret (results_cell_row rfl _ _ w.heap.size 26 _ (0, 0) _ rfl (heap_alloc_new _ _) Tryz.underlying26 rfl (by kernel_rfl)) rfl ?_
          exact ⟨rfl, Below.alloc (Below.refl _ _) (Nat.le_refl _) _⟩
        · have b' : (y == 0) = false := by rw [beq_eq_false_iff_ne]; exact b
          rw [if_neg a, if_pos rfl, if_neg b] at hc
          rw [hm, he, hc]
          show Calls _ _ _ _ fun e w' => e = .returned (partsOf _ 4 y 0) ∧ _
          go_enter Tryz.func12, Tryz.ntmps12
          go_wp2_with fail
          (try simp only [Exit.inBlock, Exit.then])
          refine bodyPost_ret (results_cell_row rfl _ _ w.heap.size 26 _ (0, 0) _ rfl (heap_alloc_new _ _) Tryz.underlying26 rfl (by kernel_rfl)) rfl ?_
          exact ⟨rfl, Below.alloc (Below.refl _ _) (Nat.le_refl _) _⟩
      · have a2' : (f == 2047) = false := by rw [beq_eq_false_iff_ne]; exact a2
        rw [if_neg a, if_neg a2] at hc
        rw [hm, he, hc]
        show Calls _ _ _ _ fun e w' => e = .returned (partsOf _ 2 (4503599627370496 + y) (f - 1075)) ∧ _
        go_enter Tryz.func12, Tryz.ntmps12
        go_wp2_with fail
        (try simp only [Exit.inBlock, Exit.then])
        refine bodyPost_ret (results_cell_row rfl _ _ w.heap.size 26 _ (0, 0) _ rfl (heap_alloc_new _ _) Tryz.underlying26 rfl (by kernel_rfl)) rfl ?_
        exact ⟨rfl, Below.alloc (Below.refl _ _) (Nat.le_refl _) _⟩
  · by_cases a : f = 0
    · subst a
      by_cases b : y = 0
      · subst b
        rw [if_pos rfl, if_pos rfl] at hc
        rw [hm, he, hc]
        show Calls _ _ _ _ fun e w' => e = .returned (partsOf _ 0 0 0) ∧ _
        go_enter Tryz.func12, Tryz.ntmps12
        go_wp2_with fail
        (try simp only [Exit.inBlock, Exit.then])
        refine bodyPost_ret (results_cell_row rfl _ _ w.heap.size 26 _ (0, 0) _ rfl (heap_alloc_new _ _) Tryz.underlying26 rfl (by kernel_rfl)) rfl ?_
        exact ⟨rfl, Below.alloc (Below.refl _ _) (Nat.le_refl _) _⟩
      · have b' : (y == 0) = false := by rw [beq_eq_false_iff_ne]; exact b
        rw [if_pos rfl, if_neg b] at hc
        rw [hm, he, hc]
        show Calls _ _ _ _ fun e w' => e = .returned (partsOf _ 1 y (-1074)) ∧ _
        go_enter Tryz.func12, Tryz.ntmps12
        go_wp2_with fail
        (try simp only [Exit.inBlock, Exit.then])
        refine bodyPost_ret (results_cell_row rfl _ _ w.heap.size 26 _ (0, 0) _ rfl (heap_alloc_new _ _) Tryz.underlying26 rfl (by kernel_rfl)) rfl ?_
        exact ⟨rfl, Below.alloc (Below.refl _ _) (Nat.le_refl _) _⟩
    · have a' : (f == 0) = false := by rw [beq_eq_false_iff_ne]; exact a
      have ap : 0 < f := by omega
      by_cases a2 : f = 2047
      · subst a2
        by_cases b : y = 0
        · subst b
          rw [if_neg a, if_pos rfl, if_pos rfl] at hc
          rw [hm, he, hc]
          show Calls _ _ _ _ fun e w' => e = .returned (partsOf _ 3 0 0) ∧ _
          go_enter Tryz.func12, Tryz.ntmps12
          go_wp2_with fail
          (try simp only [Exit.inBlock, Exit.then])
          refine bodyPost_ret (results_cell_row rfl _ _ w.heap.size 26 _ (0, 0) _ rfl (heap_alloc_new _ _) Tryz.underlying26 rfl (by kernel_rfl)) rfl ?_
          exact ⟨rfl, Below.alloc (Below.refl _ _) (Nat.le_refl _) _⟩
        · have b' : (y == 0) = false := by rw [beq_eq_false_iff_ne]; exact b
          rw [if_neg a, if_pos rfl, if_neg b] at hc
          rw [hm, he, hc]
          show Calls _ _ _ _ fun e w' => e = .returned (partsOf _ 4 y 0) ∧ _
          go_enter Tryz.func12, Tryz.ntmps12
          go_wp2_with fail
          (try simp only [Exit.inBlock, Exit.then])
          refine bodyPost_ret (results_cell_row rfl _ _ w.heap.size 26 _ (0, 0) _ rfl (heap_alloc_new _ _) Tryz.underlying26 rfl (by kernel_rfl)) rfl ?_
          exact ⟨rfl, Below.alloc (Below.refl _ _) (Nat.le_refl _) _⟩
      · have a2' : (f == 2047) = false := by rw [beq_eq_false_iff_ne]; exact a2
        rw [if_neg a, if_neg a2] at hc
        rw [hm, he, hc]
        show Calls _ _ _ _ fun e w' => e = .returned (partsOf _ 2 (4503599627370496 + y) (f - 1075)) ∧ _
        go_enter Tryz.func12, Tryz.ntmps12
        go_wp2_with fail
        (try simp only [Exit.inBlock, Exit.then])
        refine bodyPost_ret (results_cell_row rfl _ _ w.heap.size 26 _ (0, 0) _ rfl (heap_alloc_new _ _) Tryz.underlying26 rfl (by kernel_rfl)) rfl ?_
        exact ⟨rfl, Below.alloc (Below.refl _ _) (Nat.le_refl _) _⟩
end Go.Proofs.YtbmbijadnojfaaaGreatDoor

/-
  The document's layer 4: put, Abs, Neg, Finite, IsNaN, rank, Decode, Class.
-/
namespace Go.Proofs.YtbmbijadnojfaaaGreatDoor
open Go Go.RowKit Go.Deep

set_option maxRecDepth 100000 in
theorem zabs_any (d : Int) (w : World) (h0 : 0 ≤ d) (h1 : d < 18446744073709551616) :
    Calls Tryz.prog 16 #[.int .u64 d] w fun e w' => e = .returned (.int .u64 (d % 9223372036854775808)) ∧ w' = w := by
  go_enter Tryz.func16, Tryz.ntmps16
  go_wp2
  go_ret
  exact ⟨rfl, rfl⟩

set_option maxRecDepth 100000 in
theorem zneg_any (d : Int) (w : World) (h0 : 0 ≤ d) (h1 : d < 18446744073709551616) :
    Calls Tryz.prog 15 #[.int .u64 d] w fun e w' => e = .returned (.int .u64 (Ie.ng d)) ∧ w' = w := by
  by_cases h : 9223372036854775808 ≤ d
  · have E : Hid (Ie.ng d = d - 9223372036854775808) := by rw [Hid, Ie.ng, if_neg (by omega)]
    go_enter Tryz.func15, Tryz.ntmps15
    go_wp2
    go_ret
    exact ⟨i_retU E.out.symm, rfl⟩
  · have E : Hid (Ie.ng d = d + 9223372036854775808) := by rw [Hid, Ie.ng, if_pos (by omega)]
    go_enter Tryz.func15, Tryz.ntmps15
    go_wp2
    go_ret
    exact ⟨i_retU E.out.symm, rfl⟩

set_option maxRecDepth 100000 in
theorem zfinite_any (d : Int) (w : World) (h0 : 0 ≤ d) (h1 : d < 18446744073709551616) :
    Calls Tryz.prog 55 #[.int .u64 d] w fun e w' => e = .returned (.bool (decide (d % 9223372036854775808 < 9218868437227405312))) ∧ w' = w := by
  have A := hid (zabs_any d w h0 h1)
  go_enter Tryz.func55, Tryz.ntmps55
  go_wp2_with fail
  refine A.out.mono ?_
  rintro e w' ⟨rfl, rfl⟩
  go_wp2_with fail
  go_ret
  exact ⟨rfl, rfl⟩

set_option maxRecDepth 100000 in
theorem znan_any (d : Int) (w : World) (h0 : 0 ≤ d) (h1 : d < 18446744073709551616) :
    Calls Tryz.prog 53 #[.int .u64 d] w fun e w' => e = .returned (.bool (!Ie.okd d)) ∧ w' = w := by
  have A := hid (zabs_any d w h0 h1)
  have E : Hid (decide (9218868437227405312 < d % 9223372036854775808) = !Ie.okd d) := by
    rw [Hid, Ie.okd]
    by_cases h : d % 9223372036854775808 ≤ 9218868437227405312
    · rw [decide_eq_true h, decide_eq_false (by omega)]; rfl
    · rw [decide_eq_false h, decide_eq_true (by omega)]; rfl
  go_enter Tryz.func53, Tryz.ntmps53
  go_wp2_with fail
  refine A.out.mono ?_
  rintro e w' ⟨rfl, rfl⟩
  go_wp2_with fail
  go_ret
  exact ⟨by rw [← E.out]; rfl, rfl⟩

set_option maxRecDepth 100000 in
theorem zrank_any (d : Int) (w : World) (h0 : 0 ≤ d) (h1 : d < 18446744073709551616) :
    Calls Tryz.prog 54 #[.int .u64 d] w fun e w' => e = .returned (.int .i64 (Ie.rk d)) ∧ w' = w := by
  have A := hid (zabs_any d w h0 h1)
  obtain ⟨r, hr⟩ : ∃ r, d % 9223372036854775808 = r := ⟨_, rfl⟩
  rw [hr] at A
  have r0 : 0 ≤ r := by omega
  have r1 : r < 9223372036854775808 := by omega
  by_cases h : 9223372036854775808 ≤ d
  · have E : Hid (Ie.rk d = -r) := by rw [Hid, Ie.rk, if_neg (by omega)]; omega
    clear hr
    go_enter Tryz.func54, Tryz.ntmps54
    go_wp2_with fail
    refine A.out.mono ?_
    rintro e w' ⟨rfl, rfl⟩
    go_wp2_with fail
    go_ret
    exact ⟨i_retI E.out.symm, rfl⟩
  · have E : Hid (Ie.rk d = r) := by rw [Hid, Ie.rk, if_pos (by omega)]; omega
    clear hr
    go_enter Tryz.func54, Tryz.ntmps54
    go_wp2_with fail
    refine A.out.mono ?_
    rintro e w' ⟨rfl, rfl⟩
    go_wp2_with fail
    go_ret
    exact ⟨i_retI E.out.symm, rfl⟩

end Go.Proofs.YtbmbijadnojfaaaGreatDoor

/-
  The law's asked, kind 1.
-/
namespace Go.Proofs.YtbmbijadnojfaaaGreatDoor
open Go Go.RowKit Go.Deep

theorem row_cells {w : World} {b : Nat} {v0 v1 v2 v3 v4 v5 v6 v7 v8 v9 : Value} {t : Nat} (h : w.heap[b]? = some (.cells #[v0, v1, v2, v3, v4, v5, v6, v7, v8, v9] t (0, 0))) :
    (w.cell? ⟨b, 0, none⟩ = some v0 ∧ w.cell? ⟨b, 1, none⟩ = some v1 ∧ w.cell? ⟨b, 2, none⟩ = some v2 ∧ w.cell? ⟨b, 3, none⟩ = some v3 ∧ w.cell? ⟨b, 4, none⟩ = some v4 ∧ w.cell? ⟨b, 5, none⟩ = some v5 ∧ w.cell? ⟨b, 6, none⟩ = some v6 ∧ w.cell? ⟨b, 7, none⟩ = some v7 ∧ w.cell? ⟨b, 8, none⟩ = some v8 ∧ w.cell? ⟨b, 9, none⟩ = some v9) ∧ ∀ o, w.frozen? ⟨b, o, none⟩ = false := by
  refine ⟨⟨?_, ?_, ?_, ?_, ?_, ?_, ?_, ?_, ?_, ?_⟩, fun o => ?_⟩ <;> simp [World.cell?, World.frozen?, h]

theorem set_far {w : World} {b b' o : Nat} {v : Value} {x : Option Obj} (h : w.heap[b]? = x) (ne : b' ≠ b) : (w.setCell ⟨b', o, none⟩ v).heap[b]? = x := by
  simp [World.setCell, Array.getElem?_modify, ne, h]

theorem set_one {w : World} {b o t : Nat} {v : Value} {c c' : Array Value} (h : w.heap[b]? = some (.cells c t (0, 0))) (e : c.setIfInBounds o v = c') : (w.setCell ⟨b, o, none⟩ v).heap[b]? = some (.cells c' t (0, 0)) := by
  subst e
  simp [World.setCell, Array.getElem?_modify, h]

theorem set_row10 {w : World} {b t : Nat} {v0 v1 v2 v3 v4 v5 v6 v7 v8 v9 u0 u1 u2 u3 u4 u5 u6 u7 u8 u9 : Value} (h : w.heap[b]? = some (.cells #[v0, v1, v2, v3, v4, v5, v6, v7, v8, v9] t (0, 0))) :
    ((((((((((w.setCell ⟨b, 0, none⟩ u0).setCell ⟨b, 1, none⟩ u1).setCell ⟨b, 2, none⟩ u2).setCell ⟨b, 3, none⟩ u3).setCell ⟨b, 4, none⟩ u4).setCell ⟨b, 5, none⟩ u5).setCell ⟨b, 6, none⟩ u6).setCell ⟨b, 7, none⟩ u7).setCell ⟨b, 8, none⟩ u8).setCell ⟨b, 9, none⟩ u9).heap[b]? = some (.cells #[u0, u1, u2, u3, u4, u5, u6, u7, u8, u9] t (0, 0)) := by
  have h0 := set_one (o := 0) (v := u0) (c' := #[u0, v1, v2, v3, v4, v5, v6, v7, v8, v9]) h (by simp [Array.setIfInBounds])
  have h1 := set_one (o := 1) (v := u1) (c' := #[u0, u1, v2, v3, v4, v5, v6, v7, v8, v9]) h0 (by simp [Array.setIfInBounds])
  have h2 := set_one (o := 2) (v := u2) (c' := #[u0, u1, u2, v3, v4, v5, v6, v7, v8, v9]) h1 (by simp [Array.setIfInBounds])
  have h3 := set_one (o := 3) (v := u3) (c' := #[u0, u1, u2, u3, v4, v5, v6, v7, v8, v9]) h2 (by simp [Array.setIfInBounds])
  have h4 := set_one (o := 4) (v := u4) (c' := #[u0, u1, u2, u3, u4, v5, v6, v7, v8, v9]) h3 (by simp [Array.setIfInBounds])
  have h5 := set_one (o := 5) (v := u5) (c' := #[u0, u1, u2, u3, u4, u5, v6, v7, v8, v9]) h4 (by simp [Array.setIfInBounds])
  have h6 := set_one (o := 6) (v := u6) (c' := #[u0, u1, u2, u3, u4, u5, u6, v7, v8, v9]) h5 (by simp [Array.setIfInBounds])
  have h7 := set_one (o := 7) (v := u7) (c' := #[u0, u1, u2, u3, u4, u5, u6, u7, v8, v9]) h6 (by simp [Array.setIfInBounds])
  have h8 := set_one (o := 8) (v := u8) (c' := #[u0, u1, u2, u3, u4, u5, u6, u7, u8, v9]) h7 (by simp [Array.setIfInBounds])
  have h9 := set_one (o := 9) (v := u9) (c' := #[u0, u1, u2, u3, u4, u5, u6, u7, u8, u9]) h8 (by simp [Array.setIfInBounds])
  exact h9

theorem set_below {B : Nat} {w w' : World} {b o : Nat} {v : Value} (h : Below B w w') (hb : B ≤ b) : Below B w (w'.setCell ⟨b, o, none⟩ v) := h.setCell (p := ⟨b, o, none⟩) hb v

set_option maxRecDepth 100000 in
set_option maxHeartbeats 4000000 in
theorem asked1 (X Y I : Int) (pn : Bool) (pc pm px : Int) (neg : Bool) (p q : Option Addr) (n k cap cap' : Nat) (ex : Int) (more : Bool) (w : World) (a : Bool) (c m x : Int)
    (H : ∀ wx : World, Calls Tryz.prog 10 #[.int .u64 X] wx fun r w' => r = .returned (partsOf a c m x) ∧ Below wx.heap.size wx w') :
    Calls Tryz.prog 8 #[opOf 1 X Y I pn pc pm px neg (.slice p n cap) (.slice q k cap') ex more] w fun r w' => r = .returned (ansOf 0 0 0 false a c m x (.slice none 0 0) 0) ∧ Below w.heap.size w w' := by
  simp only [opOf, ansOf]
  have H := hid H
  go_enter Tryz.func8, Tryz.ntmps8
  go_wp2_with fail
  refine (H.out _).mono ?_
  rintro r w' ⟨rfl, hw⟩
  obtain ⟨g2, g3⟩ := mid_kept hw
  obtain ⟨⟨a0, a1, a2, a3, a4, a5, a6, a7, a8, a9⟩, af⟩ := row_cells g2
  obtain ⟨⟨b0, b1, b2, b3, b4, b5, b6, b7, b8, b9⟩, bf⟩ := row_cells g3
  have af0 := af 0
  have af1 := af 1
  have af2 := af 2
  have af3 := af 3
  have af4 := af 4
  have af5 := af 5
  have af6 := af 6
  have af7 := af 7
  have af8 := af 8
  have af9 := af 9
  have bf4 := bf 4
  have bf5 := bf 5
  have bf6 := bf 6
  have bf7 := bf 7
  have bf9 := bf 9
  simp only [partsOf]
  have HB := hid ((alloc3_below _ _ _ _).trans (hw.mono (alloc3_below _ _ _ _).size))
  have G2 := hid g2
  clear H hw g2 g3 af bf
  go_wp2_with fail
  (try simp only [Exit.inBlock, Exit.then])
  refine bodyPost_ret (results_cell_row rfl _ _ (w.heap.size + 1) 31 _ (0, 0) _ rfl (set_row10 (by repeat (first | (with_reducible exact G2.out) | (with_reducible refine set_far ?_ (by omega))))) Tryz.underlying31 rfl (by kernel_rfl)) rfl ?_
  exact ⟨rfl, by repeat (first | (with_reducible exact HB.out) | (with_reducible refine set_below ?_ (by omega)))⟩
end Go.Proofs.YtbmbijadnojfaaaGreatDoor

/-
  asked and wanted: their ground (made by mkeask.py).
-/
namespace Go.Proofs.YtbmbijadnojfaaaGreatDoor
open Go Go.RowKit Go.Deep

/-- What a call answers. -/
structure AV where
  u : Int
  i : Int
  j : Int
  b : Bool
  neg : Bool
  c : Int
  m : Int
  x : Int
  e : Int
  zs : List Int

def ansV (a : AV) (l : Value) : Value := ansOf a.u a.i a.j a.b a.neg a.c a.m a.x l a.e

/-- An answer, told. -/
def AnsTold (Q : AV → Prop) (w : World) (r : Ending) (w' : World) : Prop := ∃ a pl cl, r = .returned (ansV a (.slice pl a.zs.length cl)) ∧ Q a ∧ Arg w' pl a.zs.length cl a.zs ∧ (∀ a', pl = some a' → w.heap.size ≤ a'.block) ∧ Below w.heap.size w w'

theorem arg_nil (w : World) : Arg w none 0 0 [] := ⟨rfl, Nat.le_refl _, by omega, Lies.nil _ _, Nm.Limbs.nil⟩

theorem Ans.upE {B B' : Nat} {w : World} {p : Option Addr} {ys : List Int} {n : Int} (h : Ans B w p ys n) (hB : B' ≤ B) : Ans B' w p ys n :=
  ⟨h.1, h.2.1, h.2.2.1, h.2.2.2.1, fun a ha => Nat.le_trans hB (h.2.2.2.2 a ha)⟩

theorem Ans.setF {B : Nat} {w : World} {p : Option Addr} {os : List Int} {v : Int} (h : Ans B w p os v) {b o : Nat} (hb : b < B) (u : Value) : Ans B (w.setCell ⟨b, o, none⟩ u) p os v := by
  obtain ⟨h1, h2, h3, h4, h5⟩ := h
  refine ⟨?_, h2, h3, h4, h5⟩
  rcases h1 with c | ⟨b', off, hp, hc⟩
  · exact .inl c
  · refine .inr ⟨b', off, hp, fun i hi => ?_⟩
    have hge := h5 _ hp
    have := hc i hi
    have ne : b ≠ b' := by
      intro e
      subst e
      exact absurd hge (by simpa using hb)
    rw [World.cell?] at this ⊢
    simp only [World.setCell, Array.getElem?_modify]
    rw [if_neg ne]
    exact this
end Go.Proofs.YtbmbijadnojfaaaGreatDoor

/-
  asked and wanted: kinds 1 to 3 (made by mkeask.py).
-/
namespace Go.Proofs.YtbmbijadnojfaaaGreatDoor
open Go Go.RowKit Go.Deep

set_option maxRecDepth 100000 in
set_option maxHeartbeats 4000000 in
theorem easked1 (X Y I : Int) (pn : Bool) (pc pm px : Int) (neg : Bool) (p q : Option Addr) (n k cap cap' : Nat) (ex : Int) (more : Bool) (w : World) (Q : Bool → Int → Int → Int → Prop)
    (H : ∀ wx : World, Below w.heap.size w wx → Calls Tryz.prog 10 #[.int .u64 X] wx fun r w' => ∃ (a : Bool) (c m x : Int), r = .returned (partsOf a c m x) ∧ Q a c m x ∧ Below wx.heap.size wx w') :
    Calls Tryz.prog 8 #[opOf 1 X Y I pn pc pm px neg (.slice p n cap) (.slice q k cap') ex more] w fun r w' => ∃ (a : Bool) (c m x : Int), r = .returned (ansOf 0 0 0 false a c m x (.slice none 0 0) 0) ∧ Q a c m x ∧ Below w.heap.size w w' := by
  simp only [opOf, ansOf]
  have H := hid H
  go_enter Tryz.func8, Tryz.ntmps8
  go_wp2_with fail
  refine (H.out _ (alloc3_below _ _ _ _)).mono ?_
  rintro r w' ⟨a, c, m, x, rfl, hQ, hw⟩
  obtain ⟨g2, g3⟩ := mid_kept hw
  obtain ⟨⟨a0, a1, a2, a3, a4, a5, a6, a7, a8, a9⟩, af⟩ := row_cells g2
  obtain ⟨⟨b0, b1, b2, b3, b4, b5, b6, b7, b8, b9⟩, bf⟩ := row_cells g3
  have af0 := af 0
  have bf0 := bf 0
  have af1 := af 1
  have bf1 := bf 1
  have af2 := af 2
  have bf2 := bf 2
  have af3 := af 3
  have bf3 := bf 3
  have af4 := af 4
  have bf4 := bf 4
  have af5 := af 5
  have bf5 := bf 5
  have af6 := af 6
  have bf6 := bf 6
  have af7 := af 7
  have bf7 := bf 7
  have af8 := af 8
  have bf8 := bf 8
  have af9 := af 9
  have bf9 := bf 9
  simp only [partsOf]
  have HB := hid ((alloc3_below _ _ _ _).trans (hw.mono (alloc3_below _ _ _ _).size))
  have G2 := hid g2
  have HQ := hid hQ
  clear H hw g2 g3 af bf hQ
  go_wp2_with fail
  (try simp only [Exit.inBlock, Exit.then])
  refine bodyPost_ret (results_cell_row rfl _ _ (w.heap.size + 1) 31 _ (0, 0) _ rfl (set_row10 (by repeat (first | (with_reducible exact G2.out) | (with_reducible refine set_far ?_ (by omega))))) Tryz.underlying31 rfl (by kernel_rfl)) rfl ?_
  exact ⟨a, c, m, x, rfl, HQ.out, by repeat (first | (with_reducible exact HB.out) | (with_reducible refine set_below ?_ (by omega)))⟩

set_option maxRecDepth 100000 in
set_option maxHeartbeats 4000000 in
theorem ewanted1 (X Y I : Int) (pn : Bool) (pc pm px : Int) (neg : Bool) (p q : Option Addr) (n k cap cap' : Nat) (ex : Int) (more : Bool) (w : World) (Q : Bool → Int → Int → Int → Prop)
    (H : ∀ wx : World, Below w.heap.size w wx → Calls Tryz.prog 12 #[.int .u64 X] wx fun r w' => ∃ (a : Bool) (c m x : Int), r = .returned (partsOf a c m x) ∧ Q a c m x ∧ Below wx.heap.size wx w') :
    Calls Tryz.prog 5 #[opOf 1 X Y I pn pc pm px neg (.slice p n cap) (.slice q k cap') ex more] w fun r w' => ∃ (a : Bool) (c m x : Int), r = .returned (ansOf 0 0 0 false a c m x (.slice none 0 0) 0) ∧ Q a c m x ∧ Below w.heap.size w w' := by
  simp only [opOf, ansOf]
  have H := hid H
  go_enter Tryz.func5, Tryz.ntmps5
  go_wp2_with fail
  refine (H.out _ (alloc3_below _ _ _ _)).mono ?_
  rintro r w' ⟨a, c, m, x, rfl, hQ, hw⟩
  obtain ⟨g2, g3⟩ := mid_kept hw
  obtain ⟨⟨a0, a1, a2, a3, a4, a5, a6, a7, a8, a9⟩, af⟩ := row_cells g2
  obtain ⟨⟨b0, b1, b2, b3, b4, b5, b6, b7, b8, b9⟩, bf⟩ := row_cells g3
  have af0 := af 0
  have bf0 := bf 0
  have af1 := af 1
  have bf1 := bf 1
  have af2 := af 2
  have bf2 := bf 2
  have af3 := af 3
  have bf3 := bf 3
  have af4 := af 4
  have bf4 := bf 4
  have af5 := af 5
  have bf5 := bf 5
  have af6 := af 6
  have bf6 := bf 6
  have af7 := af 7
  have bf7 := bf 7
  have af8 := af 8
  have bf8 := bf 8
  have af9 := af 9
  have bf9 := bf 9
  simp only [partsOf]
  have HB := hid ((alloc3_below _ _ _ _).trans (hw.mono (alloc3_below _ _ _ _).size))
  have G2 := hid g2
  have HQ := hid hQ
  clear H hw g2 g3 af bf hQ
  go_wp2_with fail
  (try simp only [Exit.inBlock, Exit.then])
  refine bodyPost_ret (results_cell_row rfl _ _ (w.heap.size + 1) 31 _ (0, 0) _ rfl (set_row10 (by repeat (first | (with_reducible exact G2.out) | (with_reducible refine set_far ?_ (by omega))))) Tryz.underlying31 rfl (by kernel_rfl)) rfl ?_
  exact ⟨a, c, m, x, rfl, HQ.out, by repeat (first | (with_reducible exact HB.out) | (with_reducible refine set_below ?_ (by omega)))⟩

set_option maxRecDepth 100000 in
set_option maxHeartbeats 4000000 in
theorem easked2 (X Y I : Int) (pn : Bool) (pc pm px : Int) (neg : Bool) (p q : Option Addr) (n k cap cap' : Nat) (ex : Int) (more : Bool) (w : World) (Q : Int → Int → Prop)
    (H : ∀ wx : World, Below w.heap.size w wx → Calls Tryz.prog 31 #[partsOf pn pc pm px] wx fun r w' => ∃ U E : Int, r = .returned (.tuple #[.int .u64 U, .int .i64 E]) ∧ Q U E ∧ Below wx.heap.size wx w') :
    Calls Tryz.prog 8 #[opOf 2 X Y I pn pc pm px neg (.slice p n cap) (.slice q k cap') ex more] w fun r w' => ∃ U E : Int, r = .returned (ansOf U 0 0 false false 0 0 0 (.slice none 0 0) E) ∧ Q U E ∧ Below w.heap.size w w' := by
  simp only [opOf, ansOf]
  have H := hid H
  go_enter Tryz.func8, Tryz.ntmps8
  go_wp2_with fail
  refine (H.out _ (alloc3_below _ _ _ _)).mono ?_
  rintro r w' ⟨U, E, rfl, hQ, hw⟩
  obtain ⟨g2, g3⟩ := mid_kept hw
  obtain ⟨⟨a0, a1, a2, a3, a4, a5, a6, a7, a8, a9⟩, af⟩ := row_cells g2
  obtain ⟨⟨b0, b1, b2, b3, b4, b5, b6, b7, b8, b9⟩, bf⟩ := row_cells g3
  have af0 := af 0
  have bf0 := bf 0
  have af1 := af 1
  have bf1 := bf 1
  have af2 := af 2
  have bf2 := bf 2
  have af3 := af 3
  have bf3 := bf 3
  have af4 := af 4
  have bf4 := bf 4
  have af5 := af 5
  have bf5 := bf 5
  have af6 := af 6
  have bf6 := bf 6
  have af7 := af 7
  have bf7 := bf 7
  have af8 := af 8
  have bf8 := bf 8
  have af9 := af 9
  have bf9 := bf 9
  have HB := hid ((alloc3_below _ _ _ _).trans (hw.mono (alloc3_below _ _ _ _).size))
  have G2 := hid g2
  have HQ := hid hQ
  clear H hw g2 g3 af bf hQ
  go_wp2_with fail
  (try simp only [Exit.inBlock, Exit.then])
  refine bodyPost_ret (results_cell_row rfl _ _ (w.heap.size + 1) 31 _ (0, 0) _ rfl (set_row10 (by repeat (first | (with_reducible exact G2.out) | (with_reducible refine set_far ?_ (by omega))))) Tryz.underlying31 rfl (by kernel_rfl)) rfl ?_
  exact ⟨U, E, rfl, HQ.out, by repeat (first | (with_reducible exact HB.out) | (with_reducible refine set_below ?_ (by omega)))⟩

set_option maxRecDepth 100000 in
set_option maxHeartbeats 4000000 in
theorem ewanted2 (X Y I : Int) (pn : Bool) (pc pm px : Int) (neg : Bool) (p q : Option Addr) (n k cap cap' : Nat) (ex : Int) (more : Bool) (w : World) (Q : Int → Int → Prop)
    (H : ∀ wx : World, Below w.heap.size w wx → Calls Tryz.prog 13 #[partsOf pn pc pm px] wx fun r w' => ∃ U E : Int, r = .returned (.tuple #[.int .u64 U, .int .i64 E]) ∧ Q U E ∧ Below wx.heap.size wx w') :
    Calls Tryz.prog 5 #[opOf 2 X Y I pn pc pm px neg (.slice p n cap) (.slice q k cap') ex more] w fun r w' => ∃ U E : Int, r = .returned (ansOf U 0 0 false false 0 0 0 (.slice none 0 0) E) ∧ Q U E ∧ Below w.heap.size w w' := by
  simp only [opOf, ansOf]
  have H := hid H
  go_enter Tryz.func5, Tryz.ntmps5
  go_wp2_with fail
  refine (H.out _ (alloc3_below _ _ _ _)).mono ?_
  rintro r w' ⟨U, E, rfl, hQ, hw⟩
  obtain ⟨g2, g3⟩ := mid_kept hw
  obtain ⟨⟨a0, a1, a2, a3, a4, a5, a6, a7, a8, a9⟩, af⟩ := row_cells g2
  obtain ⟨⟨b0, b1, b2, b3, b4, b5, b6, b7, b8, b9⟩, bf⟩ := row_cells g3
  have af0 := af 0
  have bf0 := bf 0
  have af1 := af 1
  have bf1 := bf 1
  have af2 := af 2
  have bf2 := bf 2
  have af3 := af 3
  have bf3 := bf 3
  have af4 := af 4
  have bf4 := bf 4
  have af5 := af 5
  have bf5 := bf 5
  have af6 := af 6
  have bf6 := bf 6
  have af7 := af 7
  have bf7 := bf 7
  have af8 := af 8
  have bf8 := bf 8
  have af9 := af 9
  have bf9 := bf 9
  have HB := hid ((alloc3_below _ _ _ _).trans (hw.mono (alloc3_below _ _ _ _).size))
  have G2 := hid g2
  have HQ := hid hQ
  clear H hw g2 g3 af bf hQ
  go_wp2_with fail
  (try simp only [Exit.inBlock, Exit.then])
  refine bodyPost_ret (results_cell_row rfl _ _ (w.heap.size + 1) 31 _ (0, 0) _ rfl (set_row10 (by repeat (first | (with_reducible exact G2.out) | (with_reducible refine set_far ?_ (by omega))))) Tryz.underlying31 rfl (by kernel_rfl)) rfl ?_
  exact ⟨U, E, rfl, HQ.out, by repeat (first | (with_reducible exact HB.out) | (with_reducible refine set_below ?_ (by omega)))⟩

set_option maxRecDepth 100000 in
set_option maxHeartbeats 4000000 in
theorem easked3 (X Y I : Int) (pn : Bool) (pc pm px : Int) (neg : Bool) (p q : Option Addr) (n k cap cap' : Nat) (ex : Int) (more : Bool) (w : World) (Q : Int → Prop)
    (H : ∀ wx : World, Below w.heap.size w wx → Calls Tryz.prog 32 #[.int .u64 X] wx fun r w' => ∃ V : Int, r = .returned (.int .i64 V) ∧ Q V ∧ Below wx.heap.size wx w') :
    Calls Tryz.prog 8 #[opOf 3 X Y I pn pc pm px neg (.slice p n cap) (.slice q k cap') ex more] w fun r w' => ∃ V : Int, r = .returned (ansOf 0 V 0 false false 0 0 0 (.slice none 0 0) 0) ∧ Q V ∧ Below w.heap.size w w' := by
  simp only [opOf, ansOf]
  have H := hid H
  go_enter Tryz.func8, Tryz.ntmps8
  go_wp2_with fail
  refine (H.out _ (alloc3_below _ _ _ _)).mono ?_
  rintro r w' ⟨V, rfl, hQ, hw⟩
  obtain ⟨g2, g3⟩ := mid_kept hw
  obtain ⟨⟨a0, a1, a2, a3, a4, a5, a6, a7, a8, a9⟩, af⟩ := row_cells g2
  obtain ⟨⟨b0, b1, b2, b3, b4, b5, b6, b7, b8, b9⟩, bf⟩ := row_cells g3
  have af0 := af 0
  have bf0 := bf 0
  have af1 := af 1
  have bf1 := bf 1
  have af2 := af 2
  have bf2 := bf 2
  have af3 := af 3
  have bf3 := bf 3
  have af4 := af 4
  have bf4 := bf 4
  have af5 := af 5
  have bf5 := bf 5
  have af6 := af 6
  have bf6 := bf 6
  have af7 := af 7
  have bf7 := bf 7
  have af8 := af 8
  have bf8 := bf 8
  have af9 := af 9
  have bf9 := bf 9
  have HB := hid ((alloc3_below _ _ _ _).trans (hw.mono (alloc3_below _ _ _ _).size))
  have G2 := hid g2
  have HQ := hid hQ
  clear H hw g2 g3 af bf hQ
  go_wp2_with fail
  (try simp only [Exit.inBlock, Exit.then])
  refine bodyPost_ret (results_cell_row rfl _ _ (w.heap.size + 1) 31 _ (0, 0) _ rfl (set_row10 (by repeat (first | (with_reducible exact G2.out) | (with_reducible refine set_far ?_ (by omega))))) Tryz.underlying31 rfl (by kernel_rfl)) rfl ?_
  exact ⟨V, rfl, HQ.out, by repeat (first | (with_reducible exact HB.out) | (with_reducible refine set_below ?_ (by omega)))⟩

set_option maxRecDepth 100000 in
set_option maxHeartbeats 4000000 in
theorem ewanted3 (X Y I : Int) (pn : Bool) (pc pm px : Int) (neg : Bool) (p q : Option Addr) (n k cap cap' : Nat) (ex : Int) (more : Bool) (w : World) (Q : Int → Prop)
    (H : ∀ wx : World, Below w.heap.size w wx → Calls Tryz.prog 14 #[.int .u64 X] wx fun r w' => ∃ V : Int, r = .returned (.int .i64 V) ∧ Q V ∧ Below wx.heap.size wx w') :
    Calls Tryz.prog 5 #[opOf 3 X Y I pn pc pm px neg (.slice p n cap) (.slice q k cap') ex more] w fun r w' => ∃ V : Int, r = .returned (ansOf 0 V 0 false false 0 0 0 (.slice none 0 0) 0) ∧ Q V ∧ Below w.heap.size w w' := by
  simp only [opOf, ansOf]
  have H := hid H
  go_enter Tryz.func5, Tryz.ntmps5
  go_wp2_with fail
  refine (H.out _ (alloc3_below _ _ _ _)).mono ?_
  rintro r w' ⟨V, rfl, hQ, hw⟩
  obtain ⟨g2, g3⟩ := mid_kept hw
  obtain ⟨⟨a0, a1, a2, a3, a4, a5, a6, a7, a8, a9⟩, af⟩ := row_cells g2
  obtain ⟨⟨b0, b1, b2, b3, b4, b5, b6, b7, b8, b9⟩, bf⟩ := row_cells g3
  have af0 := af 0
  have bf0 := bf 0
  have af1 := af 1
  have bf1 := bf 1
  have af2 := af 2
  have bf2 := bf 2
  have af3 := af 3
  have bf3 := bf 3
  have af4 := af 4
  have bf4 := bf 4
  have af5 := af 5
  have bf5 := bf 5
  have af6 := af 6
  have bf6 := bf 6
  have af7 := af 7
  have bf7 := bf 7
  have af8 := af 8
  have bf8 := bf 8
  have af9 := af 9
  have bf9 := bf 9
  have HB := hid ((alloc3_below _ _ _ _).trans (hw.mono (alloc3_below _ _ _ _).size))
  have G2 := hid g2
  have HQ := hid hQ
  clear H hw g2 g3 af bf hQ
  go_wp2_with fail
  (try simp only [Exit.inBlock, Exit.then])
  refine bodyPost_ret (results_cell_row rfl _ _ (w.heap.size + 1) 31 _ (0, 0) _ rfl (set_row10 (by repeat (first | (with_reducible exact G2.out) | (with_reducible refine set_far ?_ (by omega))))) Tryz.underlying31 rfl (by kernel_rfl)) rfl ?_
  exact ⟨V, rfl, HQ.out, by repeat (first | (with_reducible exact HB.out) | (with_reducible refine set_below ?_ (by omega)))⟩

end Go.Proofs.YtbmbijadnojfaaaGreatDoor

/-
  asked and wanted: kinds 4 to 6 (made by mkeask.py).
-/
namespace Go.Proofs.YtbmbijadnojfaaaGreatDoor
open Go Go.RowKit Go.Deep

set_option maxRecDepth 100000 in
set_option maxHeartbeats 4000000 in
theorem easked4 (X Y I : Int) (pn : Bool) (pc pm px : Int) (neg : Bool) (p q : Option Addr) (n k cap cap' : Nat) (ex : Int) (more : Bool) (w : World) (Q : Int → Prop)
    (H : ∀ wx : World, Below w.heap.size w wx → Calls Tryz.prog 33 #[.int .u64 X] wx fun r w' => ∃ U : Int, r = .returned (.int .u64 U) ∧ Q U ∧ Below wx.heap.size wx w') :
    Calls Tryz.prog 8 #[opOf 4 X Y I pn pc pm px neg (.slice p n cap) (.slice q k cap') ex more] w fun r w' => ∃ U : Int, r = .returned (ansOf U 0 0 false false 0 0 0 (.slice none 0 0) 0) ∧ Q U ∧ Below w.heap.size w w' := by
  simp only [opOf, ansOf]
  have H := hid H
  go_enter Tryz.func8, Tryz.ntmps8
  go_wp2_with fail
  refine (H.out _ (alloc3_below _ _ _ _)).mono ?_
  rintro r w' ⟨U, rfl, hQ, hw⟩
  obtain ⟨g2, g3⟩ := mid_kept hw
  obtain ⟨⟨a0, a1, a2, a3, a4, a5, a6, a7, a8, a9⟩, af⟩ := row_cells g2
  obtain ⟨⟨b0, b1, b2, b3, b4, b5, b6, b7, b8, b9⟩, bf⟩ := row_cells g3
  have af0 := af 0
  have bf0 := bf 0
  have af1 := af 1
  have bf1 := bf 1
  have af2 := af 2
  have bf2 := bf 2
  have af3 := af 3
  have bf3 := bf 3
  have af4 := af 4
  have bf4 := bf 4
  have af5 := af 5
  have bf5 := bf 5
  have af6 := af 6
  have bf6 := bf 6
  have af7 := af 7
  have bf7 := bf 7
  have af8 := af 8
  have bf8 := bf 8
  have af9 := af 9
  have bf9 := bf 9
  have HB := hid ((alloc3_below _ _ _ _).trans (hw.mono (alloc3_below _ _ _ _).size))
  have G2 := hid g2
  have HQ := hid hQ
  clear H hw g2 g3 af bf hQ
  go_wp2_with fail
  (try simp only [Exit.inBlock, Exit.then])
  refine bodyPost_ret (results_cell_row rfl _ _ (w.heap.size + 1) 31 _ (0, 0) _ rfl (set_row10 (by repeat (first | (with_reducible exact G2.out) | (with_reducible refine set_far ?_ (by omega))))) Tryz.underlying31 rfl (by kernel_rfl)) rfl ?_
  exact ⟨U, rfl, HQ.out, by repeat (first | (with_reducible exact HB.out) | (with_reducible refine set_below ?_ (by omega)))⟩

set_option maxRecDepth 100000 in
set_option maxHeartbeats 4000000 in
theorem ewanted4 (X Y I : Int) (pn : Bool) (pc pm px : Int) (neg : Bool) (p q : Option Addr) (n k cap cap' : Nat) (ex : Int) (more : Bool) (w : World) (Q : Int → Prop)
    (H : ∀ wx : World, Below w.heap.size w wx → Calls Tryz.prog 15 #[.int .u64 X] wx fun r w' => ∃ U : Int, r = .returned (.int .u64 U) ∧ Q U ∧ Below wx.heap.size wx w') :
    Calls Tryz.prog 5 #[opOf 4 X Y I pn pc pm px neg (.slice p n cap) (.slice q k cap') ex more] w fun r w' => ∃ U : Int, r = .returned (ansOf U 0 0 false false 0 0 0 (.slice none 0 0) 0) ∧ Q U ∧ Below w.heap.size w w' := by
  simp only [opOf, ansOf]
  have H := hid H
  go_enter Tryz.func5, Tryz.ntmps5
  go_wp2_with fail
  refine (H.out _ (alloc3_below _ _ _ _)).mono ?_
  rintro r w' ⟨U, rfl, hQ, hw⟩
  obtain ⟨g2, g3⟩ := mid_kept hw
  obtain ⟨⟨a0, a1, a2, a3, a4, a5, a6, a7, a8, a9⟩, af⟩ := row_cells g2
  obtain ⟨⟨b0, b1, b2, b3, b4, b5, b6, b7, b8, b9⟩, bf⟩ := row_cells g3
  have af0 := af 0
  have bf0 := bf 0
  have af1 := af 1
  have bf1 := bf 1
  have af2 := af 2
  have bf2 := bf 2
  have af3 := af 3
  have bf3 := bf 3
  have af4 := af 4
  have bf4 := bf 4
  have af5 := af 5
  have bf5 := bf 5
  have af6 := af 6
  have bf6 := bf 6
  have af7 := af 7
  have bf7 := bf 7
  have af8 := af 8
  have bf8 := bf 8
  have af9 := af 9
  have bf9 := bf 9
  have HB := hid ((alloc3_below _ _ _ _).trans (hw.mono (alloc3_below _ _ _ _).size))
  have G2 := hid g2
  have HQ := hid hQ
  clear H hw g2 g3 af bf hQ
  go_wp2_with fail
  (try simp only [Exit.inBlock, Exit.then])
  refine bodyPost_ret (results_cell_row rfl _ _ (w.heap.size + 1) 31 _ (0, 0) _ rfl (set_row10 (by repeat (first | (with_reducible exact G2.out) | (with_reducible refine set_far ?_ (by omega))))) Tryz.underlying31 rfl (by kernel_rfl)) rfl ?_
  exact ⟨U, rfl, HQ.out, by repeat (first | (with_reducible exact HB.out) | (with_reducible refine set_below ?_ (by omega)))⟩

set_option maxRecDepth 100000 in
set_option maxHeartbeats 4000000 in
theorem easked5 (X Y I : Int) (pn : Bool) (pc pm px : Int) (neg : Bool) (p q : Option Addr) (n k cap cap' : Nat) (ex : Int) (more : Bool) (w : World) (Q : Int → Prop)
    (H : ∀ wx : World, Below w.heap.size w wx → Calls Tryz.prog 34 #[.int .u64 X] wx fun r w' => ∃ U : Int, r = .returned (.int .u64 U) ∧ Q U ∧ Below wx.heap.size wx w') :
    Calls Tryz.prog 8 #[opOf 5 X Y I pn pc pm px neg (.slice p n cap) (.slice q k cap') ex more] w fun r w' => ∃ U : Int, r = .returned (ansOf U 0 0 false false 0 0 0 (.slice none 0 0) 0) ∧ Q U ∧ Below w.heap.size w w' := by
  simp only [opOf, ansOf]
  have H := hid H
  go_enter Tryz.func8, Tryz.ntmps8
  go_wp2_with fail
  refine (H.out _ (alloc3_below _ _ _ _)).mono ?_
  rintro r w' ⟨U, rfl, hQ, hw⟩
  obtain ⟨g2, g3⟩ := mid_kept hw
  obtain ⟨⟨a0, a1, a2, a3, a4, a5, a6, a7, a8, a9⟩, af⟩ := row_cells g2
  obtain ⟨⟨b0, b1, b2, b3, b4, b5, b6, b7, b8, b9⟩, bf⟩ := row_cells g3
  have af0 := af 0
  have bf0 := bf 0
  have af1 := af 1
  have bf1 := bf 1
  have af2 := af 2
  have bf2 := bf 2
  have af3 := af 3
  have bf3 := bf 3
  have af4 := af 4
  have bf4 := bf 4
  have af5 := af 5
  have bf5 := bf 5
  have af6 := af 6
  have bf6 := bf 6
  have af7 := af 7
  have bf7 := bf 7
  have af8 := af 8
  have bf8 := bf 8
  have af9 := af 9
  have bf9 := bf 9
  have HB := hid ((alloc3_below _ _ _ _).trans (hw.mono (alloc3_below _ _ _ _).size))
  have G2 := hid g2
  have HQ := hid hQ
  clear H hw g2 g3 af bf hQ
  go_wp2_with fail
  (try simp only [Exit.inBlock, Exit.then])
  refine bodyPost_ret (results_cell_row rfl _ _ (w.heap.size + 1) 31 _ (0, 0) _ rfl (set_row10 (by repeat (first | (with_reducible exact G2.out) | (with_reducible refine set_far ?_ (by omega))))) Tryz.underlying31 rfl (by kernel_rfl)) rfl ?_
  exact ⟨U, rfl, HQ.out, by repeat (first | (with_reducible exact HB.out) | (with_reducible refine set_below ?_ (by omega)))⟩

set_option maxRecDepth 100000 in
set_option maxHeartbeats 4000000 in
theorem ewanted5 (X Y I : Int) (pn : Bool) (pc pm px : Int) (neg : Bool) (p q : Option Addr) (n k cap cap' : Nat) (ex : Int) (more : Bool) (w : World) (Q : Int → Prop)
    (H : ∀ wx : World, Below w.heap.size w wx → Calls Tryz.prog 16 #[.int .u64 X] wx fun r w' => ∃ U : Int, r = .returned (.int .u64 U) ∧ Q U ∧ Below wx.heap.size wx w') :
    Calls Tryz.prog 5 #[opOf 5 X Y I pn pc pm px neg (.slice p n cap) (.slice q k cap') ex more] w fun r w' => ∃ U : Int, r = .returned (ansOf U 0 0 false false 0 0 0 (.slice none 0 0) 0) ∧ Q U ∧ Below w.heap.size w w' := by
  simp only [opOf, ansOf]
  have H := hid H
  go_enter Tryz.func5, Tryz.ntmps5
  go_wp2_with fail
  refine (H.out _ (alloc3_below _ _ _ _)).mono ?_
  rintro r w' ⟨U, rfl, hQ, hw⟩
  obtain ⟨g2, g3⟩ := mid_kept hw
  obtain ⟨⟨a0, a1, a2, a3, a4, a5, a6, a7, a8, a9⟩, af⟩ := row_cells g2
  obtain ⟨⟨b0, b1, b2, b3, b4, b5, b6, b7, b8, b9⟩, bf⟩ := row_cells g3
  have af0 := af 0
  have bf0 := bf 0
  have af1 := af 1
  have bf1 := bf 1
  have af2 := af 2
  have bf2 := bf 2
  have af3 := af 3
  have bf3 := bf 3
  have af4 := af 4
  have bf4 := bf 4
  have af5 := af 5
  have bf5 := bf 5
  have af6 := af 6
  have bf6 := bf 6
  have af7 := af 7
  have bf7 := bf 7
  have af8 := af 8
  have bf8 := bf 8
  have af9 := af 9
  have bf9 := bf 9
  have HB := hid ((alloc3_below _ _ _ _).trans (hw.mono (alloc3_below _ _ _ _).size))
  have G2 := hid g2
  have HQ := hid hQ
  clear H hw g2 g3 af bf hQ
  go_wp2_with fail
  (try simp only [Exit.inBlock, Exit.then])
  refine bodyPost_ret (results_cell_row rfl _ _ (w.heap.size + 1) 31 _ (0, 0) _ rfl (set_row10 (by repeat (first | (with_reducible exact G2.out) | (with_reducible refine set_far ?_ (by omega))))) Tryz.underlying31 rfl (by kernel_rfl)) rfl ?_
  exact ⟨U, rfl, HQ.out, by repeat (first | (with_reducible exact HB.out) | (with_reducible refine set_below ?_ (by omega)))⟩

set_option maxRecDepth 100000 in
set_option maxHeartbeats 4000000 in
theorem easked6 (X Y I : Int) (pn : Bool) (pc pm px : Int) (neg : Bool) (p q : Option Addr) (n k cap cap' : Nat) (ex : Int) (more : Bool) (w : World) (Q : Int → Bool → Prop)
    (H : ∀ wx : World, Below w.heap.size w wx → Calls Tryz.prog 35 #[.int .u64 X, .int .u64 Y] wx fun r w' => ∃ (V : Int) (B : Bool), r = .returned (.tuple #[.int .i64 V, .bool B]) ∧ Q V B ∧ Below wx.heap.size wx w') :
    Calls Tryz.prog 8 #[opOf 6 X Y I pn pc pm px neg (.slice p n cap) (.slice q k cap') ex more] w fun r w' => ∃ (V : Int) (B : Bool), r = .returned (ansOf 0 V 0 B false 0 0 0 (.slice none 0 0) 0) ∧ Q V B ∧ Below w.heap.size w w' := by
  simp only [opOf, ansOf]
  have H := hid H
  go_enter Tryz.func8, Tryz.ntmps8
  go_wp2_with fail
  refine (H.out _ (alloc3_below _ _ _ _)).mono ?_
  rintro r w' ⟨V, B, rfl, hQ, hw⟩
  obtain ⟨g2, g3⟩ := mid_kept hw
  obtain ⟨⟨a0, a1, a2, a3, a4, a5, a6, a7, a8, a9⟩, af⟩ := row_cells g2
  obtain ⟨⟨b0, b1, b2, b3, b4, b5, b6, b7, b8, b9⟩, bf⟩ := row_cells g3
  have af0 := af 0
  have bf0 := bf 0
  have af1 := af 1
  have bf1 := bf 1
  have af2 := af 2
  have bf2 := bf 2
  have af3 := af 3
  have bf3 := bf 3
  have af4 := af 4
  have bf4 := bf 4
  have af5 := af 5
  have bf5 := bf 5
  have af6 := af 6
  have bf6 := bf 6
  have af7 := af 7
  have bf7 := bf 7
  have af8 := af 8
  have bf8 := bf 8
  have af9 := af 9
  have bf9 := bf 9
  have HB := hid ((alloc3_below _ _ _ _).trans (hw.mono (alloc3_below _ _ _ _).size))
  have G2 := hid g2
  have HQ := hid hQ
  clear H hw g2 g3 af bf hQ
  go_wp2_with fail
  (try simp only [Exit.inBlock, Exit.then])
  refine bodyPost_ret (results_cell_row rfl _ _ (w.heap.size + 1) 31 _ (0, 0) _ rfl (set_row10 (by repeat (first | (with_reducible exact G2.out) | (with_reducible refine set_far ?_ (by omega))))) Tryz.underlying31 rfl (by kernel_rfl)) rfl ?_
  exact ⟨V, B, rfl, HQ.out, by repeat (first | (with_reducible exact HB.out) | (with_reducible refine set_below ?_ (by omega)))⟩

set_option maxRecDepth 100000 in
set_option maxHeartbeats 4000000 in
theorem ewanted6 (X Y I : Int) (pn : Bool) (pc pm px : Int) (neg : Bool) (p q : Option Addr) (n k cap cap' : Nat) (ex : Int) (more : Bool) (w : World) (Q : Int → Bool → Prop)
    (H : ∀ wx : World, Below w.heap.size w wx → Calls Tryz.prog 17 #[.int .u64 X, .int .u64 Y] wx fun r w' => ∃ (V : Int) (B : Bool), r = .returned (.tuple #[.int .i64 V, .bool B]) ∧ Q V B ∧ Below wx.heap.size wx w') :
    Calls Tryz.prog 5 #[opOf 6 X Y I pn pc pm px neg (.slice p n cap) (.slice q k cap') ex more] w fun r w' => ∃ (V : Int) (B : Bool), r = .returned (ansOf 0 V 0 B false 0 0 0 (.slice none 0 0) 0) ∧ Q V B ∧ Below w.heap.size w w' := by
  simp only [opOf, ansOf]
  have H := hid H
  go_enter Tryz.func5, Tryz.ntmps5
  go_wp2_with fail
  refine (H.out _ (alloc3_below _ _ _ _)).mono ?_
  rintro r w' ⟨V, B, rfl, hQ, hw⟩
  obtain ⟨g2, g3⟩ := mid_kept hw
  obtain ⟨⟨a0, a1, a2, a3, a4, a5, a6, a7, a8, a9⟩, af⟩ := row_cells g2
  obtain ⟨⟨b0, b1, b2, b3, b4, b5, b6, b7, b8, b9⟩, bf⟩ := row_cells g3
  have af0 := af 0
  have bf0 := bf 0
  have af1 := af 1
  have bf1 := bf 1
  have af2 := af 2
  have bf2 := bf 2
  have af3 := af 3
  have bf3 := bf 3
  have af4 := af 4
  have bf4 := bf 4
  have af5 := af 5
  have bf5 := bf 5
  have af6 := af 6
  have bf6 := bf 6
  have af7 := af 7
  have bf7 := bf 7
  have af8 := af 8
  have bf8 := bf 8
  have af9 := af 9
  have bf9 := bf 9
  have HB := hid ((alloc3_below _ _ _ _).trans (hw.mono (alloc3_below _ _ _ _).size))
  have G2 := hid g2
  have HQ := hid hQ
  clear H hw g2 g3 af bf hQ
  go_wp2_with fail
  (try simp only [Exit.inBlock, Exit.then])
  refine bodyPost_ret (results_cell_row rfl _ _ (w.heap.size + 1) 31 _ (0, 0) _ rfl (set_row10 (by repeat (first | (with_reducible exact G2.out) | (with_reducible refine set_far ?_ (by omega))))) Tryz.underlying31 rfl (by kernel_rfl)) rfl ?_
  exact ⟨V, B, rfl, HQ.out, by repeat (first | (with_reducible exact HB.out) | (with_reducible refine set_below ?_ (by omega)))⟩

end Go.Proofs.YtbmbijadnojfaaaGreatDoor
