/-
  Texts put together: TnP, TnP2, FTab, LTab.
-/
import Derived.Test.YtonnlimmjelldaaGreatDoorRI
import Derived.Test.YtonnlimmjelldaaGreatDoorRC
import Derived.Lib.LaidTab
import Derived.Test.YtonnlimmjelldaaGreatDoorRG
namespace Go.Proofs.YtonnlimmjelldaaGreatDoor
open Go Go.RowKit Go.Deep

def Rw6 (w : World) (b : Nat) (K d N : Int) (n : Bool) (s : ByteArray) (e : Int) : Prop := w.heap[b]? = some (.cells #[.int .i64 K, .int .u64 d, .int .i64 N, .bool n, .string s, .int .i64 e] 30 (0, 0))
/-- A call in its box. -/
def PB (w wx : World) (K d N : Int) (n : Bool) (s : ByteArray) (e : Int) : Prop := Below w.heap.size w wx ∧ Rw6 wx w.heap.size K d N n s e
theorem Rw6.lt {w : World} {b : Nat} {K d N : Int} {n : Bool} {s : ByteArray} {e : Int} (h : Rw6 w b K d N n s e) : b < w.heap.size := by
  rcases Nat.lt_or_ge b w.heap.size with hl | hl
  · exact hl
  · simp [Rw6, Array.getElem?_eq_none hl] at h
theorem PB.new (w : World) (K d N : Int) (n : Bool) (s : ByteArray) (e : Int) : PB w (w.alloc (.cells #[.int .i64 K, .int .u64 d, .int .i64 N, .bool n, .string s, .int .i64 e] 30)) K d N n s e := ⟨alloc_b _ _, heap_alloc_new _ _⟩
theorem PB.on {w wx wy : World} {K d N : Int} {n : Bool} {s : ByteArray} {e : Int} (h : PB w wx K d N n s e) (k : Below wx.heap.size wx wy) : PB w wy K d N n s e := by
  refine ⟨below_on h.1 k, ?_⟩
  have := h.2
  unfold Rw6 at this ⊢
  rw [k.block _ h.2.lt]; exact this
theorem PB.bel {w wx : World} {K d N : Int} {n : Bool} {s : ByteArray} {e : Int} (h : PB w wx K d N n s e) : Below w.heap.size w wx := h.1
theorem PB.cells {w wx : World} {K d N : Int} {n : Bool} {s : ByteArray} {e : Int} (h : PB w wx K d N n s e) :
    wx.cell? ⟨w.heap.size, 0, none⟩ = some (.int .i64 K) ∧ wx.cell? ⟨w.heap.size, 1, none⟩ = some (.int .u64 d) ∧ wx.cell? ⟨w.heap.size, 2, none⟩ = some (.int .i64 N) ∧ wx.cell? ⟨w.heap.size, 3, none⟩ = some (.bool n) ∧ wx.cell? ⟨w.heap.size, 4, none⟩ = some (.string s) ∧ wx.cell? ⟨w.heap.size, 5, none⟩ = some (.int .i64 e) := by
  have h := h.2
  simp only [Rw6] at h
  refine ⟨?_, ?_, ?_, ?_, ?_, ?_⟩ <;> simp [World.cell?, h]

set_option maxRecDepth 100000 in
set_option maxHeartbeats 8000000 in
theorem plays_any (K d N : Int) (n : Bool) (s : ByteArray) (e : Int) (w : World) (ht : Tab10 w) (h0 : 0 ≤ d) (h1 : d < 18446744073709551616) (hs : s.size ≤ 140737488351232) :
    Calls Tryz.prog 7 #[.agg #[.int .i64 K, .int .u64 d, .int .i64 N, .bool n, .string s, .int .i64 e]] w fun en w' => en = .returned (.bool true) ∧ Below w.heap.size w w' := by
  have B0 := hid (PB.new w K d N n s e)
  have TB : Hid (∀ wk, Below w.heap.size w wk → Tab10 wk) := fun wk k => tab10_below ht k
  obtain ⟨c0, c1, c2, c3, c4, c5⟩ := B0.out.cells
  have EQ : ∀ (a : Bool) (s : ByteArray) (e : Int) (wx : World), (Op.equalIn 10000 28 (.agg #[.bool a, .string s, .int .i64 e]) (.agg #[.bool a, .string s, .int .i64 e])).run Tryz.prog wx = .ok true wx := fun a s e wx => leq_dec a s e wx
  by_cases k1 : K = 1
  · subst k1
    obtain ⟨n1, t1, e1, r1, P, R⟩ := both_dig d h0 h1
    have HP := hid P
    have HR := hid R
    clear P R ht h0 h1 hs
    go_enter Tryz.func7, Tryz.ntmps7
    go_wp2_with fail
    with_reducible refine (HP.out _ (TB.out _ B0.out.bel)).mono ?_
    rintro en w1 ⟨rfl, b1⟩
    have X1 := FR3.new w1 (.bool n1) (.string t1) (.int .i64 e1)
    have b1' := alloc_b w1 (.cells #[.bool n1, .string t1, .int .i64 e1] 28)
    have B1 := hid ((B0.out.on b1).on b1')
    have HX := hid X1
    clear b1 b1' X1 B0 HP c0 c1 c2 c3 c4 c5
    obtain ⟨c0, c1, c2, c3, c4, c5⟩ := B1.out.cells
    go_wp2_with fail
    with_reducible refine (HR.out _).mono ?_
    rintro en w2 ⟨rfl, b2⟩
    have b2' := alloc_b w2 (.cells #[.bool n1, .string t1, .int .i64 e1] 28)
    have b22 := b2.trans (b2'.mono b2.size)
    have X2 := HX.out.below b22 HX.out.lt
    have B2 := hid (B1.out.on b22)
    obtain ⟨⟨x0, x1, x2⟩, -⟩ := X2.cells
    clear b2 b2' b22 X2 B1 HR HX c0 c1 c2 c3 c4 c5
    go_wp2_with fail
    go_ret
    exact ⟨rfl, B2.out.bel⟩
  have k1' : (K == 1) = false := beq_eq_false_iff_ne.2 k1
  clear k1
  by_cases k2 : K = 2
  · subst k2
    obtain ⟨n1, t1, e1, g1, r1, P, R⟩ := both_wi d N h0 h1
    have HP := hid P
    have HR := hid R
    clear P R ht h0 h1 hs k1'
    go_enter Tryz.func7, Tryz.ntmps7
    go_wp2_with fail
    with_reducible refine (HP.out _ (TB.out _ B0.out.bel)).mono ?_
    rintro en w1 ⟨rfl, b1⟩
    have X1 := FR3.new w1 (.bool n1) (.string t1) (.int .i64 e1)
    have b1' := alloc_b w1 (.cells #[.bool n1, .string t1, .int .i64 e1] 28)
    have B1 := hid ((B0.out.on b1).on b1')
    have HX := hid X1
    clear b1 b1' X1 B0 HP c0 c1 c2 c3 c4 c5
    obtain ⟨c0, c1, c2, c3, c4, c5⟩ := B1.out.cells
    go_wp2_with fail
    with_reducible refine (HR.out _).mono ?_
    rintro en w2 ⟨rfl, b2⟩
    have b2' := alloc_b w2 (.cells #[.bool n1, .string t1, .int .i64 e1] 28)
    have b22 := b2.trans (b2'.mono b2.size)
    have X2 := HX.out.below b22 HX.out.lt
    have B2 := hid (B1.out.on b22)
    obtain ⟨⟨x0, x1, x2⟩, -⟩ := X2.cells
    clear b2 b2' b22 X2 B1 HR HX c0 c1 c2 c3 c4 c5
    go_wp2_with fail
    go_ret
    exact ⟨rfl, B2.out.bel⟩
  have k2' : (K == 2) = false := beq_eq_false_iff_ne.2 k2
  clear k2
  by_cases k3 : K = 3
  · subst k3
    obtain ⟨s2, s3, e2, e3, g1, r1, P, R⟩ := both_bo d h0 h1
    have HP := hid P
    have HR := hid R
    clear P R ht h0 h1 hs k1' k2'
    go_enter Tryz.func7, Tryz.ntmps7
    go_wp2_with fail
    with_reducible refine (HP.out _).mono ?_
    rintro en w1 ⟨rfl, b1⟩
    have X1 := FR3.new w1 (.bool false) (.string s2) (.int .i64 e2)
    have Y1 := FR3.new (w1.alloc (.cells #[.bool false, .string s2, .int .i64 e2] 28)) (.bool false) (.string s3) (.int .i64 e3)
    rw [World.size_alloc] at Y1
    have b1' := alloc_b w1 (.cells #[.bool false, .string s2, .int .i64 e2] 28)
    have b1'' := alloc_b (w1.alloc (.cells #[.bool false, .string s2, .int .i64 e2] 28)) (.cells #[.bool false, .string s3, .int .i64 e3] 28)
    have B1 := hid (((B0.out.on b1).on b1').on b1'')
    have HX := hid (X1.below b1'' X1.lt)
    have HY := hid Y1
    clear b1 b1' b1'' X1 Y1 B0 HP c0 c1 c2 c3 c4 c5
    obtain ⟨c0, c1, c2, c3, c4, c5⟩ := B1.out.cells
    go_wp2_with fail
    with_reducible refine (HR.out _).mono ?_
    rintro en w2 ⟨rfl, b2⟩
    have b2' := alloc_b w2 (.cells #[.bool false, .string s2, .int .i64 e2] 28)
    have b2'' := alloc_b (w2.alloc (.cells #[.bool false, .string s2, .int .i64 e2] 28)) (.cells #[.bool false, .string s3, .int .i64 e3] 28)
    have b12 := b2.trans (b2'.mono b2.size)
    have b22 := b12.trans (b2''.mono b12.size)
    have X2 := HX.out.below b22 HX.out.lt
    have Y2 := HY.out.below b22 HY.out.lt
    have B2 := hid (B1.out.on b22)
    obtain ⟨⟨x0, x1, x2⟩, -⟩ := X2.cells
    obtain ⟨⟨y0, y1, y2⟩, -⟩ := Y2.cells
    clear b2 b2' b2'' b12 b22 X2 Y2 B1 HR HX HY c0 c1 c2 c3 c4 c5
    go_wp2_with fail
    go_ret
    exact ⟨rfl, B2.out.bel⟩
  have k3' : (K == 3) = false := beq_eq_false_iff_ne.2 k3
  clear k3
  by_cases k4 : K = 4
  · subst k4
    have hl : (s.data.toList.map (fun b => (b.toNat : Int))).length ≤ 281474976710654 := by
      have := (Str.self s).size
      omega
    have HP := hid (fun wx => zhold_any n s _ e d wx h0 h1 (Str.self s) hl)
    have HR := hid (fun wx => xhold_any n s _ e d wx h0 h1 (Str.self s) hl)
    unfold HoTold at HP HR
    generalize Sh.hoB n (s.data.toList.map (fun b => (b.toNat : Int))) e d = g1 at *
    generalize Sh.hoE (s.data.toList.map (fun b => (b.toNat : Int))) e d = r1 at *
    clear ht h0 h1 hs hl k1' k2' k3'
    go_enter Tryz.func7, Tryz.ntmps7
    go_wp2_with fail
    with_reducible refine (HP.out _).mono ?_
    rintro en w1 ⟨rfl, b1⟩
    have B1 := hid (B0.out.on b1)
    clear b1 B0 HP c0 c1 c2 c3 c4 c5
    obtain ⟨c0, c1, c2, c3, c4, c5⟩ := B1.out.cells
    go_wp2_with fail
    with_reducible refine (HR.out _).mono ?_
    rintro en w2 ⟨rfl, b2⟩
    have B2 := hid (B1.out.on b2)
    clear b2 B1 HR c0 c1 c2 c3 c4 c5
    go_wp2_with fail
    go_ret
    exact ⟨rfl, B2.out.bel⟩
  have k4' : (K == 4) = false := beq_eq_false_iff_ne.2 k4
  clear k4
  by_cases k5 : K = 5
  · subst k5
    obtain ⟨t1, P, R⟩ := both_tx d h0 h1
    have HP := hid P
    have HR := hid R
    clear P R ht h0 h1 hs k1' k2' k3' k4'
    go_enter Tryz.func7, Tryz.ntmps7
    go_wp2_with fail
    with_reducible refine (HP.out _ (TB.out _ B0.out.bel)).mono ?_
    rintro en w1 ⟨rfl, b1⟩
    have B1 := hid (B0.out.on b1)
    clear b1 B0 HP c0 c1 c2 c3 c4 c5
    obtain ⟨c0, c1, c2, c3, c4, c5⟩ := B1.out.cells
    go_wp2_with fail
    with_reducible refine (HR.out _ (TB.out _ B1.out.bel)).mono ?_
    rintro en w2 ⟨rfl, b2⟩
    have B2 := hid (B1.out.on b2)
    clear b2 B1 HR c0 c1 c2 c3 c4 c5
    go_wp2_with fail
    go_ret
    exact ⟨rfl, B2.out.bel⟩
  have k5' : (K == 5) = false := beq_eq_false_iff_ne.2 k5
  have BB := hid B0.out.bel
  clear k5 ht h0 h1 hs B0
  go_enter Tryz.func7, Tryz.ntmps7
  go_wp2_with fail
  go_ret
  exact ⟨rfl, BB.out⟩
end Go.Proofs.YtonnlimmjelldaaGreatDoor

namespace Go.Proofs.YtonnlimmjelldaaGreatDoor
open Go Go.RowKit Go.Deep

theorem O12.Holds.below {w w' : World} {a : Option Addr} {its : List O12} (h : O12.Holds w a its) (hb : Below w.heap.size w w') : O12.Holds w' a its := by
  rcases h with rfl | ⟨b, off, rfl, h⟩
  · exact .inl rfl
  · refine .inr ⟨b, off, rfl, fun i it hi => ?_⟩
    obtain ⟨h0, h1, h2, h3, h4, h5⟩ := h i it hi
    exact ⟨by rw [hb.cell (p := ⟨b, off + i * 6, none⟩) (cell_lt h0)]; exact h0, by rw [hb.cell (p := ⟨b, off + i * 6 + 1, none⟩) (cell_lt h1)]; exact h1, by rw [hb.cell (p := ⟨b, off + i * 6 + 2, none⟩) (cell_lt h2)]; exact h2, by rw [hb.cell (p := ⟨b, off + i * 6 + 3, none⟩) (cell_lt h3)]; exact h3, by rw [hb.cell (p := ⟨b, off + i * 6 + 4, none⟩) (cell_lt h4)]; exact h4, by rw [hb.cell (p := ⟨b, off + i * 6 + 5, none⟩) (cell_lt h5)]; exact h5⟩

/-- Some Boolean is told. -/
def AnyB (e : Ending) : Prop := ∃ b, e = .returned (.bool b)
set_option maxRecDepth 100000 in
set_option maxHeartbeats 4000000 in
theorem much12_any (a : Option Addr) (len cap : Nat) (its : List O12) (w : World) (hl : its.length = len) (hc : len ≤ cap) (hm : cap ≤ 17592186044416) (hp : O12.Holds w a its) (hi : ∀ it ∈ its, O12.Bd it) :
    Calls Tryz.prog 6 #[.slice a len cap] w fun e w' => AnyB e ∧ w' = w := by
  have HL := hid hl
  have HP := hid hp
  have HI := hid hi
  have lm : (len : Int) ≤ 17592186044416 := by omega
  clear hl hp hi
  go_enter Tryz.func6, Tryz.ntmps6
  go_wp2_with fail
  go_loopg [3, 4] len (fun g bv iv wr => ∃ (j : Nat) (B : Int), j + g = len ∧ bv = .int .i64 B ∧ iv = .int .i64 j ∧ 0 ≤ B ∧ B ≤ 200000000000000 ∧ Hid (wr = w))
  case atStart => exact ⟨0, 0, by omega, rfl, rfl, by omega, by omega, rfl⟩
  case round =>
    obtain ⟨j, B, hj, rfl, rfl, b0, b1, hw⟩ := hrel
    have hw := hw.out
    subst hw
    by_cases hlt : j < len
    · have hjl : (j : Int) < (len : Int) := by omega
      by_cases hB : B ≤ 16777216
      · obtain ⟨it, hit⟩ : ∃ it, its[j]? = some it := ⟨_, List.getElem?_eq_getElem (by have := HL.out; omega)⟩
        have hbd := (HI.out it (List.mem_of_getElem? hit)).2.1
        rcases HP.out with h | ⟨b0', off, rfl, h⟩
        · rw [h] at hit
          simp at hit
        · obtain ⟨-, -, -, -, c4, -⟩ := h j it hit
          have sz : (it.s.size : Int) ≤ 140737488351232 := by omega
          generalize it.s = s at *
          clear h hit HP HI HL hbd
          go_wp2_with fail
          go_roundg (len - (j + 1))
          case measure => omega
          case rel => exact ⟨j + 1, B + (s.size : Int), by omega, rfl, by go_num, by omega, by omega, rfl⟩
      · clear HP HI HL
        go_wp2_with fail
        go_ret
        exact ⟨⟨_, rfl⟩, rfl⟩
    · have hjl : ¬ (j : Int) < (len : Int) := by omega
      clear HP HI HL
      go_wp2_with fail
      go_ret
      exact ⟨⟨_, rfl⟩, rfl⟩

set_option maxRecDepth 100000 in
set_option maxHeartbeats 4000000 in
theorem all12_law (a : Option Addr) (len cap : Nat) (its : List O12) (w : World) (hl : its.length = len) (hc : len ≤ cap) (hm : cap ≤ 17592186044416) (hp : O12.Holds w a its) (hi : ∀ it ∈ its, O12.Bd it) (hT : Tab10 w) :
    Calls Tryz.prog 4 #[.slice a len cap, .int .i64 1, .int .i64 5] w fun e w' => e = .returned (.bool true) ∧ Below w.heap.size w w' := by
  have HL := hid hl
  have HP := hid hp
  have HI := hid hi
  have AW := hid (lawake_any w hT)
  have MU := hid (fun (wx : World) (h : Below w.heap.size w wx) => much12_any a len cap its wx hl hc hm (hp.below h) hi)
  have PL := hid (fun (K d N : Int) (n : Bool) (s : ByteArray) (e : Int) (wx : World) (b : Below w.heap.size w wx) (h0 : 0 ≤ d) (h1 : d < 18446744073709551616) (hs : s.size ≤ 140737488351232) => plays_any K d N n s e wx (tab10_below hT b) h0 h1 hs)
  have lm : (len : Int) ≤ 17592186044416 := by omega
  clear hl hp hi hT
  go_enter Tryz.func4, Tryz.ntmps4
  go_wp2_with fail
  with_reducible refine AW.out.mono ?_
  rintro e w1 ⟨rfl, hB⟩
  have D1 := hid hB
  clear hB AW
  go_wp2_with fail
  with_reducible refine (MU.out w1 D1.out).mono ?_
  rintro e w2 ⟨⟨mb, rfl⟩, hw⟩
  subst hw
  clear MU
  cases mb with
  | true =>
    go_wp2_with fail
    go_ret
    exact ⟨rfl, D1.out⟩
  | false =>
    go_wp2_with fail
    go_loopg [7, 8] len (fun g ok i wr => ∃ j : Nat, j + g = len ∧ ok = .bool true ∧ i = .int .i64 j ∧ Hid (Below w.heap.size w wr))
    case atStart => exact ⟨0, by omega, rfl, rfl, D1⟩
    case round =>
      clear D1
      obtain ⟨j, hj, rfl, rfl, D⟩ := hrel
      by_cases hlt : j < len
      · obtain ⟨it, hit⟩ : ∃ it, its[j]? = some it := ⟨_, List.getElem?_eq_getElem (by have := HL.out; omega)⟩
        have hPH := HP.out.below D.out
        obtain ⟨⟨d0, d1⟩, sb, -, -⟩ := HI.out it (List.mem_of_getElem? hit)
        rcases hPH with h | ⟨b0, off, rfl, h⟩
        · rw [h] at hit
          simp at hit
        · obtain ⟨c0, c1, c2, c3, c4, c5⟩ := h j it hit
          obtain ⟨K, d, N, n, s, e⟩ := it
          simp only at c0 c1 c2 c3 c4 c5 d0 d1 sb
          have hjl : (j : Int) < (len : Int) := by omega
          have WC := hid (PL.out K d N n s e _ D.out d0 d1 sb)
          clear h hit HP HI HL d0 d1 sb PL
          by_cases k1 : 1 ≤ K
          · by_cases k5 : K ≤ 5
            · go_wp2_with fail
              with_reducible refine WC.out.mono ?_
              rintro e w2 ⟨rfl, hB⟩
              have D2 := hid (below_on D.out hB)
              clear hB c0 c1 c2 c3 c4 c5 D WC
              go_wp2_with fail
              go_roundg (len - (j + 1))
              case measure => omega
              case rel => exact ⟨j + 1, by omega, rfl, by go_num, D2⟩
            · clear WC
              go_wp2_with fail
              go_roundg (len - (j + 1))
              case measure => omega
              case rel => exact ⟨j + 1, by omega, rfl, by go_num, D⟩
          · clear WC
            go_wp2_with fail
            go_roundg (len - (j + 1))
            case measure => omega
            case rel => exact ⟨j + 1, by omega, rfl, by go_num, D⟩
      · have hjl : ¬ (j : Int) < (len : Int) := by omega
        clear HP HI HL PL
        go_wp2_with fail
        go_ret
        exact ⟨rfl, D.out⟩
set_option maxRecDepth 100000 in
theorem shortest_all_law (a : Option Addr) (len cap : Nat) (its : List O12) (w : World) (hl : its.length = len) (hc : len ≤ cap) (hm : cap ≤ 17592186044416) (hp : O12.Holds w a its) (hi : ∀ it ∈ its, O12.Bd it) (hT : Tab w ∧ Tab10 w) :
    Calls Tryz.prog 3 #[.slice a len cap] w fun e w' => e = .returned (.bool true) ∧ Below w.heap.size w w' := by
  have L := hid (all12_law a len cap its w hl hc hm hp hi hT.2)
  clear hl hc hm hp hi hT
  go_enter Tryz.func3, Tryz.ntmps3
  go_wp2_with fail
  refine L.out.mono ?_
  rintro e w1 ⟨rfl, hB⟩
  have D := hid hB
  clear hB L
  go_wp2_with fail
  go_ret
  exact ⟨rfl, D.out⟩
end Go.Proofs.YtonnlimmjelldaaGreatDoor

namespace Go.Proofs.YtonnlimmjelldaaGreatDoor
open Go Go.RowKit Go.Deep

theorem tab_laid : (Rows.laid_math_bits_deBruijn64tab : DataW Unit) = Lib.tabData .u8 (List.map Int.ofNat Lib.deBruijn64tab) := by kernel_rfl

theorem tab_of {W : World} {rest : List (String × DataW Unit)} (h : laidMet Tryz.prog (("math/bits.deBruijn64tab", Rows.laid_math_bits_deBruijn64tab) :: rest) W) : Tab W := by
  rw [tab_laid] at h
  have ht := Lib.tabIs_of_head (g := 5) (t := 195) (e := 5) (n := 64) (k := .u8) (zs := List.map Int.ofNat Lib.deBruijn64tab) (by kernel_rfl) (by kernel_rfl) Tryz.underlying195 Tryz.underlying5 (by kernel_rfl) (by kernel_rfl) h
  intro j hj
  have hl : (List.map Int.ofNat Lib.deBruijn64tab).length = Lib.deBruijn64tab.length := by simp
  rw [ht.cell (g := 5) (by kernel_rfl) j (by omega)]
  simp [List.getD, hj]

end Go.Proofs.YtonnlimmjelldaaGreatDoor

namespace Go.Proofs.YtonnlimmjelldaaGreatDoor
open Go Go.RowKit Go.Deep

theorem laid_tail12 {P : Program} {W : World} {x : String × DataW Unit} {rest : List (String × DataW Unit)} (h : laidMet P (x :: rest) W) : laidMet P rest W := by
  obtain ⟨ps, ⟨g, t, cs, fuel, p, q, _, _, _, _, hr, rfl⟩, hn, hc⟩ := h
  exact ⟨q, hr, (List.nodup_append.1 hn).2.1, fun b off hm => hc b off (List.mem_append_right _ hm)⟩

theorem pow_laid12 : (Rows.laid_internal_strconv_uint64pow10 : DataW Unit) = Lib.tabData .u64 Lib.pow10Tab := by kernel_rfl

theorem tables12 {W : World} {a : String × DataW Unit} {rest : List (String × DataW Unit)} (h : laidMet Tryz.prog (a :: ("math/bits.deBruijn64tab", Rows.laid_math_bits_deBruijn64tab) :: ("internal/strconv.uint64pow10", Rows.laid_internal_strconv_uint64pow10) :: rest) W) : Tab W ∧ Tab10 W := by
  have h1 := laid_tail12 h
  have h2 := laid_tail12 h1
  rw [pow_laid12] at h2
  exact ⟨tab_of h1, Lib.tabIs_of_head (g := 2) (t := 157) (e := 26) (n := 20) (by kernel_rfl) (by kernel_rfl) Tryz.underlying157 Tryz.underlying26 (by kernel_rfl) (by kernel_rfl) h2⟩
end Go.Proofs.YtonnlimmjelldaaGreatDoor
