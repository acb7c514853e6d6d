/-
  Texts put together: KAll, KTab.
-/
import Derived.Test.YthgjflfeilbbbaaGreatDoorRI
import Derived.Test.YthgjflfeilbbbaaGreatDoorRG
import Derived.Lib.LaidTab
namespace Go.Proofs.YthgjflfeilbbbaaGreatDoor
open Go Go.RowKit Go.Deep

def opV (K V Q : Int) (n : Bool) (s : ByteArray) (e : Int) : Value := .agg #[.int .i64 K, .int .u64 V, .int .i64 Q, .bool n, .string s, .int .i64 e]
def Row6 (w : World) (b : Nat) (K V Q : Int) (n : Bool) (s : ByteArray) (e : Int) : Prop := w.heap[b]? = some (.cells #[.int .i64 K, .int .u64 V, .int .i64 Q, .bool n, .string s, .int .i64 e] 48 (0, 0))
/-- A call in its box. -/
def OB (w wx : World) (K V Q : Int) (n : Bool) (s : ByteArray) (e : Int) : Prop := Below w.heap.size w wx ∧ Row6 wx w.heap.size K V Q n s e
theorem Row6.lt {w : World} {b : Nat} {K V Q : Int} {n : Bool} {s : ByteArray} {e : Int} (h : Row6 w b K V Q n s e) : b < w.heap.size := by
  rcases Nat.lt_or_ge b w.heap.size with hl | hl
  · exact hl
  · simp [Row6, Array.getElem?_eq_none hl] at h
theorem OB.new (w : World) (K V Q : Int) (n : Bool) (s : ByteArray) (e : Int) : OB w (w.alloc (.cells #[.int .i64 K, .int .u64 V, .int .i64 Q, .bool n, .string s, .int .i64 e] 48)) K V Q n s e := ⟨alloc_b _ _, heap_alloc_new _ _⟩
theorem OB.on {w wx wy : World} {K V Q : Int} {n : Bool} {s : ByteArray} {e : Int} (h : OB w wx K V Q n s e) (k : Below wx.heap.size wx wy) : OB w wy K V Q n s e := by
  refine ⟨below_on h.1 k, ?_⟩
  have := h.2
  unfold Row6 at this ⊢
  rw [k.block _ h.2.lt]; exact this
theorem OB.cells {w wx : World} {K V Q : Int} {n : Bool} {s : ByteArray} {e : Int} (h : OB w wx K V Q n s e) :
    wx.cell? ⟨w.heap.size, 0, none⟩ = some (.int .i64 K) ∧ wx.cell? ⟨w.heap.size, 1, none⟩ = some (.int .u64 V) ∧ wx.cell? ⟨w.heap.size, 2, none⟩ = some (.int .i64 Q) ∧ wx.cell? ⟨w.heap.size, 3, none⟩ = some (.bool n) ∧ wx.cell? ⟨w.heap.size, 4, none⟩ = some (.string s) ∧ wx.cell? ⟨w.heap.size, 5, none⟩ = some (.int .i64 e) := by
  have h := h.2
  simp only [Row6] at h
  refine ⟨?_, ?_, ?_, ?_, ?_, ?_⟩ <;> simp [World.cell?, h]

theorem pow_two9 {q : Int} {w w' wa wb : World} {r r' : Ending} (h : PowTold q w r wa) (k : PowTold q w' r' wb) : ∃ a b c d, r = .returned (.tuple #[.int .u64 a, .int .u64 b, .int .i64 c, .int .i64 d]) ∧ r' = .returned (.tuple #[.int .u64 a, .int .u64 b, .int .i64 c, .int .i64 d]) := by
  rcases h.1 with h1 | h1 <;> rcases k.1 with k1 | k1
  · exact ⟨_, _, _, _, h1.2, k1.2⟩
  · omega
  · omega
  · exact ⟨_, _, _, _, h1.2.2, k1.2.2⟩
theorem small_two9 {v q : Int} {w w' wa wb : World} {r r' : Ending} (h : SmallTold v q w r wa) (k : SmallTold v q w' r' wb) : ∃ a b, r = .returned (.tuple #[.int .u64 a, .bool b]) ∧ r' = .returned (.tuple #[.int .u64 a, .bool b]) := by
  rcases h.1 with ⟨h1, h2, h3, x, hx, hr⟩ | ⟨h1, hx⟩ <;> rcases k.1 with ⟨k1, k2, k3, y, ky, kr⟩ | ⟨k1, ky⟩
  · have e := Ie.Rnd.one (a := 0) (a' := 0) (Int.pow_pos (by decide)) (Int.pow_pos (by decide)) hr kr (by omega) rfl
    subst e
    exact ⟨_, _, hx, ky⟩
  · omega
  · omega
  · exact ⟨_, _, hx, ky⟩
theorem step_two9 {v q : Int} {w w' wa wb : World} {r r' : Ending} (h : StepTold v q w r wa) (k : StepTold v q w' r' wb) : ∃ a b, r = .returned (.tuple #[.int .u64 a, .bool b]) ∧ r' = .returned (.tuple #[.int .u64 a, .bool b]) := by
  obtain ⟨x, s, hx, hr, _⟩ := h
  obtain ⟨y, t, hy, kr, _⟩ := k
  obtain ⟨rfl, rfl⟩ := hr.one kr
  exact ⟨_, _, hx, hy⟩
theorem TellIs.one {xs : List Int} {e x y : Int} {s t : Bool} (h : TellIs xs e x s) (k : TellIs xs e y t) : x = y ∧ s = t := by
  rcases h with ⟨l, h⟩ | ⟨l, x1, s1, h1, h⟩ <;> rcases k with ⟨l', k⟩ | ⟨l', y1, t1, k1, k⟩
  · rcases h with ⟨a, b, c, hs, h⟩ | ⟨a, h⟩ <;> rcases k with ⟨a', b', c', ks, k⟩ | ⟨a', k⟩
    · exact ⟨Ie.Rnd.one (a := 0) (a' := 0) (Int.pow_pos (by decide)) (Int.pow_pos (by decide)) h k (by omega) rfl, by rw [hs, ks]⟩
    · omega
    · omega
    · exact h.one k
  · omega
  · omega
  · obtain ⟨rfl, rfl⟩ := h1.one k1
    rcases h with ⟨a, b, c⟩ | ⟨a, x2, s2, h2, h⟩ <;> rcases k with ⟨a', b', c'⟩ | ⟨a', y2, t2, k2, k⟩
    · exact ⟨by rw [b, b'], by rw [c, c']⟩
    · rw [a] at a'; cases a'
    · rw [a] at a'; cases a'
    · obtain ⟨rfl, rfl⟩ := h2.one k2
      rcases h with ⟨g1, g2, g3, g4⟩ | ⟨g1, g2, g3⟩ <;> rcases k with ⟨j1, j2, j3, j4⟩ | ⟨j1, j2, j3⟩
      · exact ⟨by rw [g3, j3], by rw [g4, j4]⟩
      · exact absurd ⟨g1, g2⟩ j1
      · exact absurd ⟨j1, j2⟩ g1
      · exact ⟨by rw [g2, j2], by rw [g3, j3]⟩
theorem try_two9 {n : Bool} {xs : List Int} {e : Int} {w w' wa wb : World} {r r' : Ending} (h : TryTold n xs e w r wa) (k : TryTold n xs e w' r' wb) : ∃ a b, r = .returned (.tuple #[.int .u64 a, .bool b]) ∧ r' = .returned (.tuple #[.int .u64 a, .bool b]) := by
  rcases h.1 with ⟨h1, hx⟩ | ⟨h1, x, s, h2, _, _, hx⟩ <;> rcases k.1 with ⟨k1, ky⟩ | ⟨k1, y, t, k2, _, _, ky⟩
  · exact ⟨_, _, hx, ky⟩
  · exact absurd k1 h1
  · exact absurd h1 k1
  · obtain ⟨rfl, rfl⟩ := h2.one k2
    exact ⟨_, _, hx, ky⟩

set_option maxRecDepth 100000 in
set_option maxHeartbeats 4000000 in
theorem plays_any9 (K V Q : Int) (n : Bool) (s : ByteArray) (xs : List Int) (e : Int) (w : World) (hT : Tab w) (hX : Tens w) (hV : Bd V) (hs : Str s xs) (hn : xs.length ≤ 281474976710655) :
    Calls Tryz.prog 19 #[opV K V Q n s e] w fun r w' => r = .returned (.bool true) ∧ Below w.heap.size w w' := by
  have Z := hid (OB.new w K V Q n s e)
  have A1 := hid (fun wx (b : Below w.heap.size w wx) => power_any9 Q wx (hT.below b))
  have B1 := hid (fun wx => rpower_any9 Q wx)
  have A2 := hid (fun wx (b : Below w.heap.size w wx) => small_any9 V Q wx (hT.below b) (hX.below b) hV)
  have B2 := hid (fun wx => rsmall_any9 V Q wx hV)
  have A3 := hid (fun wx (b : Below w.heap.size w wx) => step_any9 V Q wx (hT.below b) hV)
  have B3 := hid (fun wx => rstep_any9 V Q wx hV)
  have A4 := hid (fun wx (b : Below w.heap.size w wx) => try_any9 n s xs e wx (hT.below b) (hX.below b) hs hn)
  have B4 := hid (fun wx => rtry_any9 n s xs e wx hs hn)
  unfold decV at A4 B4
  unfold opV
  clear hT hX hV hs hn
  go_enter Tryz.func19, Tryz.ntmps19
  go_upto_region 1 with fail
  generalize (w.alloc (.cells #[.int .i64 K, .int .u64 V, .int .i64 Q, .bool n, .string s, .int .i64 e] 48)) = w0 at *
  have b0 := Z.out.1
  by_cases k1 : K = 1
  · subst k1
    obtain ⟨c0, c1, c2, c3, c4, c5⟩ := Z.out.cells
    go_wp2_with fail
    with_reducible refine (A1.out _ b0).mono ?_
    rintro r w1 h1
    have hB1 : Below w0.heap.size w0 w1 := by exact h1.2
    have H1 := hid h1
    have Z1 := hid (Z.out.on hB1)
    obtain ⟨a, b, c, d, hr, _⟩ := pow_two9 h1 h1
    subst hr
    clear h1 hB1 b0 c0 c1 c2 c3 c4 c5 Z
    obtain ⟨c0, c1, c2, c3, c4, c5⟩ := Z1.out.cells
    go_wp2_with fail
    with_reducible refine (B1.out _).mono ?_
    rintro r w2 h2
    have hB2 : Below w1.heap.size w1 w2 := by exact h2.2
    obtain ⟨a2, b2, c2x, d2, hr, hr2⟩ := pow_two9 H1.out h2
    simp only [Ending.returned.injEq, Value.tuple.injEq, Array.mk.injEq, List.cons.injEq, Value.int.injEq, and_true, true_and] at hr
    obtain ⟨rfl, rfl, rfl, rfl⟩ := hr
    subst hr2
    have F := hid (Z1.out.on hB2).1
    clear h2 hB2 H1 Z1 c0 c1 c2 c3 c4 c5 A1 B1 A2 B2 A3 B3 A4 B4
    go_wp2_with fail
    go_ret
    exact ⟨rfl, F.out⟩
  by_cases k2 : K = 2
  · subst k2
    obtain ⟨c0, c1, c2, c3, c4, c5⟩ := Z.out.cells
    go_wp2_with fail
    with_reducible refine (A2.out _ b0).mono ?_
    rintro r w1 h1
    have hB1 : Below w0.heap.size w0 w1 := by exact h1.2
    have H1 := hid h1
    have Z1 := hid (Z.out.on hB1)
    obtain ⟨a, b, hr, _⟩ := small_two9 h1 h1
    subst hr
    clear h1 hB1 b0 c0 c1 c2 c3 c4 c5 Z
    obtain ⟨c0, c1, c2, c3, c4, c5⟩ := Z1.out.cells
    go_wp2_with fail
    with_reducible refine (B2.out _).mono ?_
    rintro r w2 h2
    have hB2 : Below w1.heap.size w1 w2 := by exact h2.2
    obtain ⟨a2, b2, hr, hr2⟩ := small_two9 H1.out h2
    simp only [Ending.returned.injEq, Value.tuple.injEq, Array.mk.injEq, List.cons.injEq, Value.int.injEq, Value.bool.injEq, and_true, true_and] at hr
    obtain ⟨rfl, rfl⟩ := hr
    subst hr2
    have F := hid (Z1.out.on hB2).1
    clear h2 hB2 H1 Z1 c0 c1 c2 c3 c4 c5 A1 B1 A2 B2 A3 B3 A4 B4
    go_wp2_with fail
    go_ret
    exact ⟨rfl, F.out⟩
  by_cases k3 : K = 3
  · subst k3
    obtain ⟨c0, c1, c2, c3, c4, c5⟩ := Z.out.cells
    go_wp2_with fail
    with_reducible refine (A3.out _ b0).mono ?_
    rintro r w1 h1
    have hB1 : Below w0.heap.size w0 w1 := by obtain ⟨_, _, _, _, h⟩ := h1; exact h
    have H1 := hid h1
    have Z1 := hid (Z.out.on hB1)
    obtain ⟨a, b, hr, _⟩ := step_two9 h1 h1
    subst hr
    clear h1 hB1 b0 c0 c1 c2 c3 c4 c5 Z
    obtain ⟨c0, c1, c2, c3, c4, c5⟩ := Z1.out.cells
    go_wp2_with fail
    with_reducible refine (B3.out _).mono ?_
    rintro r w2 h2
    have hB2 : Below w1.heap.size w1 w2 := by obtain ⟨_, _, _, _, h⟩ := h2; exact h
    obtain ⟨a2, b2, hr, hr2⟩ := step_two9 H1.out h2
    simp only [Ending.returned.injEq, Value.tuple.injEq, Array.mk.injEq, List.cons.injEq, Value.int.injEq, Value.bool.injEq, and_true, true_and] at hr
    obtain ⟨rfl, rfl⟩ := hr
    subst hr2
    have F := hid (Z1.out.on hB2).1
    clear h2 hB2 H1 Z1 c0 c1 c2 c3 c4 c5 A1 B1 A2 B2 A3 B3 A4 B4
    go_wp2_with fail
    go_ret
    exact ⟨rfl, F.out⟩
  by_cases k4 : K = 4
  · subst k4
    obtain ⟨c0, c1, c2, c3, c4, c5⟩ := Z.out.cells
    go_wp2_with fail
    with_reducible refine (A4.out _ b0).mono ?_
    rintro r w1 h1
    have hB1 : Below w0.heap.size w0 w1 := by exact h1.2
    have H1 := hid h1
    have Z1 := hid (Z.out.on hB1)
    obtain ⟨a, b, hr, _⟩ := try_two9 h1 h1
    subst hr
    clear h1 hB1 b0 c0 c1 c2 c3 c4 c5 Z
    obtain ⟨c0, c1, c2, c3, c4, c5⟩ := Z1.out.cells
    go_wp2_with fail
    with_reducible refine (B4.out _).mono ?_
    rintro r w2 h2
    have hB2 : Below w1.heap.size w1 w2 := by exact h2.2
    obtain ⟨a2, b2, hr, hr2⟩ := try_two9 H1.out h2
    simp only [Ending.returned.injEq, Value.tuple.injEq, Array.mk.injEq, List.cons.injEq, Value.int.injEq, Value.bool.injEq, and_true, true_and] at hr
    obtain ⟨rfl, rfl⟩ := hr
    subst hr2
    have F := hid (Z1.out.on hB2).1
    clear h2 hB2 H1 Z1 c0 c1 c2 c3 c4 c5 A1 B1 A2 B2 A3 B3 A4 B4
    go_wp2_with fail
    go_ret
    exact ⟨rfl, F.out⟩
  have kb1 : (K == 1) = false := by rw [beq_eq_false_iff_ne]; exact k1
  have kb2 : (K == 2) = false := by rw [beq_eq_false_iff_ne]; exact k2
  have kb3 : (K == 3) = false := by rw [beq_eq_false_iff_ne]; exact k3
  have kb4 : (K == 4) = false := by rw [beq_eq_false_iff_ne]; exact k4
  obtain ⟨c0, c1, c2, c3, c4, c5⟩ := Z.out.cells
  clear A1 B1 A2 B2 A3 B3 A4 B4
  have F := hid b0
  go_wp2_with fail
  go_ret
  exact ⟨rfl, F.out⟩

theorem O9.Holds.below {w w' : World} {a : Option Addr} {its : List O9} (h : O9.Holds w a its) (hb : Below w.heap.size w w') : O9.Holds w' a its := by
  rcases h with rfl | ⟨b, off, rfl, h⟩
  · exact .inl rfl
  · refine .inr ⟨b, off, rfl, fun i it hi => ?_⟩
    obtain ⟨h0, h1, h2, h3, h4, h5⟩ := h i it hi
    exact ⟨by rw [hb.cell (p := ⟨b, off + i * 6, none⟩) (cell_lt h0)]; exact h0, by rw [hb.cell (p := ⟨b, off + i * 6 + 1, none⟩) (cell_lt h1)]; exact h1, by rw [hb.cell (p := ⟨b, off + i * 6 + 2, none⟩) (cell_lt h2)]; exact h2, by rw [hb.cell (p := ⟨b, off + i * 6 + 3, none⟩) (cell_lt h3)]; exact h3, by rw [hb.cell (p := ⟨b, off + i * 6 + 4, none⟩) (cell_lt h4)]; exact h4, by rw [hb.cell (p := ⟨b, off + i * 6 + 5, none⟩) (cell_lt h5)]; exact h5⟩

def MuchTold (w : World) (r : Ending) (w' : World) : Prop := ∃ b, r = .returned (.bool b) ∧ w' = w

set_option maxRecDepth 100000 in
set_option maxHeartbeats 2000000 in
theorem much_any9 (a : Option Addr) (len cap : Nat) (its : List O9) (w : World) (hl : its.length = len) (hc : len ≤ cap) (hm : cap ≤ 17592186044416) (hp : O9.Holds w a its) (hi : ∀ it ∈ its, O9.Bd it) :
    Calls Tryz.prog 18 #[.slice a len cap] w fun r w' => MuchTold w r w' := by
  have HL := hid hl
  have HP := hid hp
  have HI := hid hi
  clear hl hp hi
  go_enter Tryz.func18, Tryz.ntmps18
  go_wp2_with fail
  go_loop [3, 4] (fun t i => ∃ (j : Nat) (x : Int), j ≤ len ∧ t = .int .i64 x ∧ i = .int .i64 j ∧ 0 ≤ x ∧ x ≤ 140737505128448) (fun _ i => len - (intOf i).toNat)
  case atStart => exact ⟨0, 0, Nat.zero_le _, rfl, rfl, by omega, by omega⟩
  case round =>
    obtain ⟨j, x, hj, rfl, rfl, x0, x1⟩ := hrel
    by_cases hlt : j < len
    · by_cases hx : x ≤ 16777216
      · obtain ⟨it, hit⟩ : ∃ it, its[j]? = some it := ⟨_, List.getElem?_eq_getElem (by have := HL.out; omega)⟩
        obtain ⟨_, sb⟩ := HI.out it (List.mem_of_getElem? hit)
        rcases HP.out with h | ⟨b0, off, rfl, h⟩
        · rw [h] at hit
          simp at hit
        · obtain ⟨c0, c1, c2, c3, c4, c5⟩ := h j it hit
          obtain ⟨K, V, Q, n, s, e⟩ := it
          simp only at c0 c1 c2 c3 c4 c5 sb
          have hjl : (j : Int) < (len : Int) := by omega
          have sb1 : (s.size : Int) ≤ 140737488351232 := by omega
          have sb0 : (0 : Int) ≤ (s.size : Int) := by omega
          clear h hit
          go_wp2_with fail
          go_round
          case rel => exact ⟨j + 1, x + (s.size : Int), by omega, rfl, by go_num, by omega, by omega⟩
          case measure => simp [intOf]; omega
      · have hjl : (j : Int) < (len : Int) := by omega
        go_wp2_with fail
        go_ret
        exact ⟨_, rfl, rfl⟩
    · have hjl : ¬ (j : Int) < (len : Int) := by omega
      go_wp2_with fail
      go_ret
      exact ⟨_, rfl, rfl⟩

set_option maxRecDepth 100000 in
set_option maxHeartbeats 4000000 in
theorem upTo_any9 (a : Option Addr) (len cap : Nat) (its : List O9) (w : World) (hl : its.length = len) (hc : len ≤ cap) (hm : cap ≤ 17592186044416) (hp : O9.Holds w a its) (hi : ∀ it ∈ its, O9.Bd it) (hT : Tab w) (hX : Tens w) :
    Calls Tryz.prog 6 #[.slice a len cap, .int .i64 1, .int .i64 4] w fun e w' => e = .returned (.bool true) ∧ Below w.heap.size w w' := by
  have HL := hid hl
  have HP := hid hp
  have HI := hid hi
  have AW := hid (awake_any9 w hT hX)
  have MU := hid (fun wx (b : Below w.heap.size w wx) => much_any9 a len cap its wx hl hc hm (hp.below b) hi)
  have PL := hid (fun (K V Q : Int) (n : Bool) (s : ByteArray) (e : Int) (wx : World) (b : Below w.heap.size w wx) (h0 : 0 ≤ V) (h1 : V < 18446744073709551616) (hs : s.size ≤ 140737488351232) => plays_any9 K V Q n s _ e wx (hT.below b) (hX.below b) ⟨h0, h1⟩ (Str.self s) (Nat.le_trans (str_len s hs) (by omega)))
  unfold opV at PL
  clear hl hp hi hT hX
  go_enter Tryz.func6, Tryz.ntmps6
  go_wp2_with fail
  with_reducible refine AW.out.mono ?_
  rintro e w1 ⟨rfl, hB⟩
  have D1 := hid hB
  go_wp2_with fail
  with_reducible refine (MU.out _ hB).mono ?_
  rintro e w2 ⟨mb, rfl, rfl⟩
  clear hB AW MU
  cases mb with
  | true =>
    go_wp2_with fail
    go_ret
    exact ⟨rfl, D1.out⟩
  | false =>
  go_wp2_with fail
  go_loopw [7, 8] (fun ok i wr => ∃ j : Nat, j ≤ len ∧ ok = .bool true ∧ i = .int .i64 j ∧ Hid (Below w.heap.size w wr)) (fun _ i _ => len - (intOf i).toNat)
  case atStart => exact ⟨0, Nat.zero_le _, rfl, rfl, D1.out⟩
  case round =>
    clear D1
    obtain ⟨j, hj, rfl, rfl, D⟩ := hrel
    by_cases hlt : j < len
    · obtain ⟨it, hit⟩ : ∃ it, its[j]? = some it := ⟨_, List.getElem?_eq_getElem (by have := HL.out; omega)⟩
      have hPH := HP.out.below D.out
      obtain ⟨⟨v0, v1⟩, sb⟩ := HI.out it (List.mem_of_getElem? hit)
      rcases hPH with h | ⟨b0, off, rfl, h⟩
      · rw [h] at hit
        simp at hit
      · obtain ⟨c0, c1, c2, c3, c4, c5⟩ := h j it hit
        obtain ⟨K, V, Q, n, s, e⟩ := it
        simp only at c0 c1 c2 c3 c4 c5 v0 v1 sb
        have hjl : (j : Int) < (len : Int) := by omega
        clear h hit HP HI HL
        by_cases k1 : 1 ≤ K
        · by_cases k4 : K ≤ 4
          · have WC := hid (PL.out K V Q n s e _ D.out v0 v1 sb)
            go_wp2_with fail
            with_reducible refine WC.out.mono ?_
            rintro e w2 ⟨rfl, hB⟩
            have D2 := hid (below_on D.out hB)
            clear hB c0 c1 c2 c3 c4 c5 D
            go_wp2_with fail
            go_roundw
            case rel => exact ⟨j + 1, by omega, rfl, by go_num, D2.out⟩
            case measure => simp [intOf]; omega
          · go_wp2_with fail
            go_roundw
            case rel => exact ⟨j + 1, by omega, rfl, by go_num, D.out⟩
            case measure => simp [intOf]; omega
        · go_wp2_with fail
          go_roundw
          case rel => exact ⟨j + 1, by omega, rfl, by go_num, D.out⟩
          case measure => simp [intOf]; omega
    · have hjl : ¬ (j : Int) < (len : Int) := by omega
      go_wp2_with fail
      go_ret
      exact ⟨rfl, D.out⟩

theorem all_law9 (a : Option Addr) (len cap : Nat) (its : List O9) (w : World) (hl : its.length = len) (hc : len ≤ cap) (hm : cap ≤ 17592186044416) (hp : O9.Holds w a its) (hi : ∀ it ∈ its, O9.Bd it) (hT : Tab w) (hX : Tens w) :
    Calls Tryz.prog 3 #[.slice a len cap] w fun e w' => e = .returned (.bool true) ∧ Below w.heap.size w w' := by
  have U := hid (upTo_any9 a len cap its w hl hc hm hp hi hT hX)
  clear hl hp hi hT hX
  go_enter Tryz.func3, Tryz.ntmps3
  go_wp2_with fail
  with_reducible refine U.out.mono ?_
  rintro e w1 ⟨rfl, hB⟩
  have D := hid hB
  clear hB U
  go_wp2_with fail
  go_ret
  exact ⟨rfl, D.out⟩
end Go.Proofs.YthgjflfeilbbbaaGreatDoor

namespace Go.Proofs.YthgjflfeilbbbaaGreatDoor
open Go Go.RowKit Go.Deep

theorem laid_tail9 {P : Program} {W : World} {x : String × DataW Unit} {rest : List (String × DataW Unit)} (h : laidMet P (x :: rest) W) : laidMet P rest W := by
  obtain ⟨ps, ⟨g, t, cs, fuel, p, q, _, _, _, _, hr, rfl⟩, hn, hc⟩ := h
  exact ⟨q, hr, (List.nodup_append.1 hn).2.1, fun b off hm => hc b off (List.mem_append_right _ hm)⟩

/-- An array of arrays of integers. -/
theorem cells_of_tab2 {H : Type} {enc : TypeId × Value → H} {P : Program} {w : World} {base : Nat} {sp : Nat → Bool} {held : Bool} {fuel : Nat} {t e f : TypeId} {n m : Nat} {k : IntKind} {cs : List Value} {zss : List (List Int)} {p : List MemPlace}
    (ht : P.underlying t = some (.array n e)) (he : P.underlying e = some (.array m f)) (hf : P.underlying f = some (.int k)) (hcf : P.cellsOf f = 1) (hce : P.cellsOf e = m)
    (h : DataW.trod enc P w base sp held fuel t cs = some (.agg (zss.map (Lib.tabData k)), p)) : ∀ i, i < n → ∀ zs, zss[i]? = some zs → (cs.drop (i * m)).take m = zs.map fun z => Value.int k z := by
  intro i hi zs hzs
  cases fuel with
  | zero => simp [DataW.trod] at h
  | succ fuel =>
    simp only [DataW.trod, ht, hce] at h
    split at h
    · obtain ⟨xs, hm, hx⟩ := Option.map_eq_some_iff.1 h
      have hxs : xs.map (·.1) = zss.map (Lib.tabData k) := by
        have := congrArg Prod.fst hx
        simpa using this
      obtain ⟨b, hb, hfb⟩ := Lib.mapM_at hm i i (by simp [hi])
      have h2 : (xs.map (·.1))[i]? = some b.1 := by simp [hb]
      rw [hxs, List.getElem?_map, hzs] at h2
      simp only [Option.map_some, Option.some.injEq] at h2
      obtain ⟨b1, b2⟩ := b
      simp only at h2
      subst h2
      exact Lib.cells_of_tab he hf hcf hce hfb
    · cases h

def tensZ : List (List Int) := (List.range 23).map fun j => [lo64 (10 ^ j), hi64 (10 ^ j)]
theorem tens_laid : (Rows.laid_abacus_quick_tens : DataW Unit) = .agg (tensZ.map (Lib.tabData .u64)) := by kernel_rfl
theorem tab_laid : (Rows.laid_math_bits_deBruijn64tab : DataW Unit) = Lib.tabData .u8 (List.map Int.ofNat Lib.deBruijn64tab) := by kernel_rfl

theorem tens_of {W : World} {rest : List (String × DataW Unit)} (h : laidMet Tryz.prog (("abacus/quick.tens", Rows.laid_abacus_quick_tens) :: rest) W) : Tens W := by
  rw [tens_laid] at h
  obtain ⟨ps, ⟨g', t', cs, fuel, p, q, hg', ht', hvar, hd, _, _⟩, _⟩ := h
  have hg : Tryz.prog.globalNamed "abacus/quick.tens" = some 0 := by kernel_rfl
  have hty : (Tryz.prog.globals[0]?).map (·.type) = some 79 := by kernel_rfl
  obtain rfl := Option.some.inj (hg.symm.trans hg')
  obtain rfl := Option.some.inj (hty.symm.trans ht')
  have hc := cells_of_tab2 (n := 23) (m := 2) (e := 52) (f := 25) Tryz.underlying79 Tryz.underlying52 Tryz.underlying25 (by kernel_rfl) (by kernel_rfl) hd
  intro j hj
  have hz : tensZ[j]? = some [lo64 (10 ^ j), hi64 (10 ^ j)] := by simp [tensZ, hj]
  have h1 := hc j hj _ hz
  have c0 : cs[j * 2]? = some (.int .u64 (lo64 (10 ^ j))) := by
    have := congrArg (·[0]?) h1
    simpa [List.getElem?_take, List.getElem?_drop] using this
  have c1 : cs[j * 2 + 1]? = some (.int .u64 (hi64 (10 ^ j))) := by
    have := congrArg (·[1]?) h1
    simpa [List.getElem?_take, List.getElem?_drop] using this
  have v0 := World.var?_cell hg hvar (j * 2)
  have v1 := World.var?_cell hg hvar (j * 2 + 1)
  refine ⟨?_, ?_⟩
  · rw [v0]; simpa using c0
  · rw [v1]; simpa using c1

theorem tab_of {W : World} {rest : List (String × DataW Unit)} (h : laidMet Tryz.prog (("math/bits.deBruijn64tab", Rows.laid_math_bits_deBruijn64tab) :: rest) W) : Tab W := by
  rw [tab_laid] at h
  have ht := Lib.tabIs_of_head (g := 1) (t := 136) (e := 5) (n := 64) (k := .u8) (zs := List.map Int.ofNat Lib.deBruijn64tab) (by kernel_rfl) (by kernel_rfl) Tryz.underlying136 Tryz.underlying5 (by kernel_rfl) (by kernel_rfl) h
  intro j hj
  have hl : (List.map Int.ofNat Lib.deBruijn64tab).length = Lib.deBruijn64tab.length := by simp
  rw [ht.cell (g := 1) (by kernel_rfl) j (by omega)]
  simp [List.getD, hj]

theorem tables9 {W : World} {b d : String × DataW Unit} (h : laidMet Tryz.prog [("math/bits.deBruijn64tab", Rows.laid_math_bits_deBruijn64tab), b, ("abacus/quick.tens", Rows.laid_abacus_quick_tens), d] W) : Tab W ∧ Tens W :=
  ⟨tab_of h, tens_of (laid_tail9 (laid_tail9 h))⟩
end Go.Proofs.YthgjflfeilbbbaaGreatDoor
