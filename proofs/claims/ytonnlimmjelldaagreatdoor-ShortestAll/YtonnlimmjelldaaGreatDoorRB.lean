/-
  Texts put together: QRef1, QRef2, QRef2H, QGrow, QRef3, QLimbs, FromW, TrimW, Walk6, QDivMod, QRef4, QDivOk, QRef5, QRef6A, QTimes.
-/
import Derived.Test.YtonnlimmjelldaaGreatDoorRA
import Derived.Laws.AppendOwn
import Derived.Laws.OwnMore
import Derived.Test.YtonnlimmjelldaaGreatDoorSmallA
import Derived.Test.YtonnlimmjelldaaGreatDoorWalk1
import Derived.OwnWalk
import Derived.Deep.LoopGhost
import Derived.Test.YtonnlimmjelldaaGreatDoorTimesNum
namespace Go.Proofs.YtonnlimmjelldaaGreatDoor
open Go.RowKit Go.Deep

theorem eq_of_getD {a b : List Int} (hl : a.length = b.length) (h : ∀ i, i < a.length → a.getD i 0 = b.getD i 0) : a = b := by
  have e := Nm.drop_eq_of_getD hl 0 (fun j _ => by
    by_cases hj : j < a.length
    · exact h j hj
    · rw [List.getD, List.getElem?_eq_none (by omega), List.getD, List.getElem?_eq_none (by omega)])
  simpa using e

set_option maxRecDepth 100000 in
set_option maxHeartbeats 1000000 in
/-- Short: the trimmed list, in a block of its own. -/
theorem short_any (p : Option Addr) (n cap : Nat) (zs : List Int) (N : Nat) (w : World) (hn : zs.length = n) (hm : n ≤ 17592186044416) (h : Lies w p zs) (hN : Nm.tsize zs = N) :
    Calls Tryz.prog 89 #[.slice p n cap] w fun e w' => e = .returned (.slice (some ⟨w.heap.size, 0, none⟩) N N) ∧ Own w' w.heap.size (Nm.trim zs) ∧ Below w.heap.size w w' := by
  have T := top_any p n cap zs w hn (by omega) h
  rw [hN] at T
  have HT := hid T
  have tl := Nm.tsize_le zs
  have hNn : N ≤ n := by omega
  have hmk := make64 N (by omega) w
  have ho : Own (w.alloc (.cells (madeCells #[.int .u64 0] N) 26)) w.heap.size (List.replicate N 0) := by
    rw [made_zero]; exact Own.alloc w _
  have hb0 : Below w.heap.size w (w.alloc (.cells (madeCells #[.int .u64 0] N) 26)) := (Below.refl _ _).alloc (Nat.le_refl _) _
  obtain ⟨W0, hW0⟩ : ∃ W0, w.alloc (.cells (madeCells #[.int .u64 0] N) 26) = W0 := ⟨_, rfl⟩
  rw [hW0] at hmk ho hb0
  have LT := hid ((Nm.trim_length zs).trans hN)
  have TG : Hid (∀ i, i < N → (Nm.trim zs).getD i 0 = zs.getD i 0) := fun i hi => by rw [Nm.trim, Nm.getD_take, if_pos (by omega)]
  have HO := hid ho
  have HB0 := hid hb0
  have HN := hid hn
  have HL := hid h
  clear hW0 ho hb0 T tl hN hn h
  by_cases h0 : N = 0
  · subst h0
    have E : Hid (Own W0 w.heap.size (Nm.trim zs)) := by
      rw [List.eq_nil_of_length_eq_zero LT.out]
      exact HO.out
    have hmk1 : (Instr.makeSlice 59 (.int .i64 0) (.int .i64 0)).run Tryz.prog w = .ok (.slice (some ⟨w.heap.size, 0, none⟩) 0 0) W0 := hmk
    clear hmk
    go_enter Tryz.func89, Tryz.ntmps89
    go_wp2_with fail
    refine HT.out.mono ?_
    rintro e w' ⟨rfl, rfl⟩
    go_wp2_with fail
    refine wp_loop_rounds 1 ?_
    rw [rounds_succ]
    go_wp2_with fail
    go_ret
    exact ⟨rfl, E.out, HB0.out⟩
  · obtain ⟨b, off, rfl, hbw, HC⟩ := HL.out.at (by have := HN.out; omega)
    go_enter Tryz.func89, Tryz.ntmps89
    go_wp2_with fail
    refine HT.out.mono ?_
    rintro e w' ⟨rfl, rfl⟩
    go_wp2_with fail
    go_loopw [5] (fun i wr => ∃ (j : Nat) (os : List Int), j ≤ N ∧ i = .int .i64 j ∧ Hid (Own wr w'.heap.size os ∧ os.length = N ∧ (∀ t, t < j → os.getD t 0 = zs.getD t 0) ∧ Below w'.heap.size w' wr)) (fun i _ => N - (intOf i).toNat)
    case atStart => exact ⟨0, _, Nat.zero_le _, rfl, HO.out, by simp, fun t ht => by omega, HB0.out⟩
    case round =>
      clear hmk HO HB0
      obtain ⟨j, os, hj, rfl, I⟩ := hrel
      by_cases hlt : j < N
      · obtain ⟨i1, i2, i3, i4⟩ := I.out
        obtain ⟨x, hx, X⟩ : ∃ x, wr.cell? ⟨b, off + j, none⟩ = some (.int .u64 x) ∧ Hid (x = zs.getD j 0) := ⟨_, (i4.cell (p := ⟨b, off + j, none⟩) hbw).trans (HC.out j (by have := HN.out; omega)), rfl⟩
        obtain ⟨y, hy⟩ : ∃ y, wr.cell? ⟨w'.heap.size, j, none⟩ = some (.int .u64 y) := ⟨_, i1.cell j (by omega)⟩
        have hfr := i1.free j
        have J : Hid (Own (wr.setCell ⟨w'.heap.size, j, none⟩ (.int .u64 x)) w'.heap.size (os.set j x) ∧ (os.set j x).length = N ∧ (∀ t, t < j + 1 → (os.set j x).getD t 0 = zs.getD t 0) ∧ Below w'.heap.size w' (wr.setCell ⟨w'.heap.size, j, none⟩ (.int .u64 x))) := by
          refine ⟨i1.set j x, by simpa using i2, fun t ht => ?_, i4.setCell (p := ⟨w'.heap.size, j, none⟩) (Nat.le_refl _) _⟩
          rw [Nm.getD_set _ _ _ _ (by omega)]
          by_cases e : t = j
          · rw [if_pos e, e, X.out]
          · rw [if_neg e]; exact i3 t (by omega)
        have hjn : (j : Int) < (n : Int) := by omega
        have hjN : (j : Int) < (N : Int) := by omega
        clear i1 i2 i3 i4 I
        go_wp2
        go_roundw
        case rel => exact ⟨j + 1, _, by omega, by go_num, J.out⟩
        case measure => simp [intOf]; omega
      · have hjN : j = N := by omega
        subst hjN
        have E : Hid (Own wr w'.heap.size (Nm.trim zs) ∧ Below w'.heap.size w' wr) := by
          obtain ⟨i1, i2, i3, i4⟩ := I.out
          have e : os = Nm.trim zs := eq_of_getD (by rw [i2, LT.out]) (fun i hi => by rw [i3 i (by omega), TG.out i (by omega)])
          rw [← e]
          exact ⟨i1, i4⟩
        clear I
        go_wp2
        go_ret
        exact ⟨rfl, E.out.1, E.out.2⟩

/-- One limb of a double. -/
theorem twice_limb (x sp : Int) (x0 : 0 ≤ x) (x1 : x < 18446744073709551616) (s0 : 0 ≤ sp) (s1 : sp ≤ 1) :
    ∃ A s sp', IntKind.u64.wrap (x * 2) = A ∧ bits .or .u64 A sp = s ∧ x / 9223372036854775808 = sp' ∧ (0 ≤ s ∧ s < 18446744073709551616) ∧ (0 ≤ sp' ∧ sp' ≤ 1) ∧ Hid (s + 18446744073709551616 * sp' = x * 2 + sp) := by
  obtain ⟨A, s, sp', u1, u2, u3, u4, u5, u6⟩ := Sh.up x sp 1 (by omega) x0 x1 s0 (by rw [show (2 : Int) ^ 1 = 2 by decide]; omega)
  have e1 : (2 : Int) ^ 1 = 2 := by decide
  have e2 : (2 : Int) ^ (64 - 1) = 9223372036854775808 := by decide
  rw [e1] at u1 u5 u6
  rw [e2] at u3
  exact ⟨A, s, sp', u1, u2, u3, u4, by omega, u6⟩

set_option maxRecDepth 100000 in
set_option maxHeartbeats 1000000 in
/-- doubled: twice the number and a bit, one limb longer, in a block of its own. -/
theorem doubled_any (p : Option Addr) (n cap : Nat) (zs : List Int) (bit : Int) (w : World) (hn : zs.length = n) (hm : n ≤ 17592186044416) (h : Lies w p zs) (hz : Nm.Limbs zs) (b0 : 0 ≤ bit) (b1 : bit ≤ 1) :
    Calls Tryz.prog 91 #[.slice p n cap, .int .u64 bit] w fun e w' => ∃ os, e = .returned (.slice (some ⟨w.heap.size, 0, none⟩) (n + 1) (n + 1)) ∧ Hid (Own w' w.heap.size os ∧ os.length = n + 1 ∧ Nm.Limbs os ∧ Nm.val os = 2 * Nm.val zs + bit ∧ Below w.heap.size w w') := by
  have hmk := make64 (n + 1) (by omega) w
  have em : ((n + 1 : Nat) : Int) = (n : Int) + 1 := by omega
  rw [em] at hmk
  clear em
  have ho : Own (w.alloc (.cells (madeCells #[.int .u64 0] (n + 1)) 26)) w.heap.size (List.replicate (n + 1) 0) := by
    rw [made_zero]; exact Own.alloc w _
  have hb0 : Below w.heap.size w (w.alloc (.cells (madeCells #[.int .u64 0] (n + 1)) 26)) := (Below.refl _ _).alloc (Nat.le_refl _) _
  obtain ⟨W0, hW0⟩ : ∃ W0, w.alloc (.cells (madeCells #[.int .u64 0] (n + 1)) 26) = W0 := ⟨_, rfl⟩
  rw [hW0] at hmk ho hb0
  have I0 : MaInv w.heap.size (n + 1) W0 (2 * Nm.val (zs.take 0) + bit) 0 bit (List.replicate (n + 1) 0) W0 :=
    ⟨⟨ho, by simp, Nm.Limbs.replicate _, by simp [Nm.val_replicate, Nm.val, Nm.pw], Below.refl _ _, rfl⟩, by omega, fun i _ => getD_replicate _ _⟩
  have HB0 := hid hb0
  have HN := hid hn
  have HL := hid h
  have HZ := hid hz
  have HI0 := hid I0
  clear hW0 ho hb0 hn h hz I0
  by_cases h0 : n = 0
  · subst h0
    have E : Hid (Own (W0.setCell ⟨w.heap.size, 0, none⟩ (.int .u64 bit)) w.heap.size ((List.replicate 1 0).set 0 bit) ∧ ((List.replicate 1 (0 : Int)).set 0 bit).length = 0 + 1 ∧ Nm.Limbs ((List.replicate 1 0).set 0 bit) ∧ Nm.val ((List.replicate 1 0).set 0 bit) = 2 * Nm.val zs + bit ∧ Below w.heap.size w (W0.setCell ⟨w.heap.size, 0, none⟩ (.int .u64 bit))) := by
      refine ⟨HI0.out.1.1.set 0 bit, by simp, HI0.out.1.2.2.1.set 0 b0 (by omega), ?_, HB0.out.setCell (p := ⟨w.heap.size, 0, none⟩) (Nat.le_refl _) _⟩
      rw [List.eq_nil_of_length_eq_zero HN.out]
      simp [Nm.val]
    obtain ⟨y, hy⟩ : ∃ y, W0.cell? ⟨w.heap.size, 0, none⟩ = some (.int .u64 y) := ⟨_, HI0.out.1.1.cell 0 (by simp)⟩
    have hfr := HI0.out.1.1.free 0
    have hmk1 : (Instr.makeSlice 59 (.int .i64 1) (.int .i64 1)).run Tryz.prog w = .ok (.slice (some ⟨w.heap.size, 0, none⟩) 1 1) W0 := hmk
    clear HI0 hmk
    go_enter Tryz.func91, Tryz.ntmps91
    go_wp2_with fail
    refine wp_loop_rounds 1 ?_
    rw [rounds_succ]
    go_wp2_with fail
    go_ret
    exact ⟨_, rfl, E⟩
  · obtain ⟨b, off, rfl, hbw, HC⟩ := HL.out.at (by have := HN.out; omega)
    go_enter Tryz.func91, Tryz.ntmps91
    go_wp2_with fail
    go_loopw [6, 7] (fun c i wr => ∃ (j : Nat) (cc : Int) (os : List Int), j ≤ n ∧ i = .int .i64 j ∧ c = .int .u64 cc ∧ (0 ≤ cc ∧ cc ≤ 1) ∧ Hid (MaInv w.heap.size (n + 1) W0 (2 * Nm.val (zs.take j) + bit) j cc os wr)) (fun _ i _ => n - (intOf i).toNat)
    case atStart => exact ⟨0, bit, _, Nat.zero_le _, rfl, rfl, ⟨b0, b1⟩, HI0.out⟩
    case round =>
      clear HI0 hmk
      obtain ⟨j, cc, os, hj, rfl, rfl, ⟨c0, c1⟩, I⟩ := hrel
      by_cases hlt : j < n
      · obtain ⟨x, hx, X⟩ : ∃ x, wr.cell? ⟨b, off + j, none⟩ = some (.int .u64 x) ∧ Hid (x = zs.getD j 0) := ⟨_, ((HB0.out.trans I.out.1.2.2.2.2.1).cell (p := ⟨b, off + j, none⟩) hbw).trans (HC.out j (by have := HN.out; omega)), rfl⟩
        have hx0 := HZ.out.at j
        rw [← X.out] at hx0
        obtain ⟨hx0, hx1⟩ := hx0
        obtain ⟨y, hyc⟩ : ∃ y, wr.cell? ⟨w.heap.size, j, none⟩ = some (.int .u64 y) := ⟨_, I.out.1.1.cell j (by have := I.out.1.2.1; omega)⟩
        have hfr := I.out.1.1.free j
        obtain ⟨A, s, sp', u1, u2, u3, us, usp, E⟩ := twice_limb x cc hx0 hx1 c0 c1
        have I2 := I.out.step (by omega) (x := x * 2) (s := s) (c' := sp') us ⟨usp.1, by omega⟩ E.out
        have T2 : 2 * Nm.val (zs.take j) + bit + Nm.pw j * (x * 2) = 2 * Nm.val (zs.take (j + 1)) + bit := by
          rw [Nm.val_take_succ zs j (by have := HN.out; omega), ← X.out, ← Int.mul_assoc]
          omega
        rw [T2] at I2
        have HI2 := hid I2
        have HU := hid usp
        obtain ⟨y2, hx2⟩ : ∃ y2, (wr.setCell ⟨w.heap.size, j, none⟩ (.int .u64 s)).cell? ⟨b, off + j, none⟩ = some (.int .u64 y2) ∧ y2 = x := ⟨x, by
          have hb : Below w.heap.size wr (wr.setCell ⟨w.heap.size, j, none⟩ (.int .u64 s)) := (Below.refl _ _).setCell (p := ⟨w.heap.size, j, none⟩) (Nat.le_refl _) _
          rw [hb.cell (p := ⟨b, off + j, none⟩) hbw]
          exact hx, rfl⟩
        obtain ⟨hx2, e2⟩ := hx2
        subst e2
        have hjn : (j : Int) < (n : Int) := by omega
        have hjn1 : (j : Int) < (n : Int) + 1 := by omega
        clear T2 E I2 us usp I
        go_wp2
        go_roundw
        case rel => exact ⟨j + 1, sp', _, by omega, by go_num, rfl, HU.out, HI2.out⟩
        case measure => simp [intOf]; omega
      · have hjn : j = n := by omega
        subst hjn
        obtain ⟨⟨i1, i2, i3, i4, i5, i6⟩, i7, i8⟩ := I.out
        have E : Hid (Own (wr.setCell ⟨w.heap.size, j, none⟩ (.int .u64 cc)) w.heap.size (os.set j cc) ∧ (os.set j cc).length = j + 1 ∧ Nm.Limbs (os.set j cc) ∧ Nm.val (os.set j cc) = 2 * Nm.val zs + bit ∧ Below w.heap.size w (wr.setCell ⟨w.heap.size, j, none⟩ (.int .u64 cc))) := by
          refine ⟨i1.set j cc, by simpa using i2, i3.set j c0 (by omega), ?_, (HB0.out.trans i5).setCell (p := ⟨w.heap.size, j, none⟩) (Nat.le_refl _) _⟩
          rw [Nm.val_set _ _ _ (by omega), i8 j (Nat.le_refl _), Int.sub_zero, i4, List.take_of_length_le (by have := HN.out; omega)]
        obtain ⟨y, hy⟩ : ∃ y, wr.cell? ⟨w.heap.size, j, none⟩ = some (.int .u64 y) := ⟨_, i1.cell j (by omega)⟩
        have hfr := i1.free j
        clear i1 i2 i3 i4 i5 i6 i7 i8 I
        go_wp2
        go_ret
        exact ⟨_, rfl, E⟩
end Go.Proofs.YtonnlimmjelldaaGreatDoor

namespace Go.Proofs.YtonnlimmjelldaaGreatDoor
open Go.RowKit Go.Deep

theorem part_getD (rs : List Int) (j M i : Nat) (hi : i < M) : (Qd.part rs j M).getD i 0 = rs.getD (j + i) 0 := by
  rw [Qd.part, Nm.getD_take, if_pos hi]
  simp [List.getD, List.getElem?_drop]

/-- The limb of one round of takeOff: the ways. -/
theorem off_ways (x y bw : Int) (x0 : 0 ≤ x) (x1 : x < 18446744073709551616) (y0 : 0 ≤ y) (y1 : y < 18446744073709551616) (b0 : 0 ≤ bw) (b1 : bw ≤ 1) :
    ∃ t d b', IntKind.u64.wrap (x - y) = t ∧ IntKind.u64.wrap (t - bw) = d ∧ (0 ≤ t ∧ t < 18446744073709551616) ∧ (0 ≤ d ∧ d < 18446744073709551616) ∧ Hid (d + 18446744073709551616 * (-b') = x + (-y) + (-bw)) ∧
      ((x < y ∧ b' = 1) ∨ (x = y ∧ bw = 1 ∧ b' = 1) ∨ (x = y ∧ bw = 0 ∧ b' = 0) ∨ (y < x ∧ b' = 0)) := by
  refine ⟨_, _, if x < y ∨ (x = y ∧ bw = 1) then 1 else 0, rfl, rfl, ?_, ?_, ?_, ?_⟩
  · rw [wrap_mod]; omega
  · rw [wrap_mod]; omega
  · show _ = _
    rw [wrap_mod, wrap_mod]
    split <;> omega
  · split <;> omega

set_option maxRecDepth 100000 in
set_option maxHeartbeats 1000000 in
/-- takeOff: ms, from limb j on, out of a block of our own that holds it. -/
theorem takeOff_any (g C R cap M cap' j : Nat) (rs : List Int) (q : Option Addr) (ms : List Int) (ji : Int) (w : World) (ho : Own w g rs) (hr : rs.length = C) (hRC : R ≤ C) (hR : R ≤ 17592186044416) (hm : ms.length = M) (hM : 0 < M) (hjM : j + M ≤ R) (hlr : Nm.Limbs rs) (h2 : Lies w q ms) (hlm : Nm.Limbs ms) (hq : ∀ a, q = some a → a.block ≠ g) (hji : ji = (j : Int))
    (hge : Nm.pw j * Nm.val ms ≤ Nm.val rs) (hlt : Nm.val rs < Nm.pw (j + M)) :
    Calls Tryz.prog 93 #[.slice (some ⟨g, 0, none⟩) R cap, .int .i64 ji, .slice q M cap'] w fun e w' => ∃ os, e = .returned (.tuple #[]) ∧ Hid (Own w' g os ∧ os.length = C ∧ Nm.Limbs os ∧ Nm.val os = Nm.val rs - Nm.pw j * Nm.val ms ∧ Below g w w' ∧ w'.heap.size = w.heap.size ∧ ∀ b, b ≠ g → w'.heap[b]? = w.heap[b]?) := by
  subst hji
  obtain ⟨b', off', rfl, hbw', HC'⟩ := h2.at (by omega)
  have hbg : b' ≠ g := hq _ rfl
  have I0 : PartInv g C (j + M) w rs (Nm.val rs + Nm.pw j * (-Nm.val (ms.take 0))) (j + 0) (-0) rs w := ⟨⟨ho, hr, hlr, by simp [Nm.val], Below.refl _ _, rfl⟩, fun _ _ => rfl, fun _ _ => rfl⟩
  have fin : ∀ (os : List Int) (bw : Int) (wr : World), 0 ≤ bw → bw ≤ 1 → PartInv g C (j + M) w rs (Nm.val rs + Nm.pw j * (-Nm.val ms)) (j + M) (-bw) os wr →
      Own wr g os ∧ os.length = C ∧ Nm.Limbs os ∧ Nm.val os = Nm.val rs - Nm.pw j * Nm.val ms ∧ Below g w wr ∧ wr.heap.size = w.heap.size ∧ ∀ b, b ≠ g → wr.heap[b]? = w.heap[b]? := by
    intro os bw wr b0 b1 P
    obtain ⟨⟨p1, p2, p3, p4, p5, p6⟩, p7, p8⟩ := P
    have hz : Nm.val os < Nm.pw (j + M) := by
      have h1 := Nm.val_take_of_zero os (j + M) (fun i hi => by rw [p7 i hi]; exact Nm.zero_of_lt hlr hlt i hi)
      have h2 := (Nm.val_bd _ (p3.take (j + M))).2
      rw [List.length_take, Nat.min_eq_left (by omega)] at h2
      omega
    rw [Int.mul_neg, Int.mul_neg] at p4
    have hb : bw = 0 := by
      rcases (show bw = 0 ∨ bw = 1 by omega) with h | h
      · exact h
      · rw [h, Int.mul_one] at p4; omega
    rw [hb, Int.mul_zero] at p4
    exact ⟨p1, p2, p3, by omega, p5, p6, p8⟩
  have FIN := hid fin
  have HI0 := hid I0
  have HM : Hid (ms.length = M) := hm
  have HML : Hid (Nm.Limbs ms) := hlm
  clear fin I0 hm hlm hq ho hr hlr h2 hge hlt
  go_enter Tryz.func93, Tryz.ntmps93
  go_wp2_with fail
  go_loopw [6, 7] (fun c i wr => ∃ (k : Nat) (bw : Int) (os : List Int), k ≤ M ∧ i = .int .i64 k ∧ c = .int .u64 bw ∧ (0 ≤ bw ∧ bw ≤ 1) ∧ Hid (PartInv g C (j + M) w rs (Nm.val rs + Nm.pw j * (-Nm.val (ms.take k))) (j + k) (-bw) os wr)) (fun _ i _ => M - (intOf i).toNat)
  case atStart => exact ⟨0, 0, rs, Nat.zero_le _, rfl, rfl, by omega, HI0.out⟩
  case round =>
    clear HI0
    obtain ⟨k, bw, os, hk, rfl, rfl, ⟨bw0, bw1⟩, I⟩ := hrel
    by_cases hlt : k < M
    · obtain ⟨y, hy, Y⟩ : ∃ y, wr.cell? ⟨b', off' + k, none⟩ = some (.int .u64 y) ∧ Hid (y = ms.getD k 0) := ⟨_, by
        have h := I.out.2.2 b' hbg
        have e : wr.cell? ⟨b', off' + k, none⟩ = w.cell? ⟨b', off' + k, none⟩ := by simp only [World.cell?, h]
        rw [e]
        exact HC'.out k (by have := HM.out; omega), rfl⟩
      obtain ⟨x, hx, X⟩ : ∃ x, wr.cell? ⟨g, j + k, none⟩ = some (.int .u64 x) ∧ Hid (x = os.getD (j + k) 0) := ⟨_, I.out.1.1.cell (j + k) (by have := I.out.1.2.1; omega), rfl⟩
      have hfr := I.out.1.1.free (j + k)
      have hx0 : 0 ≤ x ∧ x < 18446744073709551616 := by have := I.out.1.2.2.1.at (j + k); have := X.out; omega
      have hy0 : 0 ≤ y ∧ y < 18446744073709551616 := by have := HML.out.at k; have := Y.out; omega
      obtain ⟨hx0, hx1⟩ := hx0
      obtain ⟨hy0, hy1⟩ := hy0
      obtain ⟨t, d, b2, r1, r2, ⟨t0, t1⟩, ⟨d0, d1⟩, E, W⟩ := off_ways x y bw hx0 hx1 hy0 hy1 bw0 bw1
      have ST := hid (I.out.step (by omega) (by omega) (x := -y) (s := d) (c' := -b2) ⟨d0, d1⟩ (by rw [← X.out]; exact E.out))
      have T2 : Hid (Nm.val rs + Nm.pw j * (-Nm.val (ms.take k)) + Nm.pw (j + k) * (-y) = Nm.val rs + Nm.pw j * (-Nm.val (ms.take (k + 1)))) := by
        show _ = _
        rw [Nm.val_take_succ ms k (by have := HM.out; omega), ← Y.out, Nm.pw_add, Int.mul_neg, Int.mul_neg, Int.mul_neg, Int.mul_add, Int.mul_assoc]
        omega
      rw [T2.out] at ST
      have htR : (j : Int) + (k : Int) < (R : Int) := by omega
      have hb2 : 0 ≤ b2 ∧ b2 ≤ 1 := by omega
      have HB2 := hid hb2
      clear I E hb2 T2
      rcases W with ⟨c, rfl⟩ | ⟨c, c2, rfl⟩ | ⟨c, c2, rfl⟩ | ⟨c, rfl⟩
      · go_wp2
        go_roundw
        case rel => exact ⟨k + 1, 1, _, by omega, by go_num, rfl, HB2.out, ST.out⟩
        case measure => simp [intOf]; omega
      · subst c2
        have c3 : (x == y) = true := by simp [c]
        have c4 : ¬ x < y := by omega
        have C := hid c
        clear c
        go_wp2
        go_roundw
        case rel => exact ⟨k + 1, 1, _, by omega, by go_num, rfl, HB2.out, ST.out⟩
        case measure => simp [intOf]; omega
      · subst c2
        have c3 : (x == y) = true := by simp [c]
        have c4 : ¬ x < y := by omega
        have C := hid c
        have hdt : d = t := by rw [← r2, wrap_mod]; omega
        subst hdt
        clear c r2
        go_wp2
        go_roundw
        case rel => exact ⟨k + 1, 0, _, by omega, by go_num, rfl, HB2.out, ST.out⟩
        case measure => simp [intOf]; omega
      · have c3 : (x == y) = false := by rw [beq_eq_false_iff_ne]; omega
        have c4 : ¬ x < y := by omega
        go_wp2
        go_roundw
        case rel => exact ⟨k + 1, 0, _, by omega, by go_num, rfl, HB2.out, ST.out⟩
        case measure => simp [intOf]; omega
    · have hkM : k = M := by omega
      subst hkM
      have e := I.out
      rw [List.take_of_length_le (by have := HM.out; omega)] at e
      have F := hid (FIN.out os bw wr bw0 bw1 e)
      clear e I
      go_wp2
      go_end0
      exact ⟨os, rfl, F⟩
end Go.Proofs.YtonnlimmjelldaaGreatDoor

namespace Go.Proofs.YtonnlimmjelldaaGreatDoor
open Go.RowKit Go.Deep

set_option maxRecDepth 100000 in
set_option maxHeartbeats 1000000 in
/-- holds: are the limbs from place j on at least those of ms? -/
theorem holds_any (p q : Option Addr) (R cap M cap' j : Nat) (rs ms : List Int) (ji : Int) (w : World) (hr : rs.length = R) (hR : R ≤ 17592186044416) (hm : ms.length = M) (hM : 0 < M) (hjM : j + M ≤ R) (h1 : Lies w p rs) (h2 : Lies w q ms) (hlr : Nm.Limbs rs) (hlm : Nm.Limbs ms) (hji : ji = (j : Int)) :
    Calls Tryz.prog 92 #[.slice p R cap, .int .i64 ji, .slice q M cap'] w fun e w' => e = .returned (.bool (decide (Nm.val ms ≤ Nm.val (Qd.part rs j M)))) ∧ Below w.heap.size w w' := by
  subst hji
  obtain ⟨b, off, rfl, hbw, HC⟩ := h1.at (by omega)
  obtain ⟨b', off', rfl, hbw', HC'⟩ := h2.at (by omega)
  have PL := hid (Qd.part_length (rs := rs) (t := j) (n1 := M) (by omega))
  have HR := hid hr
  have HM := hid hm
  have HPL : Hid (Nm.Limbs (Qd.part rs j M)) := (hlr.drop j).take M
  have HML := hid hlm
  clear hr hm h1 h2 hlr hlm
  go_enter Tryz.func92, Tryz.ntmps92
  go_wp2_with fail
  go_loopw [7] (fun i wr => ∃ k : Nat, k ≤ M ∧ i = .int .i64 ((k : Int) - 1) ∧ Hid (∀ t, k ≤ t → (Qd.part rs j M).getD t 0 = ms.getD t 0) ∧ Hid (Below w.heap.size w wr)) (fun i _ => (intOf i + 1).toNat)
  case atStart => exact ⟨M, Nat.le_refl _, rfl, fun t ht => by rw [List.getD, List.getElem?_eq_none (by have := PL.out; omega), List.getD, List.getElem?_eq_none (by have := HM.out; omega)], Below.refl _ _⟩
  case round =>
    obtain ⟨k, hk, rfl, hE, HB⟩ := hrel
    by_cases hk0 : k = 0
    · subst hk0
      have E : Hid (decide (Nm.val ms ≤ Nm.val (Qd.part rs j M)) = true) := by
        have e := Nm.drop_eq_of_getD (by rw [PL.out, HM.out]) 0 hE.out
        simp only [List.drop_zero] at e
        simp only [Hid, decide_eq_true_eq]
        rw [e]
        exact Int.le_refl _
      go_wp2_with fail
      go_ret
      exact ⟨ret_bool E.out.symm, HB.out⟩
    · obtain ⟨t, rfl⟩ : ∃ t, k = t + 1 := ⟨k - 1, by omega⟩
      obtain ⟨x, hx, X⟩ : ∃ x, wr.cell? ⟨b, off + (j + t), none⟩ = some (.int .u64 x) ∧ Hid (x = (Qd.part rs j M).getD t 0) := ⟨_, (HB.out.cell (p := ⟨b, off + (j + t), none⟩) hbw).trans (HC.out (j + t) (by have := HR.out; omega)), by show _ = _; rw [part_getD rs j M t (by omega)]⟩
      obtain ⟨y, hy, Y⟩ : ∃ y, wr.cell? ⟨b', off' + t, none⟩ = some (.int .u64 y) ∧ Hid (y = ms.getD t 0) := ⟨_, (HB.out.cell (p := ⟨b', off' + t, none⟩) hbw').trans (HC'.out t (by have := HM.out; omega)), rfl⟩
      have LTS : Hid ((y < x → Nm.val ms < Nm.val (Qd.part rs j M)) ∧ (x < y → Nm.val (Qd.part rs j M) < Nm.val ms)) := by
        have hd := Nm.drop_eq_of_getD (by rw [PL.out, HM.out]) (t + 1) hE.out
        refine ⟨fun h => ?_, fun h => ?_⟩
        · exact Nm.val_lt_at HML.out HPL.out t (by have := HM.out; omega) (by rw [PL.out, HM.out]) (by rw [← X.out, ← Y.out]; exact h) hd.symm
        · exact Nm.val_lt_at HPL.out HML.out t (by have := PL.out; omega) (by rw [PL.out, HM.out]) (by rw [← X.out, ← Y.out]; exact h) hd
      have htR : (j : Int) + (t : Int) < (R : Int) := by omega
      have htM : (t : Int) < (M : Int) := by omega
      by_cases hxy : y < x
      · have E : Hid (decide (Nm.val ms ≤ Nm.val (Qd.part rs j M)) = true) := by
          simp only [Hid, decide_eq_true_eq]
          have := LTS.out.1 hxy
          omega
        go_wp2_with fail
        go_quiet (fail)
        go_wp2
        go_ret
        exact ⟨ret_bool E.out.symm, below_drewN HB.out _⟩
      · go_wp2_with fail
        go_quiet (fail)
        have hx2 : (wr.drewN nq).cell? ⟨b, off + (j + t), none⟩ = some (.int .u64 x) := hx
        have hy2 : (wr.drewN nq).cell? ⟨b', off' + t, none⟩ = some (.int .u64 y) := hy
        have HB2 := hid (below_drewN HB.out nq)
        clear hx hy HB
        generalize wr.drewN nq = wq at *
        by_cases hyx : x < y
        · have E : Hid (decide (Nm.val ms ≤ Nm.val (Qd.part rs j M)) = false) := by
            simp only [Hid, decide_eq_false_iff_not]
            have := LTS.out.2 hyx
            omega
          go_wp2_with fail
          go_quiet (fail)
          go_wp2
          go_ret
          exact ⟨ret_bool E.out.symm, below_drewN HB2.out _⟩
        · have EQ : Hid (x = y) := by show _ = _; omega
          go_wp2_with fail
          go_quiet (fail)
          go_wp2
          go_roundw
          case rel =>
            refine ⟨t, by omega, by go_num, fun i hi => ?_, below_drewN HB2.out _⟩
            by_cases e : i = t
            · subst e; rw [← X.out, ← Y.out]; exact EQ.out
            · exact hE.out i (by omega)
          case measure => simp [intOf]

end Go.Proofs.YtonnlimmjelldaaGreatDoor

namespace Go.Proofs.YtonnlimmjelldaaGreatDoor
open Go.RowKit Go.Deep

theorem zero64 (n : Nat) : Builtin.zeroCells #[Value.int .u64 0] n = ((List.replicate n (0 : Int)).map (Value.int .u64)).toArray := by
  apply Array.ext'
  simp only [Builtin.zeroCells, Array.toList_map, List.map_replicate, Array.toList_range, List.size_toArray, List.length_cons, List.length_nil, Nat.zero_add, Nat.mul_one, Nat.mod_one]
  exact List.eq_replicate_iff.2 ⟨by simp, fun v hv => by
    obtain ⟨i, _, rfl⟩ := List.mem_map.1 hv
    rfl⟩

/-- append(l, x): l fills its block, so that a new one is made, of unknown room. -/
theorem grow64 (g Y : Nat) (xs : List Int) (x : Int) (w : World) (hx : xs.length = Y) (hY : Y ≤ 1099511627776) (ho : Own w g xs) :
    ∃ cap w', (Builtin.append_ #[59, 59] 59 #[.slice (some ⟨g, 0, none⟩) Y Y, .slice (some ⟨w.heap.size, 0, none⟩) 1 1]).run Tryz.prog (w.alloc (.cells #[.int .u64 x] 26)) = .ok (.slice (some ⟨w.heap.size + 1, 0, none⟩) (Y + 1) cap) w' ∧
      Y + 1 ≤ cap ∧ Own w' (w.heap.size + 1) (xs ++ [x] ++ List.replicate (cap - (Y + 1)) 0) ∧ Below w.heap.size w w' := by
  obtain ⟨i, hi, hz⟩ := Option.map_eq_some_iff.1 info64
  simp only [Prod.mk.injEq] at hz
  obtain ⟨z1, z2, z3⟩ := hz
  have hg := ho.lt
  have bm : Below w.heap.size w (w.alloc (.cells #[.int .u64 x] 26)) := (Below.refl _ _).alloc (Nat.le_refl _) _
  have ho' := ho.below bm hg
  have hl : Own (w.alloc (.cells #[.int .u64 x] 26)) w.heap.size [x] := Own.alloc w [x]
  have hr := run_append_grow (P := Tryz.prog) (w.alloc (.cells #[.int .u64 x] 26)) 59 59 26 i (.int .u64 0) Tryz.underlying59 hi z1 ⟨g, 0, none⟩ Y Y (xs.map (Value.int .u64)) (by rw [z2, List.length_map, hx]; omega)
    (fun j v hv => by
      simp only [List.getElem?_map, Option.map_eq_some_iff] at hv
      obtain ⟨z, hz, rfl⟩ := hv
      have hj : j < xs.length := (List.getElem?_eq_some_iff.1 hz).1
      rw [Go.WideShapes.add_plain, Nat.zero_add, ho'.cell j hj]
      simp [List.getD, hz])
    ⟨w.heap.size, 0, none⟩ 1 1 [Value.int .u64 x] (by rw [z2]; rfl)
    (fun j v hv => by
      cases j with
      | zero =>
        simp at hv
        subst hv
        rw [Go.WideShapes.add_plain, hl.cell 0 (by simp)]
        rfl
      | succ j => simp at hv)
    (by omega) (by omega) (growslice_fits (by omega) (by rw [z3]; omega))
  have hge := grownCap_ge (w.alloc (.cells #[.int .u64 x] 26)) (Y + 1) Y 26
  have hs : (w.alloc (.cells #[.int .u64 x] 26)).heap.size = w.heap.size + 1 := World.size_alloc _ _
  obtain ⟨cap, hcap⟩ : ∃ c, grownCap (w.alloc (.cells #[.int .u64 x] 26)) (Y + 1) Y 26 = c := ⟨_, rfl⟩
  rw [hcap] at hr hge
  have e : ((xs.map (Value.int .u64)).toArray ++ [Value.int .u64 x].toArray ++ Builtin.zeroCells (Value.cells (.int .u64 0)) (cap - (Y + 1))) = ((xs ++ [x] ++ List.replicate (cap - (Y + 1)) 0).map (Value.int .u64)).toArray := by
    rw [show Value.cells (.int .u64 0) = #[Value.int .u64 0] from rfl, zero64]
    simp
  rw [e, hs] at hr
  refine ⟨cap, _, hr, hge, ?_, ?_⟩
  · have := Own.alloc (w.alloc (.cells #[.int .u64 x] 26)).drew (xs ++ [x] ++ List.replicate (cap - (Y + 1)) 0)
    rw [show (w.alloc (.cells #[.int .u64 x] 26)).drew.heap.size = w.heap.size + 1 from hs] at this
    exact this
  · exact bm.drew.alloc (by show w.heap.size ≤ (w.alloc (.cells #[.int .u64 x] 26)).heap.size; rw [hs]; omega) _

end Go.Proofs.YtonnlimmjelldaaGreatDoor

namespace Go.Proofs.YtonnlimmjelldaaGreatDoor
open Go.RowKit Go.Deep

/-- A block of limbs of the number V, Y + 1 of them at least. -/
def Mv (Y : Nat) (V : Int) (w : World) (g : Nat) : Prop := ∃ os, Own w g os ∧ Y + 1 ≤ os.length ∧ Nm.Limbs os ∧ Nm.val os = V

theorem Mv.lies {Y : Nat} {V : Int} {w : World} {g : Nat} (h : Mv Y V w g) (hV : V < Nm.pw (Y + 1)) : ∃ ms, Lies w (some ⟨g, 0, none⟩) ms ∧ ms.length = Y + 1 ∧ Nm.Limbs ms ∧ Nm.val ms = V := by
  obtain ⟨os, h1, h2, h3, h4⟩ := h
  refine ⟨os.take (Y + 1), h1.lies.take _, by simp; omega, h3.take _, ?_⟩
  rw [Nm.val_take_of_zero os (Y + 1) (fun j hj => Nm.zero_of_lt h3 (by rw [h4]; exact hV) j hj), h4]

theorem Mv.below {Y : Nat} {V : Int} {w w' : World} {g : Nat} (h : Mv Y V w g) (hb : Below w.heap.size w w') : Mv Y V w' g := by
  obtain ⟨os, h1, h2⟩ := h
  exact ⟨os, h1.below hb h1.lt, h2⟩

theorem Mv.lt {Y : Nat} {V : Int} {w : World} {g : Nat} (h : Mv Y V w g) : g < w.heap.size := by
  obtain ⟨os, h1, h2⟩ := h
  exact h1.lt

/-- A header of Y + 1 limbs. -/
def hdr (Y : Nat) (e : Nat × Nat) : Value := .slice (some ⟨e.1, 0, none⟩) (Y + 1) e.2

theorem info64s : (Tryz.prog.info? 59).map (fun i => (i.zero, i.size, i.bytes)) = some (some (.slice none 0 0), 1, 24) := by kernel_rfl

/-- The list of headers, behind another one is appended. -/
theorem pushHdr (base Y n : Nat) (mv : Value) (l : List (Nat × Nat)) (e : Nat × Nat) (w : World) (hn : l.length = n) (hY : n ≤ 1000) (hb : base ≤ w.heap.size) (ho : w.ownsRow base 59 1 mv n (l.map (hdr Y))) :
    ∃ mv' w', (Builtin.append_ #[105, 105] 105 #[mv, .slice (some ⟨w.heap.size, 0, none⟩) 1 1]).run Tryz.prog (w.alloc (.cells #[hdr Y e] 59)) = .ok mv' w' ∧ w'.ownsRow base 59 1 mv' (n + 1) ((l ++ [e]).map (hdr Y)) ∧ Below base w w' ∧ (∀ V g, Mv Y V w g → Mv Y V w' g) ∧ w.heap.size ≤ w'.heap.size := by
  obtain ⟨i, hi, hz⟩ := Option.map_eq_some_iff.1 info64s
  simp only [Prod.mk.injEq] at hz
  obtain ⟨z1, z2, z3⟩ := hz
  have bm : Below w.heap.size w (w.alloc (.cells #[hdr Y e] 59)) := (Below.refl _ _).alloc (Nat.le_refl _) _
  have hs : (w.alloc (.cells #[hdr Y e] 59)).heap.size = w.heap.size + 1 := World.size_alloc _ _
  have ho' := ho.alloc (.cells #[hdr Y e] 59)
  have hcell : (w.alloc (.cells #[hdr Y e] 59)).cell? ⟨w.heap.size, 0, none⟩ = some (hdr Y e) := by
    have : (w.alloc (.cells #[hdr Y e] 59)).heap[w.heap.size]? = some (.cells #[hdr Y e] 59 (0, 0)) := by
      show (w.heap.push _)[w.heap.size]? = _
      rw [Array.getElem?_push, if_pos rfl]
    simp only [World.cell?, this]
    rfl
  obtain ⟨v', w', hr, h1, h2, _⟩ := run_append_own (P := Tryz.prog) (w.alloc (.cells #[hdr Y e] 59)) base 105 105 59 i (.slice none 0 0) 1 24 Tryz.underlying105 hi z1 z2 z3 rfl (by omega) mv n (l.map (hdr Y)) ho'
    ⟨w.heap.size, 0, none⟩ 1 1 [hdr Y e] rfl
    (fun j v hv => by
      cases j with
      | zero =>
        simp at hv
        subst hv
        rw [Go.WideShapes.add_plain]
        exact hcell
      | succ j => simp at hv)
    (fun u hu => by simp at hu; subst hu; rfl) (by simp only [maxLen]; omega) (by omega) (by rw [hs]; omega)
  refine ⟨v', w', hr, by simpa using h1, ?_, ?_, by have := h2.size; omega⟩
  · have hb2 : Below base (w.alloc (.cells #[hdr Y e] 59)) w' := by
      refine ⟨h2.os, h2.tape, h2.output, h2.size, fun j hj => h2.block j (by rw [hs]; omega) ?_⟩
      intro hk
      have := (ho'.lt j hk.symm).1
      omega
    exact (bm.mono hb).trans hb2
  · intro V g hm
    obtain ⟨os, m1, m2, m3, m4⟩ := hm
    have m1' := m1.below bm m1.lt
    have hne : some g ≠ mv.ownBlock := by
      intro hk
      rcases ho'.2 with ⟨rfl, _⟩ | ⟨g', cp, cur, rfl, _, hcur, _⟩
      · simp [Value.ownBlock] at hk
      · simp only [Value.ownBlock, Option.some.injEq] at hk
        subst hk
        simp only [Own] at m1'
        rw [m1'] at hcur
        simp only [Option.some.injEq, Obj.cells.injEq] at hcur
        exact absurd hcur.2.1 (by decide)
    refine ⟨os, ?_, m2, m3, m4⟩
    simp only [Own] at m1' ⊢
    rw [h2.block g (by rw [hs]; have := m1.lt; omega) hne]
    exact m1'
end Go.Proofs.YtonnlimmjelldaaGreatDoor

namespace Go.Proofs.YtonnlimmjelldaaGreatDoor
open Go.RowKit Go.Deep

theorem limbs_any (p : Option Addr) (n cap : Nat) (zs : List Int) (w : World) (ha : Arg w p n cap zs) :
    Calls Tryz.prog 141 #[.slice p n cap] w fun e w' => e = .returned (.int .i64 (Nm.tsize zs : Int)) ∧ w' = w := by
  obtain ⟨L, h1, _, h3, h4⟩ := blen_is zs ha.2.2.2.2
  have tl := Nm.tsize_le zs
  have hn := ha.1
  have hc := ha.2.2.1
  have hc' := ha.2.1
  have H := bitLen_any p n cap zs w ha
  rw [h1] at H
  have HB := hid H
  obtain ⟨N, HN⟩ : ∃ N, Hid (Nm.tsize zs = N) := ⟨_, rfl⟩
  rw [HN.out] at h3 h4 ⊢
  have hL : (L : Int) ≤ 1125899906842624000 := by have := HN.out; omega
  have hL0 : (0 : Int) ≤ (L : Int) := by omega
  have E : Hid (((L : Int) + 64 - 1) / 64 = (N : Int)) := by show _ = _; omega
  have E2 : Hid (((L : Int) + 64 - 1).tdiv 64 = (N : Int)) := by show _ = _; rw [Int.tdiv_eq_ediv_of_nonneg (by omega)]; exact E.out
  clear h1 h3 h4 H hn hc hc' tl ha
  go_enter Tryz.func141, Tryz.ntmps141
  go_wp2_with fail
  refine HB.out.mono ?_
  rintro e w' ⟨rfl, rfl⟩
  go_wp2_with fail
  go_ret
  exact ⟨ret_i64 (by first | exact E.out | exact E2.out), rfl⟩
end Go.Proofs.YtonnlimmjelldaaGreatDoor

namespace Go.Proofs.YtonnlimmjelldaaGreatDoor
open Go.RowKit Go.Deep

theorem ans_none (B : Nat) (w : World) (p : Option Addr) (h : ∀ a, p = some a → B ≤ a.block) : Ans B w p [] 0 :=
  ⟨Lies.nil _ _, Nm.Limbs.nil, rfl, rfl, h⟩

theorem limb_one {x : Int} (h : 0 ≤ x ∧ x < 18446744073709551616) : Nm.Limbs [x] := Nm.Limbs.mk h.1 h.2 Nm.Limbs.nil

theorem fromUint_any (x : Int) (w : World) (h0 : 0 ≤ x) (h1 : x < 18446744073709551616) :
    Calls Tryz.prog 73 #[.int .u64 x] w fun e w' => ∃ r os, e = .returned (.slice r (List.length os) (List.length os)) ∧ Ans w.heap.size w' r os x ∧ Below w.heap.size w w' := by
  by_cases hx : x = 0
  · subst hx
    go_enter Tryz.func73, Tryz.ntmps73
    go_wp2
    go_ret
    exact ⟨none, [], rfl, ans_none _ _ _ (fun a h => by cases h), Below.refl _ _⟩
  · have hx' : (x == 0) = false := by rw [beq_eq_false_iff_ne]; exact hx
    have D : Hid (Below w.heap.size w (w.alloc (.cells #[.int .u64 x] 26))) := (Below.refl _ _).alloc (Nat.le_refl _) _
    have A : Hid (Ans w.heap.size (w.alloc (.cells #[.int .u64 x] 26)) (some ⟨w.heap.size, 0, none⟩) [x] x) := ⟨(Own.alloc w [x]).lies, limb_one ⟨h0, h1⟩, by simp [Nm.tsize, hx], by simp [Nm.val], fun a h => by cases h; exact Nat.le_refl _⟩
    go_enter Tryz.func73, Tryz.ntmps73
    go_wp2
    go_ret
    exact ⟨some ⟨w.heap.size, 0, none⟩, [x], rfl, A.out, D.out⟩
end Go.Proofs.YtonnlimmjelldaaGreatDoor

namespace Go.Proofs.YtonnlimmjelldaaGreatDoor
open Go.RowKit Go.Deep

/-- Trim: the trimmed list, in new memory. -/
theorem trim_any (p : Option Addr) (n cap : Nat) (zs : List Int) (w : World) (ha : Arg w p n cap zs) :
    Calls Tryz.prog 142 #[.slice p n cap] w fun e w' => ∃ r os, e = .returned (.slice r (List.length os) (List.length os)) ∧ os = Nm.trim zs ∧ Ans w.heap.size w' r os (Nm.val zs) ∧ Below w.heap.size w w' := by
  obtain ⟨a1, a2, a3, a4, a5⟩ := ha
  have tl := Nm.tsize_le zs
  go_enter Tryz.func142, Tryz.ntmps142
  go_wp2_with fail
  refine (trimmed_any p n cap zs _ a1 a2 (by omega) a4).mono ?_
  rintro e w' ⟨rfl, rfl⟩
  go_wp2_with fail
  refine (widened_any p (Nm.tsize zs) (Nm.tsize zs) 0 0 (Nm.trim zs) _ rfl (Nm.trim_length zs) (by omega) a4.trim).mono ?_
  rintro e w1 ⟨rfl, ho, hb1, hz1⟩
  have HO := hid ho
  have HB := hid hb1
  clear ho hb1 hz1 tl
  go_wp2
  go_ret
  refine ⟨some ⟨w'.heap.size, 0, none⟩, Nm.trim zs, ?_, rfl, ⟨?_, a5.trim, ?_, Nm.val_trim zs, ?_⟩, HB.out⟩
  · rw [Nm.trim_length]; rfl
  · have := HO.out
    simp only [List.replicate_zero, List.append_nil] at this
    exact this.lies
  · rw [Nm.trim_trim, Nm.trim_length]
  · intro a h
    cases h
    exact Nat.le_refl _
end Go.Proofs.YtonnlimmjelldaaGreatDoor

namespace Go.Proofs.YtonnlimmjelldaaGreatDoor
open Go.RowKit Go.Deep

theorem ret_div {p : Option Addr} {a b : Nat} {r : Int} (h : a = b) : Ending.returned (.tuple #[.slice p a a, .int .u64 r, .int .i64 0]) = .returned (.tuple #[.slice p b b, .int .u64 r, .int .i64 0]) := by rw [h]

/-- Behind the limbs from k on: quotient digits are in, below k the block is 0. -/
def DivInv (g n : Nat) (w : World) (xs : List Int) (d : Int) (k : Nat) (r : Int) (os : List Int) (wr : World) : Prop :=
  Own wr g os ∧ os.length = n ∧ Nm.Limbs os ∧ Nm.val os * d + Nm.pw k * r + Nm.val (xs.take k) = Nm.val xs ∧ (∀ i, i < k → os.getD i 0 = 0) ∧ (0 ≤ r ∧ r < d) ∧ Below g w wr

theorem DivInv.step {g n : Nat} {w : World} {xs : List Int} {d : Int} {t : Nat} {r : Int} {os : List Int} {wr w' : World} (h : DivInv g n w xs d (t + 1) r os wr) (hx : t < xs.length) (ht : t < n) (hb : Below wr.heap.size wr w') {q r' x : Int}
    (hxe : x = xs.getD t 0) (hq : q * d + r' = r * 18446744073709551616 + x) (hq0 : 0 ≤ q ∧ q < 18446744073709551616) (hr : 0 ≤ r' ∧ r' < d) :
    DivInv g n w xs d t r' (os.set t q) (w'.setCell ⟨g, t, none⟩ (.int .u64 q)) := by
  obtain ⟨h1, h2, h3, h4, h5, h6, h7⟩ := h
  have hlt := h1.lt
  refine ⟨(h1.below hb hlt).set t q, by simpa using h2, h3.set t hq0.1 hq0.2, ?_, ?_, hr, ?_⟩
  · rw [Nm.val_set _ _ _ (by omega), h5 t (by omega), Int.sub_zero, Int.add_mul, Int.mul_assoc]
    rw [Nm.val_take_succ xs t hx, ← hxe, Nm.pw_succ] at h4
    have e : Nm.pw t * (q * d + r') = Nm.pw t * (r * 18446744073709551616 + x) := by rw [hq]
    rw [Int.mul_add, Int.mul_add] at e
    have e2 : 18446744073709551616 * Nm.pw t * r = Nm.pw t * (r * 18446744073709551616) := by rw [Int.mul_assoc, Int.mul_left_comm, Int.mul_comm 18446744073709551616 r]
    omega
  · intro i hi
    rw [Nm.getD_set _ _ _ _ (by omega), if_neg (by omega)]
    exact h5 i (by omega)
  · exact h7.trans ((hb.mono (Nat.le_of_lt hlt)).setCell (p := ⟨g, t, none⟩) (Nat.le_refl _) _)

set_option maxRecDepth 100000 in
set_option maxHeartbeats 1000000 in
theorem divSmall_ok (p : Option Addr) (n cap : Nat) (zs : List Int) (d : Int) (w : World) (ha : Arg w p n cap zs) (tz : Nm.tsize zs ≤ 4096) (hd0 : 0 < d) (hd1 : d < 18446744073709551616) :
    Calls Tryz.prog 194 #[.slice p n cap, .int .u64 d] w fun e w' =>
      ∃ r os rest, e = .returned (.tuple #[.slice r (List.length os) (List.length os), .int .u64 rest, .int .i64 0]) ∧ Ans w.heap.size w' r os (Nm.val os) ∧ (0 ≤ rest ∧ rest < d) ∧ Hid (Nm.val os * d + rest = Nm.val zs) ∧ Below w.heap.size w w' := by
  obtain ⟨a1, a2, a3, a4, a5⟩ := ha
  obtain ⟨N, HN⟩ : ∃ N, Hid (Nm.tsize zs = N) := ⟨_, rfl⟩
  have T1 := limited_ok p n cap zs w a1 a2 (by omega) a4 tz
  rw [HN.out] at T1
  have hN : N ≤ 4096 := by rw [← HN.out]; exact tz
  have L1 := hid ((Nm.trim_length zs).trans HN.out)
  have hmk := make64 N (by omega) w
  have ho : Own (w.alloc (.cells (madeCells #[.int .u64 0] N) 26)) w.heap.size (List.replicate N 0) := by
    rw [made_zero]; exact Own.alloc w _
  have hb0 : Below w.heap.size w (w.alloc (.cells (madeCells #[.int .u64 0] N) 26)) := (Below.refl _ _).alloc (Nat.le_refl _) _
  obtain ⟨W0, hW0⟩ : ∃ W0, w.alloc (.cells (madeCells #[.int .u64 0] N) 26) = W0 := ⟨_, rfl⟩
  have HB0 : Hid (Below w.heap.size w W0) := by rw [← hW0]; exact hb0
  have I0 : DivInv w.heap.size N w (Nm.trim zs) d N 0 (List.replicate N 0) W0 := by
    rw [← hW0]
    exact ⟨ho, by simp, Nm.Limbs.replicate _, by rw [Nm.val_replicate, Int.zero_mul, Int.mul_zero, List.take_of_length_le (by rw [L1.out]; omega)]; omega, fun i _ => getD_replicate _ _, ⟨by omega, hd0⟩, hb0⟩
  have hd : (d == 0) = false := by rw [beq_eq_false_iff_ne]; omega
  have A5 := hid a5.trim
  have A4 := hid a4.trim
  have V := hid (Nm.val_trim zs)
  have HT := hid T1
  clear T1 tz ho hb0 a4 a5
  rw [hW0] at hmk
  clear hW0
  have fin : ∀ (os : List Int) (r : Int) (wr : World), DivInv w.heap.size N w (Nm.trim zs) d 0 r os wr →
      Ans w.heap.size wr (some ⟨w.heap.size, 0, none⟩) (Nm.trim os) (Nm.val (Nm.trim os)) ∧ (0 ≤ r ∧ r < d) ∧ Hid (Nm.val (Nm.trim os) * d + r = Nm.val zs) ∧ Below w.heap.size w wr ∧ (Nm.trim os).length = Nm.tsize os := by
    intro os r wr I
    obtain ⟨i1, i2, i3, i4, i5, i6, i7⟩ := I
    refine ⟨⟨i1.lies.trim, i3.trim, by rw [Nm.trim_trim, Nm.trim_length], rfl, fun a h => by cases h; exact Nat.le_refl _⟩, i6, ?_, i7, Nm.trim_length os⟩
    show _ = _
    rw [Nm.val_trim, ← V.out, ← i4]
    simp [Nm.pw, Nm.val]
  have FIN := hid fin
  clear fin
  by_cases h0 : N = 0
  · subst h0
    have hmk1 : (Instr.makeSlice 59 (.int .i64 0) (.int .i64 0)).run Tryz.prog w = .ok (.slice (some ⟨w.heap.size, 0, none⟩) 0 0) W0 := hmk
    clear hmk
    go_enter Tryz.func194, Tryz.ntmps194
    go_wp2_with fail
    refine HT.out.mono ?_
    rintro e w' ⟨rfl, rfl⟩
    go_wp2_with fail
    refine wp_loop_rounds 1 ?_
    rw [rounds_succ]
    go_wp2_with fail
    refine (trimmed_any (some ⟨w'.heap.size, 0, none⟩) 0 0 (List.replicate 0 0) _ rfl (Nat.le_refl _) (by omega) (Lies.nil _ _)).mono ?_
    rintro e w3 ⟨rfl, rfl⟩
    have F := FIN.out _ _ _ I0
    have HF := hid F
    clear F I0
    go_wp2_with fail
    go_ret3
    exact ⟨_, _, _, rfl, HF.out.1, HF.out.2.1, HF.out.2.2.1, HF.out.2.2.2.1⟩
  · obtain ⟨b, off, rfl, hbw, HC⟩ := A4.out.at (by rw [L1.out]; omega)
    go_enter Tryz.func194, Tryz.ntmps194
    go_wp2_with fail
    refine HT.out.mono ?_
    rintro e w' ⟨rfl, rfl⟩
    go_wp2_with fail
    go_loopw [9, 10] (fun a i wr => ∃ (j : Nat) (rr : Int) (os : List Int), j ≤ N ∧ i = .int .i64 ((j : Int) - 1) ∧ a = .int .u64 rr ∧ DivInv w'.heap.size N w' (Nm.trim zs) d j rr os wr) (fun _ i _ => (intOf i + 1).toNat)
    case atStart => exact ⟨N, 0, _, Nat.le_refl _, rfl, rfl, I0⟩
    case round =>
      clear I0 hmk
      obtain ⟨j, rr, os, hj, rfl, rfl, I⟩ := hrel
      by_cases hj0 : j = 0
      · subst hj0
        have F := FIN.out _ _ _ I
        have HF := hid F
        have TR := hid (trimmed_any (some ⟨w'.heap.size, 0, none⟩) N N os wr I.2.1 (Nat.le_refl _) (by omega) I.1.lies)
        clear F I
        go_wp2_with fail
        refine TR.out.mono ?_
        rintro e w3 ⟨rfl, rfl⟩
        go_wp2_with fail
        go_ret3
        exact ⟨some ⟨w'.heap.size, 0, none⟩, Nm.trim os, rr, ret_div HF.out.2.2.2.2.symm, HF.out.1, HF.out.2.1, HF.out.2.2.1, HF.out.2.2.2.1⟩
      · obtain ⟨t, rfl⟩ : ∃ t, j = t + 1 := ⟨j - 1, by omega⟩
        obtain ⟨x, hx, X⟩ : ∃ x, wr.cell? ⟨b, off + t, none⟩ = some (.int .u64 x) ∧ Hid (x = (Nm.trim zs).getD t 0) := ⟨_, (I.2.2.2.2.2.2.cell (p := ⟨b, off + t, none⟩) hbw).trans (HC.out t (by rw [L1.out]; omega)), rfl⟩
        have hx0 := A5.out.at t
        rw [← X.out] at hx0
        obtain ⟨hx0, hx1⟩ := hx0
        obtain ⟨hr0, hr1⟩ := I.2.2.2.2.2.1
        have htN : (t : Int) < (N : Int) := by omega
        go_wp2_with fail
        refine (div64 rr x d _ hr0 hr1 hx0 hx1 hd1).mono ?_
        rintro e w2 ⟨q, r', rfl, ⟨q0, q1, s0, s1⟩, E, hb⟩
        have I2 := I.step (by rw [L1.out]; omega) (by omega) hb X.out E.out ⟨q0, q1⟩ ⟨s0, s1⟩
        have ho2 := I.1.below hb I.1.lt
        obtain ⟨y, hyc⟩ : ∃ y, w2.cell? ⟨w'.heap.size, t, none⟩ = some (.int .u64 y) := ⟨_, ho2.cell t (by have := I.2.1; omega)⟩
        have hfr := ho2.free t
        clear I hx hb ho2
        go_wp2
        go_roundw
        case rel => exact ⟨t, r', _, by omega, by go_num, rfl, I2⟩
        case measure => simp [intOf]

/-- By nothing. -/
theorem divSmall_zero (p : Option Addr) (n cap : Nat) (zs : List Int) (w : World) (ha : Arg w p n cap zs) (tz : Nm.tsize zs ≤ 4096) :
    Calls Tryz.prog 194 #[.slice p n cap, .int .u64 0] w fun e w' => e = .returned (.tuple #[.slice none 0 0, .int .u64 0, .int .i64 4]) ∧ w' = w := by
  obtain ⟨a1, a2, a3, a4, a5⟩ := ha
  have HT := hid (limited_ok p n cap zs w a1 a2 (by omega) a4 tz)
  go_enter Tryz.func194, Tryz.ntmps194
  go_wp2_with fail
  refine HT.out.mono ?_
  rintro e w' ⟨rfl, rfl⟩
  go_wp2_with fail
  go_ret3
  exact ⟨rfl, rfl⟩

/-- Of an operand that is too big. -/
theorem divSmall_big (p : Option Addr) (n cap : Nat) (zs : List Int) (d : Int) (w : World) (ha : Arg w p n cap zs) (tz : 4096 < Nm.tsize zs) :
    Calls Tryz.prog 194 #[.slice p n cap, .int .u64 d] w fun e w' => e = .returned (.tuple #[.slice none 0 0, .int .u64 0, .int .i64 2]) ∧ w' = w := by
  obtain ⟨a1, a2, a3, a4, a5⟩ := ha
  have HT := hid (limited_big p n cap zs w a1 a2 (by omega) a4 tz)
  go_enter Tryz.func194, Tryz.ntmps194
  go_wp2_with fail
  refine HT.out.mono ?_
  rintro e w' ⟨rfl, rfl⟩
  go_wp2_with fail
  go_ret3
  exact ⟨rfl, rfl⟩
end Go.Proofs.YtonnlimmjelldaaGreatDoor

namespace Go.Proofs.YtonnlimmjelldaaGreatDoor
open Go.RowKit Go.Deep

theorem Arg.drew {w : World} {p : Option Addr} {n cap : Nat} {zs : List Int} (h : Arg w p n cap zs) (k : Nat) : Arg (w.drewN k) p n cap zs := h

theorem Arg.cut {w : World} {p : Option Addr} {n cap : Nat} {zs : List Int} (h : Arg w p n cap zs) : Arg w p (Nm.tsize zs) cap (Nm.trim zs) :=
  ⟨Nm.trim_length zs, by have := h.tl; have := h.2.1; omega, h.2.2.1, h.2.2.2.1.trim, h.2.2.2.2.trim⟩

/-- Quotient and rest, each trimmed and in new memory. -/
def Splits (A B : Int) (w : World) (e : Ending) (w' : World) : Prop :=
  ∃ r1 os r2 rs, e = .returned (.tuple #[.slice r1 (List.length os) (List.length os), .slice r2 (List.length rs) (List.length rs), .int .i64 0]) ∧ Ans w.heap.size w' r1 os (A / B) ∧ Ans w.heap.size w' r2 rs (A % B) ∧ Below w.heap.size w w'

theorem div_is {A B q r : Int} (h0 : 0 ≤ r) (h1 : r < B) (h : q * B + r = A) : A / B = q ∧ A % B = r := by
  have hB : 0 < B := by omega
  have h2 : A / B = q := by
    rw [← h, Int.add_comm, Int.add_mul_ediv_right _ _ (by omega), Int.ediv_eq_zero_of_lt h0 h1, Int.zero_add]
  refine ⟨h2, ?_⟩
  have := Int.emod_add_mul_ediv A B
  rw [h2, Int.mul_comm] at this
  omega

theorem ret_three {p q : Option Addr} {a b c d : Nat} {e : Int} (h : a = b) (k : c = d) : Ending.returned (.tuple #[.slice p a a, .slice q c c, .int .i64 e]) = .returned (.tuple #[.slice p b b, .slice q d d, .int .i64 e]) := by rw [h, k]

theorem divMod_big (p q : Option Addr) (n cap m cap' : Nat) (zs ys : List Int) (w : World) (ha : Arg w p n cap zs) (hb : Arg w q m cap' ys) (h : 4096 < Nm.tsize zs ∨ 4096 < Nm.tsize ys) :
    Calls Tryz.prog 185 #[.slice p n cap, .slice q m cap'] w fun e w' => e = .returned (.tuple #[.slice none 0 0, .slice none 0 0, .int .i64 2]) ∧ w' = w := by
  have L1 := hid (limbs_any p n cap zs w ha)
  have L2 := hid (limbs_any q m cap' ys w hb)
  by_cases h1 : 4096 < Nm.tsize zs
  · have h1' : (4096 : Int) < (Nm.tsize zs : Int) := by omega
    go_enter Tryz.func185, Tryz.ntmps185
    go_wp2_with fail
    refine L1.out.mono ?_
    rintro e w' ⟨rfl, rfl⟩
    go_wp2_with fail
    go_ret3
    exact ⟨rfl, rfl⟩
  · have h1' : (Nm.tsize zs : Int) ≤ 4096 := by omega
    have h2' : (4096 : Int) < (Nm.tsize ys : Int) := by omega
    go_enter Tryz.func185, Tryz.ntmps185
    go_wp2_with fail
    refine L1.out.mono ?_
    rintro e w' ⟨rfl, rfl⟩
    go_wp2_with fail
    refine L2.out.mono ?_
    rintro e w' ⟨rfl, rfl⟩
    go_wp2_with fail
    go_ret3
    exact ⟨rfl, rfl⟩

theorem limbs_is (p : Option Addr) (n cap : Nat) (zs : List Int) (N : Nat) (w : World) (ha : Arg w p n cap zs) (hN : Nm.tsize zs = N) :
    Calls Tryz.prog 141 #[.slice p n cap] w fun e w' => e = .returned (.int .i64 (N : Int)) ∧ w' = w := by
  rw [← hN]
  exact limbs_any p n cap zs w ha

set_option maxRecDepth 100000 in
set_option maxHeartbeats 1000000 in
theorem divMod_zero (p q : Option Addr) (n cap m cap' : Nat) (zs ys : List Int) (w : World) (ha : Arg w p n cap zs) (hb : Arg w q m cap' ys) (tz : Nm.tsize zs ≤ 4096) (ty : Nm.tsize ys = 0) :
    Calls Tryz.prog 185 #[.slice p n cap, .slice q m cap'] w fun e w' => e = .returned (.tuple #[.slice none 0 0, .slice none 0 0, .int .i64 4]) ∧ Below w.heap.size w w' := by
  obtain ⟨N, HN⟩ : ∃ N, Hid (Nm.tsize zs = N) := ⟨_, rfl⟩
  obtain ⟨M, HM⟩ : ∃ M, Hid (Nm.tsize ys = M) := ⟨_, rfl⟩
  have h1' : (N : Int) ≤ 4096 := by have := HN.out; omega
  have h2' : (M : Int) ≤ 4096 := by have := HM.out; omega
  have h3' : ((M : Int) == 0) = true := by have := HM.out; simp; omega
  have h2 : (N : Int) ≤ (cap : Int) := by have := ha.tl; have := ha.2.1; have := HN.out; omega
  have h4 : (M : Int) ≤ (cap' : Int) := by have := hb.tl; have := hb.2.1; have := HM.out; omega
  have HA := hid ha
  have HB := hid hb
  clear ha hb ty tz
  go_enter Tryz.func185, Tryz.ntmps185
  go_wp2_with fail
  refine (limbs_is p n cap zs N _ HA.out HN.out).mono ?_
  rintro e w' ⟨rfl, rfl⟩
  go_wp2_with fail
  refine (limbs_is q m cap' ys M _ HB.out HM.out).mono ?_
  rintro e w' ⟨rfl, rfl⟩
  go_wp2_with fail
  go_quiet ((go_at_call 141; first | exact Calls.quiet_of_same (limbs_is p n cap zs N _ (HA.out.drew _) HN.out) | exact Calls.quiet_of_same (limbs_is q m cap' ys M _ (HB.out.drew _) HM.out)))
  go_wp2_with fail
  go_ret3
  exact ⟨rfl, below_drewN (Below.refl _ _) _⟩
end Go.Proofs.YtonnlimmjelldaaGreatDoor

namespace Go.Proofs.YtonnlimmjelldaaGreatDoor
open Go.RowKit Go.Deep

/-- An append whose run is known. -/
theorem wpList_append_q {ty : TypeId} {ops : Array Oper} {rest : List Oper} {o : Oper} {a : Act} {Q : Exit → Act → World → Prop} (hgd : o.guard = none) (s x : Operand)
    (ho : o.op = .call { callee := .builtin .append, args := #[s, x], argTypes := #[ty, ty] }) {v y v' : Value} {w w' : World} (hr : (Builtin.append_ #[ty, ty] o.type #[v, y]).run Tryz.prog w = .ok v' w') (hs : a.eval s = v) (hx : a.eval x = y)
    (h : wpList Tryz.prog ops Q rest (a.put o.dst v') w') : wpList Tryz.prog ops Q (o :: rest) a w := by
  refine wpList_plain hgd fun K hK => ?_
  unfold Oper.wp execOp
  simp only [ho, resolve, invoke, builtin, Sem.run_bind, Sem.run_pure, Result.andThen_ok, List.map_toArray, List.map_cons, List.map_nil, hs, hx, hr]
  exact hK _ _ h

theorem qtwo_lt {B : Int} {Y k : Nat} (hB : B < Nm.pw Y) (hB0 : 0 ≤ B) (hk : k ≤ 64) : B * 2 ^ k < Nm.pw (Y + 1) := by
  have h1 := Nm.two_mono hk
  rw [Nm.two_64] at h1
  have h2 : B * 2 ^ k ≤ B * 18446744073709551616 := Int.mul_le_mul_of_nonneg_left h1 hB0
  rw [Nm.pw_succ]
  omega

/-- Before bit k of limb t of the quotient. -/
structure InI (w : World) (g g2 C K : Nat) (A b : Int) (t k : Nat) (os rs : List Int) (wr : World) : Prop where
  own : Own wr g rs
  len : rs.length = C
  lim : Nm.Limbs rs
  own2 : Own wr g2 os
  len2 : os.length = K
  lim2 : Nm.Limbs os
  zero : ∀ i, i < t → os.getD i 0 = 0
  bit : ∃ h, 0 ≤ h ∧ os.getD t 0 = h * 2 ^ k
  eq : Nm.val os * b + Nm.val rs = A
  lt : Nm.val rs < Nm.pw t * (b * 2 ^ k)
  low : Below g w wr

theorem InI.first {w : World} {g g2 C K : Nat} {A b : Int} {t : Nat} {os rs : List Int} {wr : World} (h : DivI w g g2 C K A b (t + 1) os rs wr) : InI w g g2 C K A b t 64 os rs wr := by
  refine ⟨h.own, h.len, h.lim, h.own2, h.len2, h.lim2, fun i hi => h.zero i (by omega), ⟨0, Int.le_refl _, by rw [h.zero t (by omega)]; omega⟩, h.eq, ?_, h.low⟩
  have := h.lt
  rw [Nm.pw_succ] at this
  rw [Nm.two_64]
  have e : Nm.pw t * (b * 18446744073709551616) = 18446744073709551616 * Nm.pw t * b := by rw [Int.mul_left_comm, Int.mul_comm b, Int.mul_comm (Nm.pw t)]
  omega

theorem InI.last {w : World} {g g2 C K : Nat} {A b : Int} {t : Nat} {os rs : List Int} {wr : World} (h : InI w g g2 C K A b t 0 os rs wr) : DivI w g g2 C K A b t os rs wr := by
  refine ⟨h.own, h.len, h.lim, h.own2, h.len2, h.lim2, h.zero, h.eq, ?_, h.low⟩
  have := h.lt
  rw [Int.pow_zero, Int.mul_one] at this
  exact this

/-- The bit is 0. -/
theorem InI.skip {w : World} {g g2 C K : Nat} {A b : Int} {t s : Nat} {os rs : List Int} {wr wr' : World} (h : InI w g g2 C K A b t (s + 1) os rs wr) (hb : Below wr.heap.size wr wr') (hlt : Nm.val rs < Nm.pw t * (b * 2 ^ s)) : InI w g g2 C K A b t s os rs wr' := by
  obtain ⟨x, x0, hx⟩ := h.bit
  have hg := h.own.lt
  exact ⟨h.own.below hb hg, h.len, h.lim, h.own2.below hb h.own2.lt, h.len2, h.lim2, h.zero, ⟨x * 2, by omega, by rw [hx, Nm.two_succ, Int.mul_assoc]⟩, h.eq, hlt, h.low.trans (hb.mono (by omega))⟩

/-- The bit is 1: what stands in the limb, and what it becomes. -/
theorem InI.orr {w : World} {g g2 C K : Nat} {A b : Int} {t s : Nat} {os rs : List Int} {wr : World} (h : InI w g g2 C K A b t (s + 1) os rs wr) (hs : s ≤ 63) :
    bits .or .u64 (os.getD t 0) (2 ^ s) = os.getD t 0 + 2 ^ s ∧ (0 ≤ os.getD t 0 + 2 ^ s ∧ os.getD t 0 + 2 ^ s < 18446744073709551616) := by
  obtain ⟨x, x0, hx⟩ := h.bit
  have hl := h.lim2.at t
  have p1 := Nm.two_pos s
  have e1 := Nm.two_succ s
  have e2 := Nm.two_mono (show s + 1 ≤ 64 by omega)
  rw [Nm.two_64] at e2
  have hdiv : x * 2 ^ (s + 1) + 2 ^ (s + 1) ≤ 18446744073709551616 := by
    have e3 : (2 : Int) ^ (64 - (s + 1)) * 2 ^ (s + 1) = 18446744073709551616 := by rw [← Nm.two_add, show 64 - (s + 1) + (s + 1) = 64 by omega, Nm.two_64]
    have hx1 : x < 2 ^ (64 - (s + 1)) := by
      rcases Int.lt_or_le x (2 ^ (64 - (s + 1))) with c | c
      · exact c
      · exfalso
        have : 2 ^ (64 - (s + 1)) * 2 ^ (s + 1) ≤ x * 2 ^ (s + 1) := Int.mul_le_mul_of_nonneg_right c (by omega)
        omega
    have : (x + 1) * 2 ^ (s + 1) ≤ 2 ^ (64 - (s + 1)) * 2 ^ (s + 1) := Int.mul_le_mul_of_nonneg_right (by omega) (by omega)
    rw [Int.add_mul, Int.one_mul] at this
    omega
  have ho := or_sum x (2 ^ s) (s + 1) x0 (by omega) (by omega) (by omega) (by omega)
  rw [← hx] at ho hdiv
  exact ⟨ho, by omega⟩

theorem InI.take {w : World} {g g2 C K : Nat} {A b : Int} {t s : Nat} {os rs rs' : List Int} {wr w1 w2 : World} (h : InI w g g2 C K A b t (s + 1) os rs wr) (htK : t < K) (hgl : g < g2) (hb : Below wr.heap.size wr w1)
    (ho : Own w2 g rs') (hl : rs'.length = C) (hlim : Nm.Limbs rs') (hv : Nm.val rs' = Nm.val rs - Nm.pw t * (b * 2 ^ s)) (hb2 : Below g w1 w2) (hoth : ∀ b, b ≠ g → w2.heap[b]? = w1.heap[b]?) (hs : s ≤ 63) :
    Own w2 g2 os ∧ InI w g g2 C K A b t s (os.set t (os.getD t 0 + 2 ^ s)) rs' (w2.setCell ⟨g2, t, none⟩ (.int .u64 (os.getD t 0 + 2 ^ s))) := by
  have hor := h.orr hs
  obtain ⟨x, x0, hx⟩ := h.bit
  have o2 : Own w2 g2 os := by
    have h1 := h.own2.below hb h.own2.lt
    simp only [Own] at h1 ⊢
    rw [hoth g2 (by omega)]
    exact h1
  have hlow : Below g w w2 := (h.low.trans (hb.mono (Nat.le_of_lt h.own.lt))).trans hb2
  have hgg : g2 ≠ g := by omega
  refine ⟨o2, ?_⟩
  have p1 := Nm.two_pos s
  have e1 := Nm.two_succ s
  refine ⟨ho.other hgg t _, hl, hlim, o2.set t _, by simpa using h.len2, h.lim2.set t hor.2.1 hor.2.2, fun i hi => ?_, ⟨x * 2 + 1, by omega, ?_⟩, ?_, ?_, ?_⟩
  · rw [Nm.getD_set _ _ _ _ (by rw [h.len2]; exact htK), if_neg (by omega)]
    exact h.zero i hi
  · rw [Nm.getD_set _ _ _ _ (by rw [h.len2]; exact htK), if_pos rfl, hx, e1, Int.add_mul, Int.one_mul, Int.mul_assoc]
  · rw [Nm.val_set _ _ _ (by rw [h.len2]; exact htK), show os.getD t 0 + 2 ^ s - os.getD t 0 = 2 ^ s by omega, Int.add_mul, hv]
    have e2 : Nm.pw t * 2 ^ s * b = Nm.pw t * (b * 2 ^ s) := by rw [Int.mul_assoc, Int.mul_comm (2 ^ s) b]
    have := h.eq
    omega
  · rw [hv]
    have := h.lt
    rw [e1] at this
    have e3 : Nm.pw t * (b * (2 * 2 ^ s)) = Nm.pw t * (b * 2 ^ s) + Nm.pw t * (b * 2 ^ s) := by rw [Int.mul_left_comm b, Int.mul_left_comm (Nm.pw t)]; omega
    omega
  · exact hlow.setCell (p := ⟨g2, t, none⟩) (Nat.le_of_lt hgl) _
end Go.Proofs.YtonnlimmjelldaaGreatDoor

namespace Go.Proofs.YtonnlimmjelldaaGreatDoor
open Go.RowKit Go.Deep

theorem Ans.up {B B' : Nat} {w : World} {p : Option Addr} {ys : List Int} {n : Int} (h : Ans B w p ys n) (hB : B' ≤ B) : Ans B' w p ys n :=
  ⟨h.1, h.2.1, h.2.2.1, h.2.2.2.1, fun a ha => Nat.le_trans hB (h.2.2.2.2 a ha)⟩

set_option maxRecDepth 100000 in
set_option maxHeartbeats 1000000 in
theorem divMod_one (p q : Option Addr) (n cap m cap' : Nat) (zs ys : List Int) (w : World) (ha : Arg w p n cap zs) (hb : Arg w q m cap' ys) (tz : Nm.tsize zs ≤ 4096) (ty : Nm.tsize ys = 1) :
    Calls Tryz.prog 185 #[.slice p n cap, .slice q m cap'] w fun e w' => Splits (Nm.val zs) (Nm.val ys) w e w' := by
  obtain ⟨b', off', rfl, hbw', HC'⟩ := hb.2.2.2.1.trim.at (by rw [Nm.trim_length]; omega)
  obtain ⟨d, hd, D⟩ : ∃ d, w.cell? ⟨b', off', none⟩ = some (.int .u64 d) ∧ Hid (d = (Nm.trim ys).getD 0 0) := ⟨_, HC'.out 0 (by rw [Nm.trim_length]; omega), rfl⟩
  have hdb := hb.2.2.2.2.trim.at 0
  rw [← D.out] at hdb
  have hdv : Nm.val ys = d := by
    have h1 := Nm.val_trim ys
    have h2 := Nm.trim_length ys
    rw [ty] at h2
    obtain ⟨y, hy⟩ := List.length_eq_one_iff.1 h2
    have h3 := D.out
    rw [hy] at h1 h3
    simp [Nm.val] at h1 h3
    omega
  have hd0 : 0 < d := by
    have := Nm.val_ge_top hb.2.2.2.2 (by omega)
    rw [ty] at this
    simp [Nm.pw] at this
    omega
  obtain ⟨_, hd1⟩ := hdb
  obtain ⟨N, HN⟩ : ∃ N, Hid (Nm.tsize zs = N) := ⟨_, rfl⟩
  obtain ⟨M, HM⟩ : ∃ M, Hid (Nm.tsize ys = M) := ⟨_, rfl⟩
  have h1' : (N : Int) ≤ 4096 := by have := HN.out; omega
  have h2' : (M : Int) ≤ 4096 := by have := HM.out; omega
  have h3' : ((M : Int) == 0) = false := by have := HM.out; simp; omega
  have h5' : ((M : Int) == 1) = true := by have := HM.out; simp; omega
  have h6' : (0 : Int) < (M : Int) := by have := HM.out; omega
  have h2 : (N : Int) ≤ (cap : Int) := by have := ha.tl; have := ha.2.1; have := HN.out; omega
  have h4 : (M : Int) ≤ (cap' : Int) := by have := hb.tl; have := hb.2.1; have := HM.out; omega
  have CU := ha.cut
  rw [HN.out] at CU
  have HCU := hid CU
  have HT : Hid (Nm.tsize (Nm.trim zs) ≤ 4096) := by show _ ≤ _; rw [Nm.trim_trim]; exact tz
  have HA := hid ha
  have HB := hid hb
  have HV := hid hdv
  clear ha hb ty tz CU hbw' HC' D hdv
  go_enter Tryz.func185, Tryz.ntmps185
  go_wp2_with fail
  refine (limbs_is p n cap zs N _ HA.out HN.out).mono ?_
  rintro e w' ⟨rfl, rfl⟩
  go_wp2_with fail
  refine (limbs_is _ m cap' ys M _ HB.out HM.out).mono ?_
  rintro e w' ⟨rfl, rfl⟩
  go_wp2_with fail
  go_quiet ((go_at_call 141; first | exact Calls.quiet_of_same (limbs_is p n cap zs N _ (HA.out.drew _) HN.out) | exact Calls.quiet_of_same (limbs_is _ m cap' ys M _ (HB.out.drew _) HM.out)))
  have hd2 : (w'.drewN nq).cell? ⟨b', off', none⟩ = some (.int .u64 d) := hd
  have HCU2 := hid (HCU.out.drew nq)
  have HB0 : Hid (Below w'.heap.size w' (w'.drewN nq)) := below_drewN (Below.refl _ _) nq
  clear hd HCU
  generalize w'.drewN nq = wq at *
  go_wp2_with fail
  refine (divSmall_ok p N cap (Nm.trim zs) d _ HCU2.out HT.out hd0 hd1).mono ?_
  rintro e w2 ⟨r, os, rest, rfl, A1, ⟨s0, s1⟩, E, hb2⟩
  have HA1 := hid A1
  have HB2 := hid hb2
  have HE := hid (div_is s0 s1 E.out)
  have s2 : rest < 18446744073709551616 := by omega
  clear A1 hb2 E hd2
  go_wp2_with fail
  refine (fromUint_any rest _ s0 s2).mono ?_
  rintro e w3 ⟨r2, os2, rfl, A2, hb3⟩
  have F : Hid (Splits (Nm.val zs) (Nm.val ys) w' (.returned (.tuple #[.slice r (List.length os) (List.length os), .slice r2 (List.length os2) (List.length os2), .int .i64 0])) w3) := by
    have e1 := HE.out
    rw [Nm.val_trim, ← HV.out] at e1
    have z1 := HB0.out.size
    have z2 := HB2.out.size
    refine ⟨r, os, r2, os2, rfl, ?_, ?_, (chain (chain HB0.out HB2.out (Nat.le_refl _)) hb3 (Nat.le_refl _))⟩
    · rw [e1.1]; exact (HA1.out.below hb3 (Nat.le_refl _)).up z1
    · rw [e1.2]; exact A2.up (Nat.le_trans z1 z2)
  clear A2 hb3
  go_wp2_with fail
  go_ret3
  exact F.out

set_option maxRecDepth 100000 in
set_option maxHeartbeats 1000000 in
theorem divMod_less (p q : Option Addr) (n cap m cap' : Nat) (zs ys : List Int) (w : World) (ha : Arg w p n cap zs) (hb : Arg w q m cap' ys) (tz : Nm.tsize zs ≤ 4096) (ty : Nm.tsize ys ≤ 4096) (ty2 : 2 ≤ Nm.tsize ys) (hlt : Nm.val zs < Nm.val ys) :
    Calls Tryz.prog 185 #[.slice p n cap, .slice q m cap'] w fun e w' => Splits (Nm.val zs) (Nm.val ys) w e w' := by
  obtain ⟨N, HN⟩ : ∃ N, Hid (Nm.tsize zs = N) := ⟨_, rfl⟩
  obtain ⟨M, HM⟩ : ∃ M, Hid (Nm.tsize ys = M) := ⟨_, rfl⟩
  have h1' : (N : Int) ≤ 4096 := by have := HN.out; omega
  have h2' : (M : Int) ≤ 4096 := by have := HM.out; omega
  have h3' : ((M : Int) == 0) = false := by have := HM.out; simp; omega
  have h5' : ((M : Int) == 1) = false := by have := HM.out; rw [beq_eq_false_iff_ne]; omega
  have h2 : (N : Int) ≤ (cap : Int) := by have := ha.tl; have := ha.2.1; have := HN.out; omega
  have h4 : (M : Int) ≤ (cap' : Int) := by have := hb.tl; have := hb.2.1; have := HM.out; omega
  have CU := ha.cut
  rw [HN.out] at CU
  have CU' := hb.cut
  rw [HM.out] at CU'
  have HCU := hid CU
  have HCU' := hid CU'
  have HC : Hid (cmpI (Nm.val (Nm.trim zs)) (Nm.val (Nm.trim ys)) = -1) := by show _ = _; rw [Nm.val_trim, Nm.val_trim]; exact cmpI_lt hlt
  have HD : Hid (Nm.val zs / Nm.val ys = 0 ∧ Nm.val zs % Nm.val ys = Nm.val (Nm.trim zs)) := by
    have := (Nm.val_bd zs ha.2.2.2.2).1
    rw [Nm.val_trim]
    exact div_is this hlt (by omega)
  have HA := hid ha
  have HB := hid hb
  clear ha hb ty tz CU CU' ty2 hlt
  go_enter Tryz.func185, Tryz.ntmps185
  go_wp2_with fail
  refine (limbs_is p n cap zs N _ HA.out HN.out).mono ?_
  rintro e w' ⟨rfl, rfl⟩
  go_wp2_with fail
  refine (limbs_is _ m cap' ys M _ HB.out HM.out).mono ?_
  rintro e w' ⟨rfl, rfl⟩
  go_wp2_with fail
  go_quiet ((go_at_call 141; first | exact Calls.quiet_of_same (limbs_is p n cap zs N _ (HA.out.drew _) HN.out) | exact Calls.quiet_of_same (limbs_is _ m cap' ys M _ (HB.out.drew _) HM.out)))
  have HCU2 := hid (HCU.out.drew nq)
  have HCU2' := hid (HCU'.out.drew nq)
  have HB0 : Hid (Below w'.heap.size w' (w'.drewN nq)) := below_drewN (Below.refl _ _) nq
  clear HCU HCU'
  generalize w'.drewN nq = wq at *
  go_wp2_with fail
  refine (cmp_is (-1) p q N cap M cap' (Nm.trim zs) (Nm.trim ys) _ HCU2.out HCU2'.out HC.out).mono ?_
  rintro e w2 ⟨rfl, hb2⟩
  have HB2 := hid (chain HB0.out hb2 (Nat.le_refl _))
  have HCU3 := hid (HCU2.out.below hb2 (Nat.le_refl _))
  clear hb2
  go_wp2_with fail
  refine (trim_any p N cap (Nm.trim zs) _ HCU3.out).mono ?_
  rintro e w3 ⟨r, os, rfl, -, A1, hb3⟩
  have F : Hid (Splits (Nm.val zs) (Nm.val ys) w' (.returned (.tuple #[.slice none 0 0, .slice r (List.length os) (List.length os), .int .i64 0])) w3) := by
    have z1 := HB2.out.size
    refine ⟨none, [], r, os, rfl, ?_, ?_, chain HB2.out hb3 (Nat.le_refl _)⟩
    · rw [HD.out.1]; exact ans_none _ _ _ (fun a h => by cases h)
    · rw [HD.out.2]; exact A1.up z1
  clear A1 hb3
  go_wp2_with fail
  go_ret3
  exact F.out

/-- The quotient of a by b has so many limbs. -/
theorem first_room {zs ys : List Int} (hz : Nm.Limbs zs) (hy : Nm.Limbs ys) {N M K : Nat} (hN : Nm.tsize zs = N) (hM : Nm.tsize ys = M) (hM0 : 0 < M) (hK : N + 1 = K + M) : Nm.val zs < Nm.pw K * Nm.val ys := by
  have h1 := Nm.val_lt_tsize hz
  have h2 := Nm.val_ge_top hy (by omega)
  rw [hN] at h1
  rw [hM] at h2
  have h3 : Nm.pw K * Nm.pw (M - 1) ≤ Nm.pw K * Nm.val ys := Int.mul_le_mul_of_nonneg_left h2 (by have := Nm.pw_pos K; omega)
  rw [← Nm.pw_add, show K + (M - 1) = N by omega] at h3
  omega

set_option maxRecDepth 100000 in
set_option maxHeartbeats 1000000 in
theorem divMod_long (p q : Option Addr) (n cap m cap' : Nat) (zs ys : List Int) (w : World) (ha : Arg w p n cap zs) (hb : Arg w q m cap' ys) (tz : Nm.tsize zs ≤ 4096) (ty : Nm.tsize ys ≤ 4096) (ty2 : 2 ≤ Nm.tsize ys) (hge : Nm.val ys ≤ Nm.val zs) :
    Calls Tryz.prog 185 #[.slice p n cap, .slice q m cap'] w fun e w' => Splits (Nm.val zs) (Nm.val ys) w e w' := by
  obtain ⟨N, HN⟩ : ∃ N, Hid (Nm.tsize zs = N) := ⟨_, rfl⟩
  obtain ⟨M, HM⟩ : ∃ M, Hid (Nm.tsize ys = M) := ⟨_, rfl⟩
  have hNM : M ≤ N := by
    rcases Nat.lt_or_ge N M with h | h
    · have := val_lt_of_tsize ha.2.2.2.2 hb.2.2.2.2 (by rw [HN.out, HM.out]; exact h)
      omega
    · exact h
  obtain ⟨K, HK⟩ : ∃ K, Hid (N + 1 = K + M) := ⟨N + 1 - M, by show _ = _; omega⟩
  have RM := hid (first_room ha.2.2.2.2 hb.2.2.2.2 HN.out HM.out (by have := HM.out; omega) HK.out)
  have h1' : (N : Int) ≤ 4096 := by have := HN.out; omega
  have h2' : (M : Int) ≤ 4096 := by have := HM.out; omega
  have h3' : ((M : Int) == 0) = false := by have := HM.out; simp; omega
  have h5' : ((M : Int) == 1) = false := by have := HM.out; rw [beq_eq_false_iff_ne]; omega
  have h2 : (N : Int) ≤ (cap : Int) := by have := ha.tl; have := ha.2.1; have := HN.out; omega
  have h4 : (M : Int) ≤ (cap' : Int) := by have := hb.tl; have := hb.2.1; have := HM.out; omega
  have CU := ha.cut
  rw [HN.out] at CU
  have CU' := hb.cut
  rw [HM.out] at CU'
  have HCU := hid CU
  have HCU' := hid CU'
  obtain ⟨c, hc0, HC⟩ : ∃ c : Int, 0 ≤ c ∧ Hid (cmpI (Nm.val (Nm.trim zs)) (Nm.val (Nm.trim ys)) = c) := by
    rw [Nm.val_trim, Nm.val_trim]
    rcases (show Nm.val zs = Nm.val ys ∨ Nm.val ys < Nm.val zs by omega) with h | h
    · exact ⟨0, by omega, cmpI_eq h⟩
    · exact ⟨1, by omega, cmpI_gt h⟩
  have HA := hid ha
  have HB := hid hb
  have hM2 : 2 ≤ M := by have := HM.out; omega
  clear ha hb ty tz CU CU' ty2 hge
  go_enter Tryz.func185, Tryz.ntmps185
  go_wp2_with fail
  refine (limbs_is p n cap zs N _ HA.out HN.out).mono ?_
  rintro e w' ⟨rfl, rfl⟩
  go_wp2_with fail
  refine (limbs_is _ m cap' ys M _ HB.out HM.out).mono ?_
  rintro e w' ⟨rfl, rfl⟩
  go_wp2_with fail
  go_quiet ((go_at_call 141; first | exact Calls.quiet_of_same (limbs_is p n cap zs N _ (HA.out.drew _) HN.out) | exact Calls.quiet_of_same (limbs_is _ m cap' ys M _ (HB.out.drew _) HM.out)))
  have HCU2 := hid (HCU.out.drew nq)
  have HCU2' := hid (HCU'.out.drew nq)
  have HB0 : Hid (Below w'.heap.size w' (w'.drewN nq)) := below_drewN (Below.refl _ _) nq
  clear HCU HCU'
  generalize w'.drewN nq = wq at *
  go_wp2_with fail
  refine (cmp_is c p q N cap M cap' (Nm.trim zs) (Nm.trim ys) _ HCU2.out HCU2'.out HC.out).mono ?_
  rintro e w2 ⟨rfl, hb2⟩
  have HB2 := hid (chain HB0.out hb2 (Nat.le_refl _))
  have HCU3 := hid (HCU2.out.below hb2 (Nat.le_refl _))
  have HCU3' := hid (HCU2'.out.below hb2 (Nat.le_refl _))
  clear hb2 HCU2 HCU2' HB0
  have hmk := make64 (N + 1) (by omega) w2
  have em : ((N + 1 : Nat) : Int) = (N : Int) + 1 := by omega
  rw [em] at hmk
  clear em
  have hb0 : Below w2.heap.size w2 (w2.alloc (.cells (madeCells #[.int .u64 0] (N + 1)) 26)) := (Below.refl _ _).alloc (Nat.le_refl _) _
  have ho : Own (w2.alloc (.cells (madeCells #[.int .u64 0] (N + 1)) 26)) w2.heap.size (List.replicate (N + 1) 0) := by
    rw [made_zero]; exact Own.alloc w2 _
  obtain ⟨w3, hcp, ho1, hb1, hz1⟩ := copy64 w2.heap.size (N + 1) (List.replicate (N + 1) 0) p N cap (Nm.trim zs) 3 _ (by simp) (by rw [Nm.trim_length, HN.out]) (by omega) ho (HCU3.out.2.2.2.1.below hb0 (Nat.le_refl _))
  have e1 : List.drop N (List.replicate (N + 1) (0 : Int)) = [0] := by simp
  rw [e1] at ho1
  have HO := hid ho1
  have HB3 := hid (hb0.trans hb1)
  have HW3 : Hid (w2.heap.size < w3.heap.size) := ho1.lt
  clear e1 ho1 hb1 ho hb0 hz1
  have DV := divide_any w2.heap.size (N + 1) K (M - 2) M cap' (Nm.trim zs ++ [0]) q (Nm.trim ys) w3 HO.out (by simp [Nm.trim_length, HN.out]) (by omega) (Nm.Limbs.append HCU3.out.2.2.2.2 (limb_one (by omega))) (by omega) HK.out (by rw [Nm.trim_length, HM.out]) (by omega) (by have := HCU3'.out.2.2.1; omega)
    (HCU3'.out.2.2.2.1.below HB3.out (Nat.le_refl _)) HCU3'.out.2.2.2.2 (HCU3'.out.2.2.2.1.lt (by rw [Nm.trim_length, HM.out]; omega)) (by
      have := Nm.tsize_top (Nm.trim ys) (by rw [Nm.trim_trim, HM.out]; omega)
      rw [Nm.trim_trim, HM.out] at this
      rw [show M - 2 + 1 = M - 1 by omega]
      exact this) (by
      have e : Nm.val (Nm.trim zs ++ [0]) = Nm.val zs := by rw [Nm.val_append, Nm.val_trim]; simp [Nm.val]
      rw [e, Nm.val_trim]
      exact RM.out)
  have HDV := hid DV
  clear DV
  go_wp2_with fail
  refine HDV.out.mono ?_
  rintro e w4 ⟨os, rs, rfl, I⟩
  have bz := (Nm.val_bd rs I.out.lim).1
  have HE : Hid (Nm.val zs / Nm.val ys = Nm.val os ∧ Nm.val zs % Nm.val ys = Nm.val rs) := by
    have h1 := I.out.eq
    have h2 := I.out.lt
    have e : Nm.val (Nm.trim zs ++ [0]) = Nm.val zs := by rw [Nm.val_append, Nm.val_trim]; simp [Nm.val]
    rw [e, Nm.val_trim] at h1
    rw [Nm.val_trim] at h2
    simp only [Nm.pw, Int.one_mul] at h2
    exact div_is bz h2 h1
  have HB4 := hid ((HB2.out.trans (HB3.out.mono HB2.out.size)).trans (I.out.low.mono HB2.out.size))
  have hK64 : K ≤ 17592186044416 := by have := HK.out; omega
  have A1 : Hid (Arg w4 (some ⟨w3.heap.size, 0, none⟩) K K os) := ⟨I.out.len2, Nat.le_refl _, hK64, I.out.own2.lies, I.out.lim2⟩
  have HZ := hid HB2.out.size
  clear bz hmk hcp HDV
  go_wp2_with fail
  refine (trim_any _ K K os _ A1.out).mono ?_
  rintro e w5 ⟨r, os', rfl, -, A2, hb5⟩
  have HB5 := hid (chain HB4.out hb5 (Nat.le_refl _))
  have A3 : Hid (Arg w5 (some ⟨w2.heap.size, 0, none⟩) (N + 1) (N + 1) rs) := ⟨I.out.len, Nat.le_refl _, by omega, (I.out.own.below hb5 I.out.own.lt).lies, I.out.lim⟩
  have HA2 := hid (A2.up (B' := w'.heap.size) (HB4.out.size))
  clear A2 hb5
  go_wp2_with fail
  refine (trim_any _ (N + 1) (N + 1) rs _ A3.out).mono ?_
  rintro e w6 ⟨r2, os2, rfl, -, A4, hb6⟩
  have F : Hid (Splits (Nm.val zs) (Nm.val ys) w' (.returned (.tuple #[.slice r (List.length os') (List.length os'), .slice r2 (List.length os2) (List.length os2), .int .i64 0])) w6) := by
    refine ⟨r, os', r2, os2, rfl, ?_, ?_, chain HB5.out hb6 (Nat.le_refl _)⟩
    · rw [HE.out.1]; exact HA2.out.below hb6 (Nat.le_refl _)
    · rw [HE.out.2]; exact A4.up HB5.out.size
  clear A4 hb6
  go_wp2_with fail
  go_ret3
  exact F.out

/-- DivMod of two naturals that are not too big, the second not zero. -/
theorem divMod_ok (p q : Option Addr) (n cap m cap' : Nat) (zs ys : List Int) (w : World) (ha : Arg w p n cap zs) (hb : Arg w q m cap' ys) (tz : Nm.tsize zs ≤ 4096) (ty : Nm.tsize ys ≤ 4096) (hy : 0 < Nm.tsize ys) :
    Calls Tryz.prog 185 #[.slice p n cap, .slice q m cap'] w fun e w' => Splits (Nm.val zs) (Nm.val ys) w e w' := by
  by_cases h1 : Nm.tsize ys = 1
  · exact divMod_one p q n cap m cap' zs ys w ha hb tz h1
  by_cases h2 : Nm.val zs < Nm.val ys
  · exact divMod_less p q n cap m cap' zs ys w ha hb tz ty (by omega) h2
  · exact divMod_long p q n cap m cap' zs ys w ha hb tz ty (by omega) (by omega)
end Go.Proofs.YtonnlimmjelldaaGreatDoor

namespace Go.Proofs.YtonnlimmjelldaaGreatDoor
open Go.RowKit Go.Deep

/-- An own block of a trimmed list, as an answer. -/
theorem Own.ans {B g : Nat} {w : World} {zs : List Int} (h : Own w g (Nm.trim zs)) (hz : Nm.Limbs zs) (hB : B ≤ g) : Ans B w (some ⟨g, 0, none⟩) (Nm.trim zs) (Nm.val zs) :=
  ⟨h.lies, hz.trim, by rw [Nm.trim_trim, Nm.trim_length], Nm.val_trim zs, fun a ha => by cases ha; exact hB⟩

/-- Quotient and rest, as the reference tells them. -/
def Parts (A B : Int) (w : World) (e : Ending) (w' : World) : Prop :=
  ∃ r1 os r2 rs, e = .returned (.tuple #[.slice r1 (List.length os) (List.length os), .slice r2 (List.length rs) (List.length rs)]) ∧ Ans w.heap.size w' r1 os (A / B) ∧ Ans w.heap.size w' r2 rs (A % B) ∧ Below w.heap.size w w'

/-- What the list of the divisors moved up is, behind its making: all of it below block g. -/
structure Moved (Y : Nat) (b : Int) (gm g : Nat) (w : World) : Prop where
  at' : ∀ s, s < 64 → ∃ gs cs ms, w.cell? ⟨gm, s, none⟩ = some (.slice (some ⟨gs, 0, none⟩) (Y + 1) cs) ∧ Lies w (some ⟨gs, 0, none⟩) ms ∧ ms.length = Y + 1 ∧ Nm.Limbs ms ∧ Nm.val ms = b * 2 ^ s ∧ gs < g
  lt : gm < g

theorem Moved.lift {Y : Nat} {b : Int} {gm g g' : Nat} {w w' : World} (h : Moved Y b gm g w) (hb : Below g w w') (hg : g ≤ g') : Moved Y b gm g' w' := by
  refine ⟨fun s hs => ?_, by have := h.lt; omega⟩
  obtain ⟨gs, cs, ms, h1, h2, h3, h4, h5, h6⟩ := h.at' s hs
  exact ⟨gs, cs, ms, by rw [hb.cell (p := ⟨gm, s, none⟩) h.lt]; exact h1, h2.low hb (fun a ha => by cases ha; exact h6), h3, h4, h5, by omega⟩

/-- Of the headers' list, when all 64 are in. -/
theorem moved_of {base Y : Nat} {b : Int} {mv : Value} {l : List (Nat × Nat)} {w : World} (hb0 : 0 ≤ b) (hb : b < Nm.pw Y) (hl : l.length = 64) (ho : w.ownsRow base 59 1 mv 64 (l.map (hdr Y))) (hm : ∀ t e, l[t]? = some e → Mv Y (b * 2 ^ t) w e.1) :
    ∃ gm cp, mv = .slice (some ⟨gm, 0, none⟩) 64 cp ∧ Moved Y b gm w.heap.size w := by
  rcases ho.2 with ⟨_, h⟩ | ⟨gm, cp, cur, rfl, _, hcur, _, _, _, _⟩
  · omega
  · refine ⟨gm, cp, rfl, fun s hs => ?_, ?_⟩
    · have hs' : s < l.length := by omega
      have he : l[s]? = some l[s] := List.getElem?_eq_getElem hs'
      obtain ⟨ms, m1, m2, m3, m4⟩ := (hm s _ he).lies (qtwo_lt hb hb0 (by omega))
      refine ⟨(l[s]).1, (l[s]).2, ms, ?_, m1, m2, m3, m4, (hm s _ he).lt⟩
      have := ho.cells (g := gm) rfl s (hdr Y l[s]) (by rw [List.getElem?_map, he]; rfl)
      rw [Go.WideShapes.add_plain, Nat.zero_add] at this
      exact this
    · rcases Nat.lt_or_ge gm w.heap.size with h | h
      · exact h
      · rw [Array.getElem?_eq_none h] at hcur
        exact absurd hcur (by simp)

theorem part_take {rs : List Int} {R t M : Nat} (h : t + M ≤ R) : Qd.part (rs.take R) t M = Qd.part rs t M := by
  rw [Qd.part, Qd.part, List.drop_take, List.take_take, Nat.min_eq_left (by omega)]

/-- What holds tells, of the whole. -/
theorem holds_iff {rs : List Int} (hr : Nm.Limbs rs) {t M : Nat} (hl : t + M ≤ rs.length) (hv : Nm.val rs < Nm.pw (t + M)) (V : Int) : V ≤ Nm.val (Qd.part rs t M) ↔ Nm.pw t * V ≤ Nm.val rs := by
  have h1 := Qd.part_val hr hl hv
  have h2 := Nm.val_bd _ (hr.take t)
  rw [List.length_take, Nat.min_eq_left (by omega)] at h2
  have hp := Nm.pw_pos t
  constructor
  · intro h
    have := Int.mul_le_mul_of_nonneg_left h (show 0 ≤ Nm.pw t by omega)
    omega
  · intro h
    rcases (show V ≤ Nm.val (Qd.part rs t M) ∨ Nm.val (Qd.part rs t M) + 1 ≤ V by omega) with c | c
    · exact c
    · exfalso
      have := Int.mul_le_mul_of_nonneg_left c (show 0 ≤ Nm.pw t by omega)
      rw [Int.mul_add, Int.mul_one] at this
      omega

theorem InI.room {w : World} {g g2 C K : Nat} {A b : Int} {t k Y : Nat} {os rs : List Int} {wr : World} (h : InI w g g2 C K A b t k os rs wr) (hk : k ≤ 64) (hb : b < Nm.pw Y) (hb0 : 0 ≤ b) : Nm.val rs < Nm.pw (t + (Y + 1)) := by
  have h1 := h.lt
  have h2 := qtwo_lt hb hb0 hk
  have h3 : Nm.pw t * (b * 2 ^ k) ≤ Nm.pw t * Nm.pw (Y + 1) := Int.mul_le_mul_of_nonneg_left (by omega) (by have := Nm.pw_pos t; omega)
  rw [← Nm.pw_add] at h3
  omega

theorem holds_is (s : Bool) (p q : Option Addr) (R cap M cap' j : Nat) (rs ms : List Int) (ji : Int) (w : World) (hr : rs.length = R) (hR : R ≤ 17592186044416) (hm : ms.length = M) (hM : 0 < M) (hjM : j + M ≤ R) (h1 : Lies w p rs) (h2 : Lies w q ms) (hlr : Nm.Limbs rs) (hlm : Nm.Limbs ms) (hji : ji = (j : Int)) (hs : decide (Nm.val ms ≤ Nm.val (Qd.part rs j M)) = s) :
    Calls Tryz.prog 92 #[.slice p R cap, .int .i64 ji, .slice q M cap'] w fun e w' => e = .returned (.bool s) ∧ Below w.heap.size w w' := by
  rw [← hs]
  exact holds_any p q R cap M cap' j rs ms ji w hr hR hm hM hjM h1 h2 hlr hlm hji

set_option maxRecDepth 100000 in
set_option maxHeartbeats 4000000 in
theorem refDivide_any (p q : Option Addr) (n cap m cap' : Nat) (za zb : List Int) (w : World) (ha : Arg w p n cap za) (hb : Arg w q m cap' zb) (tz : Nm.tsize za ≤ 4096) (ty : Nm.tsize zb ≤ 4096) (hy : 0 < Nm.tsize zb) :
    Calls Tryz.prog 57 #[.slice p n cap, .slice q m cap'] w fun e w' => Parts (Nm.val za) (Nm.val zb) w e w' := by
  obtain ⟨N, hN⟩ : ∃ N, Nm.tsize za = N := ⟨_, rfl⟩
  obtain ⟨Y, hY⟩ : ∃ Y, Nm.tsize zb = Y := ⟨_, rfl⟩
  have ha1 := ha.2.1
  have ha2 := ha.2.2.1
  have hb1 := hb.2.1
  have hb2 := hb.2.2.1
  have S1 := short_any p n cap za N w ha.1 (by omega) ha.2.2.2.1 hN
  have b0 := (Nm.val_bd zb hb.2.2.2.2).1
  have a0 := (Nm.val_bd za ha.2.2.2.2).1
  have bY := Nm.val_lt_tsize hb.2.2.2.2
  rw [hY] at bY
  have HN := hid hN
  have HYY := hid hY
  have HA := hid ha
  have HB := hid hb
  have HS1 := hid S1
  have hN4 : N ≤ 4096 := by omega
  have hY4 : Y ≤ 4096 := by omega
  have hY0 : 0 < Y := by omega
  have RM : Hid (∀ K, N + 1 = K + Y → Nm.val za < Nm.pw K * Nm.val zb) := fun K hK => first_room ha.2.2.2.2 hb.2.2.2.2 hN hY hY0 hK
  have NM : Hid (N < Y → Nm.val za < Nm.val zb) := fun h => val_lt_of_tsize ha.2.2.2.2 hb.2.2.2.2 (by omega)
  obtain ⟨A, hAv⟩ : ∃ A, Nm.val za = A := ⟨_, rfl⟩
  obtain ⟨b, hbv⟩ : ∃ b, Nm.val zb = b := ⟨_, rfl⟩
  have HVA := hid hAv
  have HVB := hid hbv
  rw [hAv, hbv] at RM NM
  rw [hAv] at a0
  rw [hbv] at b0 bY
  rw [hAv, hbv]
  have HbY := hid bY
  clear ha hb tz ty hy S1 bY hN hY hAv hbv
  go_enter Tryz.func57, Tryz.ntmps57
  go_wp2_with fail
  refine HS1.out.mono ?_
  rintro e w1 ⟨rfl, o1, d1⟩
  have O1 := hid o1
  have D1 := hid d1
  clear o1 d1 HS1
  go_wp2_with fail
  refine (short_any q m cap' zb Y _ HB.out.1 (by omega) (HB.out.2.2.2.1.below D1.out (Nat.le_refl _)) HYY.out).mono ?_
  rintro e w2 ⟨rfl, o2, d2⟩
  have O1' := hid (O1.out.below d2 O1.out.lt)
  have O2 := hid o2
  have D2 := hid (chain D1.out d2 (Nat.le_refl _))
  have hw1 : w.heap.size ≤ w1.heap.size := D1.out.size
  clear o2 d2 O1 D1
  have A1 : Hid (Arg w2 (some ⟨w.heap.size, 0, none⟩) N N (Nm.trim za)) := ⟨(Nm.trim_length za).trans HN.out, Nat.le_refl _, by omega, O1'.out.lies, HA.out.2.2.2.2.trim⟩
  have A2 : Hid (Arg w2 (some ⟨w1.heap.size, 0, none⟩) Y Y (Nm.trim zb)) := ⟨(Nm.trim_length zb).trans HYY.out, Nat.le_refl _, by omega, O2.out.lies, HB.out.2.2.2.2.trim⟩
  by_cases hlt : A < b
  · have HLT := hid hlt
    clear hlt
    go_wp2_with fail
    refine (order_is (-1) _ _ N N Y Y (Nm.trim za) (Nm.trim zb) _ A1.out A2.out (cmpI_lt (by rw [Nm.val_trim, Nm.val_trim, HVA.out, HVB.out]; exact HLT.out))).mono ?_
    rintro e w3 ⟨rfl, d3⟩
    have F : Hid (Parts A b w (.returned (.tuple #[.slice none 0 0, .slice (some ⟨w.heap.size, 0, none⟩) N N])) w3) := by
      have hd := div_is (A := A) (B := b) (q := 0) (r := A) a0 HLT.out (by omega)
      have hl : (Nm.trim za).length = N := (Nm.trim_length za).trans HN.out
      refine ⟨none, [], some ⟨w.heap.size, 0, none⟩, Nm.trim za, by rw [hl]; rfl, ?_, ?_, chain D2.out d3 (Nat.le_refl _)⟩
      · rw [hd.1]; exact ans_none _ _ _ (fun a h => by cases h)
      · rw [hd.2, ← HVA.out]; exact (O1'.out.below d3 O1'.out.lt).ans HA.out.2.2.2.2 (Nat.le_refl _)
    clear d3
    go_wp2_with fail
    go_ret2
    exact F.out
  · obtain ⟨c, hc0, HC⟩ : ∃ c : Int, 0 ≤ c ∧ Hid (cmpI A b = c) := by
      rcases (show A = b ∨ b < A by omega) with h | h
      · exact ⟨0, by omega, cmpI_eq h⟩
      · exact ⟨1, by omega, cmpI_gt h⟩
    have hNY : Y ≤ N := by
      rcases Nat.lt_or_ge N Y with h | h
      · exact absurd (NM.out h) hlt
      · exact h
    clear hlt NM
    go_wp2_with fail
    refine (order_is c _ _ N N Y Y (Nm.trim za) (Nm.trim zb) _ A1.out A2.out (by rw [Nm.val_trim, Nm.val_trim, HVA.out, HVB.out]; exact HC.out)).mono ?_
    rintro e w3 ⟨rfl, d3⟩
    have D3 := hid (chain D2.out d3 (Nat.le_refl _))
    have HB3 := hid (HB.out.below D3.out (Nat.le_refl _))
    clear d3 O1' O2 A1 A2 D2
    go_wp2_with fail
    refine (short_any q m cap' zb Y _ HB3.out.1 (by omega) HB3.out.2.2.2.1 HYY.out).mono ?_
    rintro e w4 ⟨rfl, o4, d4⟩
    obtain ⟨c4, w5, ap, hc5, o5, d5⟩ := grow64 w3.heap.size Y (Nm.trim zb) 0 w4 ((Nm.trim_length zb).trans HYY.out) (by omega) o4
    have AP := hid ap
    have D5 := hid (chain (chain D3.out d4 (Nat.le_refl _)) d5 (Nat.le_refl _))
    have M5 : Hid (Mv Y (b * 2 ^ 0) w5 (w4.heap.size + 1)) := by
      refine ⟨_, o5, by simp [Nm.trim_length, HYY.out], ?_, ?_⟩
      · exact ((HB.out.2.2.2.2.trim).append (limb_one (by omega))).append (Nm.Limbs.replicate _)
      · rw [Nm.val_append, Nm.val_append, Nm.val_replicate, Nm.val_trim, HVB.out]
        simp [Nm.val]
    have hs5 := D5.out.size
    clear ap o4 d4 o5 d5 D3 HB3
    go_wp2_with (at_builtin; refine wpList_append_q rfl _ _ rfl AP.out (by rfl) (by rfl) ?_; clear AP)
    go_loopw [8, 9, 10] (fun a c i wr => ∃ (k : Nat) (mv : Value) (l : List (Nat × Nat)) (gm cm : Nat), k ≤ 64 ∧ i = .int .i64 k ∧ a = mv ∧ c = .slice (some ⟨gm, 0, none⟩) (Y + 1) cm ∧ Hid (Y + 1 ≤ cm) ∧ Hid (l.length = k ∧ wr.ownsRow w.heap.size 59 1 mv k (l.map (hdr Y)) ∧ (∀ t e, l[t]? = some e → Mv Y (b * 2 ^ t) wr e.1) ∧ Mv Y (b * 2 ^ k) wr gm ∧ Below w.heap.size w wr)) (fun _ _ i _ => 64 - (intOf i).toNat)
    case atStart => exact ⟨0, .slice none 0 0, [], w4.heap.size + 1, c4, by omega, rfl, rfl, rfl, hc5, rfl, World.ownsRow_nil _ _ _ _, fun t e h => by simp at h, M5.out, D5.out⟩
    case round =>
      clear M5 D5 hs5
      obtain ⟨k, mv, l, gm, cm, hk, rfl, hmv, rfl, HCM, I⟩ := hrel
      have hmv := hmv.symm
      subst hmv
      by_cases hk64 : k < 64
      · obtain ⟨i1, i2, i3, i4, i5⟩ := I.out
        obtain ⟨mv', w6, ap, j1, j2, j3, j4⟩ := pushHdr w.heap.size Y k mv l (gm, cm) wr i1 (by omega) i5.size i2
        have AP : Hid ((Builtin.append_ #[105, 105] 105 #[mv, .slice (some ⟨wr.heap.size, 0, none⟩) 1 1]).run Tryz.prog (wr.alloc (.cells #[.slice (some ⟨gm, 0, none⟩) (Y + 1) cm] 59)) = .ok mv' w6) := ap
        obtain ⟨ms, m1, m2, m3, m4⟩ := (j3 _ _ i4).lies (qtwo_lt HbY.out b0 (by omega))
        have J1 := hid j1
        have J2 := hid (i5.trans j2)
        have J3 : Hid ((∀ t e, (l ++ [(gm, cm)])[t]? = some e → Mv Y (b * 2 ^ t) w6 e.1) ∧ (l ++ [(gm, cm)]).length = k + 1) := by
          refine ⟨fun t e h => ?_, by simp [i1]⟩
          by_cases ht : t < l.length
          · rw [List.getElem?_append_left ht] at h
            exact j3 _ _ (i3 t e h)
          · have hlt := (List.getElem?_eq_some_iff.1 h).1
            simp only [List.length_append, List.length_cons, List.length_nil] at hlt
            have ht2 : t = k := by omega
            subst ht2
            rw [List.getElem?_append_right (by omega), i1, Nat.sub_self] at h
            simp at h
            subst h
            exact j3 _ _ i4
        have DB := hid (doubled_any (some ⟨gm, 0, none⟩) (Y + 1) cm ms 0 w6 m2 (by omega) m1 m3 (by omega) (by omega))
        have M4 := hid m4
        clear ap i1 i2 i3 i4 i5 j1 j2 j3 j4 m1 m2 m3 m4 I
        go_wp2_with (at_builtin; refine wpList_append_q rfl _ _ rfl AP.out (by rfl) (by rfl) ?_; clear AP)
        refine DB.out.mono ?_
        rintro e w7 ⟨os, rfl, K⟩
        have KK : Hid ((l ++ [(gm, cm)]).length = k + 1 ∧ w7.ownsRow w.heap.size 59 1 mv' (k + 1) ((l ++ [(gm, cm)]).map (hdr Y)) ∧ (∀ t e, (l ++ [(gm, cm)])[t]? = some e → Mv Y (b * 2 ^ t) w7 e.1) ∧ Mv Y (b * 2 ^ (k + 1)) w7 w6.heap.size ∧ Below w.heap.size w w7) := by
          obtain ⟨k1, k2, k3, k4, k5⟩ := K.out
          refine ⟨J3.out.2, ?_, fun t e h => (J3.out.1 t e h).below k5, ⟨os, k1, by omega, k3, ?_⟩, chain J2.out k5 (Nat.le_refl _)⟩
          · exact J1.out.kept (row := none) ⟨k5.os, k5.tape, k5.output, k5.size, fun j hj _ => k5.block j hj⟩ (by cases h : Value.ownBlock mv' <;> simp)
          · rw [k4, M4.out, Nm.two_succ, Int.mul_left_comm]; omega
        clear K DB J1 J2 J3 M4
        go_wp2_with fail
        go_roundw
        case rel => exact ⟨k + 1, mv', l ++ [(gm, cm)], w6.heap.size, Y + 1 + 1, by omega, by go_num, rfl, rfl, by show _ ≤ _; omega, KK.out⟩
        case measure => simp [intOf]; omega
      · have hk2 : k = 64 := by omega
        subst hk2
        obtain ⟨i1, i2, i3, i4, i5⟩ := I.out
        obtain ⟨gv, cv, rfl, MV⟩ := moved_of b0 HbY.out i1 i2 i3
        have HMV := hid MV
        have D6 := hid i5
        have HA6 := hid (HA.out.below i5 (Nat.le_refl _))
        clear MV i1 i2 i3 i4 i5 I
        go_wp2_with fail
        refine (short_any p n cap za N _ HA6.out.1 (by omega) HA6.out.2.2.2.1 HN.out).mono ?_
        rintro e w7 ⟨rfl, o7, d7⟩
        obtain ⟨C, w8, ap, hc8, o8, d8⟩ := grow64 wr.heap.size N (Nm.trim za) 0 w7 ((Nm.trim_length za).trans HN.out) (by omega) o7
        have AP := hid ap
        have D8 := hid (chain d7 d8 (Nat.le_refl _))
        obtain ⟨J, HJ⟩ : ∃ J, Hid (J = N - Y) := ⟨_, rfl⟩
        have hJ : J ≤ 4096 := by rw [HJ.out]; omega
        have r1 : (N : Int) - (Y : Int) = (J : Int) := by rw [HJ.out]; omega
        have hmk := make64 (J + 1) (by omega) w8
        have em : ((J + 1 : Nat) : Int) = (J : Int) + 1 := by omega
        rw [em] at hmk
        clear em
        have hb9 : Below w8.heap.size w8 (w8.alloc (.cells (madeCells #[.int .u64 0] (J + 1)) 26)) := (Below.refl _ _).alloc (Nat.le_refl _) _
        have ho9 : Own (w8.alloc (.cells (madeCells #[.int .u64 0] (J + 1)) 26)) w8.heap.size (List.replicate (J + 1) 0) := by
          rw [made_zero]; exact Own.alloc w8 _
        obtain ⟨W0, hW0⟩ : ∃ W0, w8.alloc (.cells (madeCells #[.int .u64 0] (J + 1)) 26) = W0 := ⟨_, rfl⟩
        rw [hW0] at hmk hb9 ho9
        clear hW0
        have hg : w7.heap.size + 1 < w8.heap.size := o8.lt
        have d78 := chain d7 d8 (Nat.le_refl _)
        have HM8 := hid (HMV.out.lift d78 (show wr.heap.size ≤ w7.heap.size + 1 by have := d7.size; omega))
        have I0 : Hid (DivI w8 (w7.heap.size + 1) w8.heap.size C (J + 1) A b (J + 1) (List.replicate (J + 1) 0) (Nm.trim za ++ [0] ++ List.replicate (C - (N + 1)) 0) W0) := by
          have ev : Nm.val (Nm.trim za ++ [0] ++ List.replicate (C - (N + 1)) 0) = A := by
            rw [Nm.val_append, Nm.val_append, Nm.val_replicate, Nm.val_trim, HVA.out]
            simp [Nm.val]
          refine ⟨o8.below hb9 o8.lt, by simp [Nm.trim_length, HN.out]; omega, ((HA.out.2.2.2.2.trim).append (limb_one (by omega))).append (Nm.Limbs.replicate _), ho9, by simp, Nm.Limbs.replicate _, fun i _ => getD_replicate _ _, ?_, ?_, hb9.mono (Nat.le_of_lt hg)⟩
          · rw [Nm.val_replicate, ev]; omega
          · rw [ev]; exact RM.out (J + 1) (by rw [HJ.out]; omega)
        have D8 := hid (chain D6.out d78 (Nat.le_refl _))
        obtain ⟨g, hge⟩ : ∃ g, w7.heap.size + 1 = g := ⟨_, rfl⟩
        obtain ⟨gq, hgq⟩ : ∃ gq, w8.heap.size = gq := ⟨_, rfl⟩
        rw [hge] at I0 HM8 hg AP
        rw [hgq] at I0 hg hmk
        have hbase : Hid (w.heap.size ≤ g) := by
          show _ ≤ _
          have := D6.out.size
          have := d7.size
          omega
        clear ap o7 d7 o8 d8 d78 hb9 ho9 HMV HA6 hge hgq
        go_wp2_with (at_builtin; refine wpList_append_q rfl _ _ rfl AP.out (by rfl) (by rfl) ?_; clear AP)
        go_loopg [13] (J + 1) (fun j i wx => ∃ (os rs : List Int), j ≤ J + 1 ∧ i = .int .i64 ((j : Int) - 1) ∧ Hid (DivI w8 g gq C (J + 1) A b j os rs wx))
        case atStart => exact ⟨_, _, Nat.le_refl _, by go_num, I0.out⟩
        case round =>
          clear I0 hmk r1
          obtain ⟨os, rs, hj, rfl, I⟩ := hrel
          cases gk with
          | zero =>
            have HO := hid I.out.own2
            have HR := hid I.out.own
            have HE : Hid (A / b = Nm.val os ∧ A % b = Nm.val rs) := by
              have h1 := I.out.eq
              have h2 := I.out.lt
              simp only [Nm.pw, Int.one_mul] at h2
              exact div_is (Nm.val_bd rs I.out.lim).1 h2 h1
            have hrs : Hid (Nm.val (rs.take (N + 1)) = Nm.val rs) := by
              have h2 := I.out.lt
              simp only [Nm.pw, Int.one_mul] at h2
              refine Nm.val_take_of_zero rs (N + 1) (fun i hi => Nm.zero_of_lt I.out.lim (k := Y) (by have := HbY.out; omega) i (by omega))
            have hlen : Hid ((rs.take (N + 1)).length = N + 1) := by
              show _ = _
              rw [List.length_take, I.out.len]
              omega
            obtain ⟨T1, hT1⟩ : ∃ T, Hid (Nm.tsize os = T) := ⟨_, rfl⟩
            obtain ⟨T2, hT2⟩ : ∃ T, Hid (Nm.tsize (rs.take (N + 1)) = T) := ⟨_, rfl⟩
            have DX := hid (D8.out.trans (I.out.low.mono hbase.out))
            have hq1 : Hid (os.length = J + 1) := I.out.len2
            have L1 := hid I.out.lim
            have L2 := hid I.out.lim2
            clear I
            go_wp2_with fail
            refine (short_any (some ⟨gq, 0, none⟩) (J + 1) (J + 1) os T1 _ hq1.out (by omega) HO.out.lies hT1.out).mono ?_
            rintro e w10 ⟨rfl, o10, d10⟩
            have O10 := hid o10
            have D10 := hid d10
            have HR2 := hid (HR.out.below d10 HR.out.lt)
            have hsz : Hid (w.heap.size ≤ wr.heap.size) := DX.out.size
            clear o10 d10 HR
            go_wp2_with fail
            refine (short_any (some ⟨g, 0, none⟩) (N + 1) C (rs.take (N + 1)) T2 _ hlen.out (by omega) (HR2.out.lies.take _) hT2.out).mono ?_
            rintro e w11 ⟨rfl, o11, d11⟩
            have F : Hid (Parts A b w (.returned (.tuple #[.slice (some ⟨wr.heap.size, 0, none⟩) T1 T1, .slice (some ⟨w10.heap.size, 0, none⟩) T2 T2])) w11) := by
              have l1 : (Nm.trim os).length = T1 := (Nm.trim_length os).trans hT1.out
              have l2 : (Nm.trim (rs.take (N + 1))).length = T2 := (Nm.trim_length _).trans hT2.out
              refine ⟨_, Nm.trim os, _, Nm.trim (rs.take (N + 1)), by rw [l1, l2], ?_, ?_, chain (chain DX.out D10.out (Nat.le_refl _)) d11 (Nat.le_refl _)⟩
              · rw [HE.out.1]; exact (O10.out.below d11 O10.out.lt).ans L2.out hsz.out
              · rw [HE.out.2, ← hrs.out]; exact o11.ans (L1.out.take _) (Nat.le_trans hsz.out D10.out.size)
            clear o11 d11
            go_wp2_with fail
            go_ret2
            exact F.out
          | succ t =>
            have II := hid (InI.first I.out)
            have htJ : (t : Int) < (J : Int) + 1 := by omega
            clear I
            rw [show ((t + 1 : Nat) : Int) - 1 = (t : Int) by omega]
            go_wp2_with fail
            go_loopg [14] 64 (fun k i wy => ∃ (os rs : List Int), k ≤ 64 ∧ i = .int .i64 ((k : Int) - 1) ∧ Hid (InI w8 g gq C (J + 1) A b t k os rs wy))
            case atStart => exact ⟨os, rs, Nat.le_refl _, rfl, II.out⟩
            case round =>
              clear II
              obtain ⟨os, rs, hk, rfl, I⟩ := hrel
              cases gk with
              | zero =>
                have IL := hid I.out.last
                clear I
                go_wp2_with fail
                go_roundg t
                case measure => omega
                case rel => exact ⟨os, rs, by omega, by go_num, IL.out⟩
              | succ s =>
                obtain ⟨gs, cs, ms, hcell, m2, m3, m4, m5, m6⟩ := (HM8.out.lift I.out.low (Nat.le_refl _)).at' s (by omega)
                have hgv := HM8.out.lt
                have M2 := hid m2
                have M3 := hid m3
                have M4 := hid m4
                have M5 := hid m5
                have hlen : Hid ((rs.take (N + 1)).length = N + 1) := by
                  show _ = _
                  rw [List.length_take, I.out.len]
                  omega
                have hNt : Hid (t + (Y + 1) ≤ N + 1) := by show _ ≤ _; have := HJ.out; omega
                have hlt2 : Hid (t + (Y + 1) ≤ rs.length) := by show _ ≤ _; rw [I.out.len]; have := hNt.out; omega
                have RO := hid (I.out.room hk HbY.out b0)
                have HI := hid (holds_iff I.out.lim hlt2.out RO.out (b * 2 ^ s))
                have hs64 : (s : Int) < 64 := by omega
                clear m2 m3 m4 m5
                by_cases hle : Nm.pw t * (b * 2 ^ s) ≤ Nm.val rs
                · have HO := hid (holds_is true (some ⟨g, 0, none⟩) (some ⟨gs, 0, none⟩) (N + 1) C (Y + 1) cs t (rs.take (N + 1)) ms (t : Int) wr hlen.out (by omega) M3.out (by omega) hNt.out (I.out.own.lies.take _) M2.out (I.out.lim.take _) M4.out rfl (by rw [part_take hNt.out, M5.out]; simp only [decide_eq_true_eq]; exact HI.out.2 hle))
                  have HLE := hid hle
                  clear hle HI
                  go_wp2_with fail
                  refine HO.out.mono ?_
                  rintro e w12 ⟨rfl, d12⟩
                  have hcell2 : w12.cell? ⟨gv, s, none⟩ = some (.slice (some ⟨gs, 0, none⟩) (Y + 1) cs) := by
                    rw [d12.cell (p := ⟨gv, s, none⟩) (by show gv < wr.heap.size; have := I.out.own.lt; omega)]
                    exact hcell
                  have D12 := hid d12
                  have OR := hid (I.out.orr (by omega))
                  have TO := hid (takeOff_any g C (N + 1) C (Y + 1) cs t rs (some ⟨gs, 0, none⟩) ms (t : Int) w12 (I.out.own.below d12 I.out.own.lt) I.out.len hc8 (by omega) M3.out (by omega) hNt.out I.out.lim (M2.out.below d12 (Nat.le_refl _)) M4.out (fun a ha => by cases ha; show gs ≠ g; omega) rfl (by rw [M5.out]; exact HLE.out) RO.out)
                  rw [M5.out] at TO
                  clear hcell d12 HO
                  go_wp2_with fail
                  refine TO.out.mono ?_
                  rintro e w13 ⟨rs', rfl, P⟩
                  obtain ⟨o2, IN⟩ := I.out.take (by omega) hg D12.out P.out.1 P.out.2.1 P.out.2.2.1 P.out.2.2.2.1 P.out.2.2.2.2.1 P.out.2.2.2.2.2.2 (by omega)
                  obtain ⟨y, hy, YE⟩ : ∃ y, w13.cell? ⟨gq, t, none⟩ = some (.int .u64 y) ∧ Hid (os.getD t 0 = y) := ⟨_, o2.cell t (by have := I.out.len2; omega), rfl⟩
                  have hfr := o2.free t
                  rw [YE.out] at IN OR
                  obtain ⟨PP, HP⟩ : ∃ P : Int, Hid (2 ^ s = P) := ⟨_, rfl⟩
                  have q1 : IntKind.u64.wrap (2 ^ s) = PP := by
                    have h1 := Nm.two_pos s
                    have h2 := Nm.two_mono (show s ≤ 63 by omega)
                    rw [show (2 : Int) ^ 63 = 9223372036854775808 by decide] at h2
                    rw [← HP.out, wrap_mod]
                    omega
                  rw [HP.out] at OR IN
                  have q2 := OR.out.1
                  obtain ⟨z, HZ⟩ : ∃ z, Hid (y + PP = z) := ⟨_, rfl⟩
                  rw [HZ.out] at q2 IN
                  have HIN := hid IN
                  clear IN o2 P I TO OR
                  go_wp2_with fail
                  go_roundg s
                  case measure => omega
                  case rel => exact ⟨_, rs', by omega, by go_num, HIN.out⟩
                · have HO := hid (holds_is false (some ⟨g, 0, none⟩) (some ⟨gs, 0, none⟩) (N + 1) C (Y + 1) cs t (rs.take (N + 1)) ms (t : Int) wr hlen.out (by omega) M3.out (by omega) hNt.out (I.out.own.lies.take _) M2.out (I.out.lim.take _) M4.out rfl (by rw [part_take hNt.out, M5.out]; simp only [decide_eq_false_iff_not]; exact fun h => hle (HI.out.1 h)))
                  have HLE : Hid (Nm.val rs < Nm.pw t * (b * 2 ^ s)) := Int.not_le.1 hle
                  clear hle HI
                  go_wp2_with fail
                  refine HO.out.mono ?_
                  rintro e w12 ⟨rfl, d12⟩
                  have HIN := hid (I.out.skip d12 HLE.out)
                  clear d12 I
                  go_wp2_with fail
                  go_roundg s
                  case measure => omega
                  case rel => exact ⟨os, rs, by omega, by go_num, HIN.out⟩
end Go.Proofs.YtonnlimmjelldaaGreatDoor

namespace Go.Proofs.YtonnlimmjelldaaGreatDoor
open Go.RowKit Go.Deep

theorem val_take_any (zs : List Int) (k : Nat) : Nm.val (zs.take (k + 1)) = Nm.val (zs.take k) + Nm.pw k * zs.getD k 0 := by
  by_cases h : k < zs.length
  · exact Nm.val_take_succ zs k h
  · rw [List.take_of_length_le (by omega), List.take_of_length_le (by omega), List.getD, List.getElem?_eq_none (by omega)]
    simp

theorem getD_out {zs : List Int} {k : Nat} (h : zs.length ≤ k) : zs.getD k 0 = 0 := by rw [List.getD, List.getElem?_eq_none h]; rfl

/-- A round of Plus. -/
theorem plus_next {g n : Nat} {w : World} {xs ys : List Int} {j : Nat} {c c' s : Int} {os : List Int} {wr : World} (h : MaInv g (n + 1) w (Nm.val (xs.take j) + Nm.val (ys.take j)) j c os wr) (hj : j < n) (hs : 0 ≤ s ∧ s < 18446744073709551616) (hc : 0 ≤ c' ∧ c' ≤ 1)
    (he : s + 18446744073709551616 * c' = xs.getD j 0 + ys.getD j 0 + c) : MaInv g (n + 1) w (Nm.val (xs.take (j + 1)) + Nm.val (ys.take (j + 1))) (j + 1) c' (os.set j s) (wr.setCell ⟨g, j, none⟩ (.int .u64 s)) := by
  have := h.step (by omega) (x := xs.getD j 0 + ys.getD j 0) (s := s) (c' := c') hs ⟨hc.1, by omega⟩ he
  have e : Nm.val (xs.take j) + Nm.val (ys.take j) + Nm.pw j * (xs.getD j 0 + ys.getD j 0) = Nm.val (xs.take (j + 1)) + Nm.val (ys.take (j + 1)) := by
    rw [val_take_any, val_take_any, Int.mul_add]
    omega
  rw [e] at this
  exact this

theorem wrap_over {x : Int} (h : 18446744073709551616 ≤ x) (h2 : x < 36893488147419103232) : IntKind.u64.wrap x = x - 18446744073709551616 := by rw [wrap_mod]; omega

/-- Short, its block under a name. -/
theorem short_some (p : Option Addr) (n cap : Nat) (zs : List Int) (w : World) (hn : zs.length = n) (hm : n ≤ 17592186044416) (h : Lies w p zs) (hz : Nm.Limbs zs) :
    Calls Tryz.prog 89 #[.slice p n cap] w fun e w' => ∃ r os, e = .returned (.slice r (List.length os) (List.length os)) ∧ os = Nm.trim zs ∧ Ans w.heap.size w' r os (Nm.val zs) ∧ Below w.heap.size w w' := by
  refine (short_any p n cap zs _ w hn hm h rfl).mono ?_
  rintro e w' ⟨rfl, o, d⟩
  exact ⟨_, Nm.trim zs, by rw [Nm.trim_length], rfl, o.ans hz (Nat.le_refl _), d⟩

end Go.Proofs.YtonnlimmjelldaaGreatDoor

namespace Go.Proofs.YtonnlimmjelldaaGreatDoor
open Go.RowKit Go.Deep

/-- Behind j limbs of halfWords. -/
def HalfInv (g N : Nat) (w : World) (zs : List Int) (j : Nat) (hs : List Int) (wr : World) : Prop :=
  Own wr g hs ∧ hs.length = 2 * N ∧ Nm.Halves hs ∧ Nm.v32 hs = Nm.val (zs.take j) ∧ (∀ i, 2 * j ≤ i → hs.getD i 0 = 0) ∧ Below g w wr

theorem HalfInv.step {g N : Nat} {w : World} {zs : List Int} {j : Nat} {hs : List Int} {wr : World} {x : Int} (h : HalfInv g N w zs j hs wr) (hj : j < N) (hz : j < zs.length) (hx : x = zs.getD j 0) (x0 : 0 ≤ x) (x1 : x < 18446744073709551616) :
    HalfInv g N w zs (j + 1) ((hs.set (2 * j) (x % 4294967296)).set (2 * j + 1) (x / 4294967296)) ((wr.setCell ⟨g, 2 * j, none⟩ (.int .u64 (x % 4294967296))).setCell ⟨g, 2 * j + 1, none⟩ (.int .u64 (x / 4294967296))) := by
  obtain ⟨h1, h2, h3, h4, h5, h6⟩ := h
  have l1 : 2 * j < hs.length := by omega
  refine ⟨(h1.set _ _).set _ _, by simpa using h2, (h3.set _ (by omega) (by omega)).set _ (by omega) (by omega), ?_, fun i hi => ?_, (h6.setCell (p := ⟨g, 2 * j, none⟩) (Nat.le_refl _) _).setCell (p := ⟨g, 2 * j + 1, none⟩) (Nat.le_refl _) _⟩
  · rw [Nm.v32_set _ _ _ (by simp; omega), Nm.v32_set _ _ _ l1, h5 (2 * j) (by omega), Nm.getD_set _ _ _ _ l1, if_neg (by omega), h5 (2 * j + 1) (by omega), Int.sub_zero, Int.sub_zero, h4, Nm.val_take_succ zs j hz, ← hx]
    simp only [Nm.p32, Nm.p32_two]
    have e := Int.emod_add_mul_ediv x 4294967296
    have : Nm.pw j * x = Nm.pw j * (x % 4294967296) + 4294967296 * Nm.pw j * (x / 4294967296) := by
      conv => lhs; rw [← e]
      rw [Int.mul_add, Int.mul_left_comm, Int.mul_assoc]
    omega
  · rw [Nm.getD_set _ _ _ _ (by simp; omega), if_neg (by omega), Nm.getD_set _ _ _ _ l1, if_neg (by omega)]
    exact h5 i (by omega)

set_option maxRecDepth 100000 in
set_option maxHeartbeats 1000000 in
theorem halfWords_any (p : Option Addr) (n cap : Nat) (zs : List Int) (N : Nat) (w : World) (hn : zs.length = n) (hm : n ≤ 17592186044416) (h : Lies w p zs) (hz : Nm.Limbs zs) (hN : Nm.tsize zs = N) (hNb : N ≤ 1000000) :
    Calls Tryz.prog 181 #[.slice p n cap] w fun e w' => ∃ hs g, e = .returned (.slice (some ⟨g, 0, none⟩) (2 * N) (2 * N)) ∧ Hid (Own w' g hs ∧ hs.length = 2 * N ∧ Nm.Halves hs ∧ Nm.v32 hs = Nm.val zs ∧ w.heap.size ≤ g ∧ Below w.heap.size w w') := by
  have T := top_any p n cap zs w hn (by omega) h
  rw [hN] at T
  have HT := hid T
  have tl := Nm.tsize_le zs
  have hNn : N ≤ n := by omega
  have hmk := make64 (2 * N) (by omega) w
  have em : ((2 * N : Nat) : Int) = 2 * (N : Int) := by omega
  rw [em] at hmk
  clear em
  have ho : Own (w.alloc (.cells (madeCells #[.int .u64 0] (2 * N)) 26)) w.heap.size (List.replicate (2 * N) 0) := by
    rw [made_zero]; exact Own.alloc w _
  have hb0 : Below w.heap.size w (w.alloc (.cells (madeCells #[.int .u64 0] (2 * N)) 26)) := (Below.refl _ _).alloc (Nat.le_refl _) _
  obtain ⟨W0, hW0⟩ : ∃ W0, w.alloc (.cells (madeCells #[.int .u64 0] (2 * N)) 26) = W0 := ⟨_, rfl⟩
  rw [hW0] at hmk ho hb0
  have I0 : Hid (HalfInv w.heap.size N w zs 0 (List.replicate (2 * N) 0) W0) := ⟨ho, by simp, Nm.Halves.zeros _, by rw [Nm.v32_zeros]; simp [Nm.val], fun i _ => getD_replicate _ _, hb0⟩
  have TV : Hid (Nm.val (zs.take N) = Nm.val zs) := by rw [← hN]; exact Nm.val_trim zs
  have HN := hid hn
  have HL := hid h
  have HZ := hid hz
  clear hW0 ho hb0 T tl hN hn h hz
  by_cases h0 : N = 0
  · subst h0
    have hmk1 : (Instr.makeSlice 59 (.int .i64 0) (.int .i64 0)).run Tryz.prog w = .ok (.slice (some ⟨w.heap.size, 0, none⟩) 0 0) W0 := hmk
    have F : Hid (Own W0 w.heap.size (List.replicate 0 0) ∧ (List.replicate 0 (0 : Int)).length = 2 * 0 ∧ Nm.Halves (List.replicate 0 0) ∧ Nm.v32 (List.replicate 0 0) = Nm.val zs ∧ w.heap.size ≤ w.heap.size ∧ Below w.heap.size w W0) := by
      obtain ⟨i1, i2, i3, i4, i5, i6⟩ := I0.out
      exact ⟨i1, rfl, i3, by rw [← TV.out]; exact i4, Nat.le_refl _, i6⟩
    clear hmk I0
    go_enter Tryz.func181, Tryz.ntmps181
    go_wp2_with fail
    refine HT.out.mono ?_
    rintro e w' ⟨rfl, rfl⟩
    go_wp2_with fail
    refine wp_loop_rounds 1 ?_
    rw [rounds_succ]
    go_wp2_with fail
    go_ret
    exact ⟨_, _, rfl, F⟩
  · obtain ⟨b, off, rfl, hbw, HC⟩ := HL.out.at (by have := HN.out; omega)
    go_enter Tryz.func181, Tryz.ntmps181
    go_wp2_with fail
    refine HT.out.mono ?_
    rintro e w' ⟨rfl, rfl⟩
    go_wp2_with fail
    go_loopw [5] (fun i wr => ∃ (j : Nat) (hs : List Int), j ≤ N ∧ i = .int .i64 j ∧ Hid (HalfInv w'.heap.size N w' zs j hs wr)) (fun i _ => N - (intOf i).toNat)
    case atStart => exact ⟨0, _, Nat.zero_le _, rfl, I0.out⟩
    case round =>
      clear hmk I0
      obtain ⟨j, hs, hj, rfl, I⟩ := hrel
      by_cases hlt : j < N
      · obtain ⟨x, hx, X⟩ : ∃ x, wr.cell? ⟨b, off + j, none⟩ = some (.int .u64 x) ∧ Hid (x = zs.getD j 0) := ⟨_, (I.out.2.2.2.2.2.cell (p := ⟨b, off + j, none⟩) hbw).trans (HC.out j (by have := HN.out; omega)), rfl⟩
        have hx0 := HZ.out.at j
        rw [← X.out] at hx0
        obtain ⟨hx0, hx1⟩ := hx0
        have ST := hid (I.out.step hlt (by have := HN.out; omega) X.out hx0 hx1)
        obtain ⟨y1, hy1⟩ : ∃ y, wr.cell? ⟨w'.heap.size, 2 * j, none⟩ = some (.int .u64 y) := ⟨_, I.out.1.cell (2 * j) (by have := I.out.2.1; omega)⟩
        have hf1 := I.out.1.free (2 * j)
        have o2 := I.out.1.set (2 * j) (x % 4294967296)
        obtain ⟨y2, hy2⟩ : ∃ y, (wr.setCell ⟨w'.heap.size, 2 * j, none⟩ (.int .u64 (x % 4294967296))).cell? ⟨w'.heap.size, 2 * j + 1, none⟩ = some (.int .u64 y) := ⟨_, o2.cell (2 * j + 1) (by simp; have := I.out.2.1; omega)⟩
        have hf2 := o2.free (2 * j + 1)
        have hb2 : Below w'.heap.size wr (wr.setCell ⟨w'.heap.size, 2 * j, none⟩ (.int .u64 (x % 4294967296))) := (Below.refl _ _).setCell (p := ⟨w'.heap.size, 2 * j, none⟩) (Nat.le_refl _) _
        have hx2 : (wr.setCell ⟨w'.heap.size, 2 * j, none⟩ (.int .u64 (x % 4294967296))).cell? ⟨b, off + j, none⟩ = some (.int .u64 x) := by
          rw [hb2.cell (p := ⟨b, off + j, none⟩) hbw]
          exact hx
        have r1 := r_mask32 x hx0 hx1
        have hjn : (j : Int) < (n : Int) := by omega
        have hj2 : 2 * (j : Int) < 2 * (N : Int) := by omega
        have hj3 : 2 * (j : Int) + 1 < 2 * (N : Int) := by omega
        clear I o2 hb2
        go_wp2_with fail
        go_roundw
        case rel => exact ⟨j + 1, _, by omega, by go_num, ST.out⟩
        case measure => simp [intOf]; omega
      · have hjN : j = N := by omega
        subst hjN
        have F : Hid (Own wr w'.heap.size hs ∧ hs.length = 2 * j ∧ Nm.Halves hs ∧ Nm.v32 hs = Nm.val zs ∧ w'.heap.size ≤ w'.heap.size ∧ Below w'.heap.size w' wr) := by
          obtain ⟨i1, i2, i3, i4, i5, i6⟩ := I.out
          exact ⟨i1, i2, i3, by rw [← TV.out]; exact i4, Nat.le_refl _, i6⟩
        clear I
        go_wp2_with fail
        go_ret
        exact ⟨hs, _, rfl, F⟩
end Go.Proofs.YtonnlimmjelldaaGreatDoor
