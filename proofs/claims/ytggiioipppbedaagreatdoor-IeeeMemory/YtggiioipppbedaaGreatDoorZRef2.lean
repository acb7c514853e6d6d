/-
  THE REFERENCE's halves.
-/
import Derived.Test.YtggiioipppbedaaGreatDoorZRef1A
namespace Go.Proofs.YtggiioipppbedaaGreatDoor
open Go.RowKit Go.Deep

theorem r_mask32 (x : Int) (h0 : 0 ≤ x) (h1 : x < 18446744073709551616) : bits .and .u64 x 4294967295 = x % 4294967296 := by
  obtain ⟨n, rfl⟩ := Int.eq_ofNat_of_zero_le h0
  have h := bits_and_u64_nat n 4294967295 (by omega) (by omega)
  have e : n &&& 4294967295 = n % 4294967296 := Nat.and_two_pow_sub_one_eq_mod n 32
  rw [e] at h
  rw [show (4294967295 : Int) = ((4294967295 : Nat) : Int) from rfl, h]
  omega

theorem ret_len {p : Option Addr} {a b c : Nat} (h : a = b) : Ending.returned (.slice p a c) = .returned (.slice p b c) := by rw [h]

/-- What halves answers. -/
def HalvesOf (w w' : World) (n : Nat) (zs : List Int) (e : Ending) : Prop :=
  ∃ hs : List Int, e = .returned (.slice (some ⟨w.heap.size, 0, none⟩) (List.length hs) (2 * n)) ∧ Lies w' (some ⟨w.heap.size, 0, none⟩) hs ∧ Nm.Halves hs ∧ Nm.v32 hs = Nm.val zs ∧ hs.length ≤ 2 * Nm.tsize zs ∧ Below w.heap.size w w'

set_option maxRecDepth 100000 in
set_option maxHeartbeats 2000000 in
theorem halves_any (p : Option Addr) (n cap : Nat) (zs : List Int) (w : World) (ha : Arg w p n cap zs) (hn : n ≤ 17592186044000) :
    Calls Tryz.prog 81 #[.slice p n cap] w fun e w' => HalvesOf w w' n zs e := by
  obtain ⟨a1, a2, a3, a4, a5⟩ := ha
  have hmk := make64_room (2 * n) (by omega) w
  have bm := hid ((Below.refl w.heap.size w).alloc (Nat.le_refl _) (.cells (madeCells #[.int .u64 0] (2 * n)) 25))
  have gm := hid (Grown.made w (2 * n))
  rw [show ((2 * n : Nat) : Int) = 2 * (n : Int) by omega] at hmk
  generalize w.alloc (.cells (madeCells #[.int .u64 0] (2 * n)) 25) = wm at hmk bm gm
  rcases a4 with rfl | ⟨b, off, rfl, hcell⟩
  · have hn0 : n = 0 := by simpa using a1.symm
    subst hn0
    rw [show 2 * ((0 : Nat) : Int) = 0 from rfl] at hmk
    have E : Hid (HalvesOf w wm 0 [] (.returned (.slice (some ⟨w.heap.size, 0, none⟩) 0 0))) := ⟨[], rfl, Lies.nil _ _, Nm.Halves.nil, rfl, by simp, bm.out⟩
    clear a1 a5 gm bm
    go_enter Tryz.func81, Tryz.ntmps81
    go_wp2
    refine wp_loop_rounds 1 ?_
    rw [rounds_succ]
    go_wp2
    refine wp_loop_rounds 1 ?_
    rw [rounds_succ]
    go_wp2
    go_ret
    exact E.out
  · have H : Hid (zs.length = n) := a1
    have HC : Hid (∀ i, i < zs.length → w.cell? ⟨b, off + i, none⟩ = some (.int .u64 (zs.getD i 0))) := hcell
    have hbw : 0 < n → b < w.heap.size := fun h => cell_lt (hcell 0 (by omega))
    have HL := hid a5
    clear a1 hcell a5
    go_enter Tryz.func81, Tryz.ntmps81
    go_wp2
    go_loopw [3, 4] (fun a i wr => ∃ (j : Nat) (hs : List Int), j ≤ n ∧ i = .int .i64 j ∧ a = .slice (some ⟨w.heap.size, 0, none⟩) (2 * j) (2 * n) ∧ Hid (Grown wr w.heap.size hs (2 * n - 2 * j)) ∧ Hid (hs.length = 2 * j) ∧ Hid (Nm.Halves hs) ∧ Hid (Nm.v32 hs = Nm.val (zs.take j)) ∧ Below w.heap.size w wr) (fun _ i _ => n - (intOf i).toNat)
    case atStart => exact ⟨0, [], Nat.zero_le _, rfl, rfl, gm.out, rfl, Nm.Halves.nil, rfl, bm.out⟩
    case round =>
      obtain ⟨j, hs, hj, rfl, rfl, G, L, HH, V, hB⟩ := hrel
      by_cases hlt : j < n
      · have hbb := hbw (by omega)
        obtain ⟨x, hx, X⟩ : ∃ x, wr.cell? ⟨b, off + j, none⟩ = some (.int .u64 x) ∧ Hid (x = zs.getD j 0) := ⟨_, (hB.cell (p := ⟨b, off + j, none⟩) hbb).trans (HC.out j (by have := H.out; omega)), rfl⟩
        have hx0 : 0 ≤ x := by have := HL.out.at j; have := X.out; omega
        have hx1 : x < 18446744073709551616 := by have := HL.out.at j; have := X.out; omega
        obtain ⟨lo, hlo, LO⟩ : ∃ lo, bits .and .u64 x 4294967295 = lo ∧ Hid (lo = x % 4294967296) := ⟨_, r_mask32 x hx0 hx1, rfl⟩
        obtain ⟨hi, hhi, HI⟩ : ∃ hi, x / 4294967296 = hi ∧ Hid (hi = x / 4294967296) := ⟨_, rfl, rfl⟩
        have G' := G.out
        rw [show 2 * n - 2 * j = (2 * n - 2 * j - 1) + 1 by omega] at G'
        obtain ⟨w2, ap, gr, be, sz⟩ := push64 w.heap.size (2 * j) (2 * n - 2 * j - 1) (2 * n) hs lo wr L.out (by omega) G'
        rw [show 2 * n - 2 * j - 1 = (2 * n - 2 * j - 2) + 1 by omega] at gr
        obtain ⟨w3, ap2, gr2, be2, sz2⟩ := push64 w.heap.size (2 * j + 1) (2 * n - 2 * j - 2) (2 * n) (hs ++ [lo]) hi w2 (by simp [L.out]) (by omega) gr
        have hx2 : w2.cell? ⟨b, off + j, none⟩ = some (.int .u64 x) := (be.cell (p := ⟨b, off + j, none⟩) hbb).trans hx
        have AP := hid ap
        have AP2 := hid ap2
        have GR := hid gr2
        have BE := hid ((hB.trans be).trans be2)
        have hlt' : (j : Int) < (n : Int) := by omega
        clear ap ap2 gr gr2 be be2 sz sz2 hB G G'
        go_wp2_with (first | (at_builtin; refine wpList_append_row rfl _ _ rfl AP.out (by rfl) (by rfl) ?_; clear AP) | (at_builtin; refine wpList_append_row rfl _ _ rfl AP2.out (by rfl) (by rfl) ?_; clear AP2))
        go_roundw
        case rel =>
          refine ⟨j + 1, hs ++ [lo] ++ [hi], by omega, by go_num, rfl, ?_, ?_, ?_, ?_, BE.out⟩
          · have := GR.out
            rw [show 2 * n - 2 * j - 2 = 2 * n - 2 * (j + 1) by omega] at this
            exact this
          · have := L.out
            simp only [Hid, List.length_append, List.length_cons, List.length_nil]
            omega
          · have := LO.out
            have := HI.out
            exact (HH.out.snoc (by omega) (by omega)).snoc (by omega) (by omega)
          · rw [Hid, LO.out, HI.out]
            exact Nm.halves_step L.out (by have := H.out; omega) X.out V.out
        case measure => simp [intOf]; omega
      · obtain rfl : j = n := by omega
        have V' : Hid (Nm.v32 hs = Nm.val zs) := by have := V.out; rw [List.take_of_length_le (by have := H.out; omega)] at this; exact this
        have HC2 : Hid (∀ i, i < 2 * j → wr.cell? ⟨w.heap.size, i, none⟩ = some (.int .u64 (hs.getD i 0))) := by
          intro i hi
          have h := Own.cell G.out i (by have := L.out; simp; omega)
          rw [h]
          simp only [List.getD, List.getElem?_append_left (show i < hs.length by have := L.out; omega)]
        have GL := hid G.out.lies
        have HB := hid hB
        clear V G hB hmk gm bm
        go_wp2
        go_loop [5] (fun t => ∃ k : Nat, k ≤ 2 * j ∧ t = .int .i64 k ∧ Hid (∀ i, k ≤ i → hs.getD i 0 = 0)) (fun t => (intOf t).toNat)
        case atStart => exact ⟨2 * j, Nat.le_refl _, by first | rfl | go_num, fun i hi => by simp [List.getD, List.getElem?_eq_none (show hs.length ≤ i by have := L.out; omega)]⟩
        case round =>
          obtain ⟨k, hk, rfl, hz⟩ := hrel
          have FIN : Hid (k ≤ 2 * Nm.tsize zs → HalvesOf w wr j zs (.returned (.slice (some ⟨w.heap.size, 0, none⟩) k (2 * j)))) := by
            intro hkt
            refine ⟨hs.take k, ret_len ?_, GL.out.take k, HH.out.take k, ?_, ?_, HB.out⟩
            · rw [List.length_take]; have := L.out; omega
            · rw [Nm.v32_take_of_zero hs k hz.out]; exact V'.out
            · rw [List.length_take]; omega
          by_cases h0 : k = 0
          · subst h0
            go_wp2
            go_ret
            exact FIN.out (Nat.zero_le _)
          · obtain ⟨t, rfl⟩ : ∃ t, k = t + 1 := ⟨k - 1, by omega⟩
            obtain ⟨x, hx, X⟩ : ∃ x, wr.cell? ⟨w.heap.size, t, none⟩ = some (.int .u64 x) ∧ Hid (x = hs.getD t 0) := ⟨_, HC2.out t (by omega), rfl⟩
            by_cases hx0 : x = 0
            · subst hx0
              clear FIN
              go_wp2
              go_round
              case rel =>
                refine ⟨t, by omega, rfl, fun i hi => ?_⟩
                by_cases e : i = t
                · subst e; exact X.out.symm
                · exact hz.out i (by omega)
              case measure => simp [intOf]
            · have KT := hid (Nm.halves_len HH.out HL.out (by have := L.out; omega) (by rw [← X.out]; exact hx0) ((Nm.v32_take_of_zero hs (t + 1) hz.out).trans V'.out))
              go_wp2
              go_ret
              exact FIN.out KT.out
end Go.Proofs.YtggiioipppbedaaGreatDoor
