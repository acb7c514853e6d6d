import Derived.Test.YtpnjafacoeinnaaDoorIEnc
/-
  ieee: Encode, over what Decode tells.
-/
namespace Go.Proofs.YtpnjafacoeinnaaDoor
open Go Go.RowKit Go.Deep

theorem below_drew1 {B : Nat} {w w' : World} (h : Below B w w') : Below B w w'.drew := ⟨h.os, h.tape, h.output, h.size, h.block⟩

set_option maxRecDepth 100000 in
set_option maxHeartbeats 4000000 in
theorem encode_dec (d : Int) (w : World) (h0 : 0 ≤ d) (h1 : d < 18446744073709551616) :
    Calls Tryd.prog 9 #[partsOf (decide (9223372036854775808 ≤ d)) (Ie.cls d) (Ie.dm d) (Ie.de d)] w fun e w' => e = .returned (.tuple #[.int .u64 d, .int .i64 0]) ∧ Below w.heap.size w w' := by
  have JO := hid (fun (wx : World) => joined_dec d wx h0 h1)
  have DE := hid (fun (wx : World) => decode_any d wx h0 h1)
  generalize decide (9223372036854775808 ≤ d) = neg at *
  generalize Ie.cls d = c at *
  generalize Ie.dm d = m at *
  generalize Ie.de d = x at *
  simp only [partsOf] at *
  have AL : Hid (∀ (g : Obj) (w1 : World), g = .cells #[.bool neg, .int .i64 c, .int .u64 m, .int .i64 x] 25 → Below (w.alloc g).heap.size (w.alloc g) w1 → Below w.heap.size w w1 ∧ w1.cell? ⟨w.heap.size, 0, none⟩ = some (.bool neg) ∧ w1.cell? ⟨w.heap.size, 1, none⟩ = some (.int .i64 c) ∧ w1.cell? ⟨w.heap.size, 2, none⟩ = some (.int .u64 m) ∧ w1.cell? ⟨w.heap.size, 3, none⟩ = some (.int .i64 x)) := by
    intro g w1 hg hB
    subst hg
    have hb := alloc_below w (.cells #[.bool neg, .int .i64 c, .int .u64 m, .int .i64 x] 25)
    have hg := heap_alloc_new w (.cells #[.bool neg, .int .i64 c, .int .u64 m, .int .i64 x] 25)
    have hg1 : w1.heap[w.heap.size]? = some (.cells #[.bool neg, .int .i64 c, .int .u64 m, .int .i64 x] 25 (0, 0)) := by rw [hB.block _ (by simp)]; exact hg
    refine ⟨hb.trans (hB.mono hb.size), ?_, ?_, ?_, ?_⟩ <;> simp only [World.cell?, hg1] <;> rfl
  clear h0 h1
  go_enter Tryd.func9, Tryd.ntmps9
  go_wp2_with fail
  refine (JO.out _).mono ?_
  rintro e w1 ⟨rfl, hB⟩
  obtain ⟨hB1, c0, c1, c2, c3⟩ := AL.out _ _ rfl hB
  have HB1 := hid hB1
  have CA : Hid (∀ wx w2 : World, wx.heap = w1.heap → Below w.heap.size w wx → Below wx.heap.size wx w2 → Below w.heap.size w w2 ∧ w2.cell? ⟨w.heap.size, 0, none⟩ = some (.bool neg) ∧ w2.cell? ⟨w.heap.size, 1, none⟩ = some (.int .i64 c) ∧ w2.cell? ⟨w.heap.size, 2, none⟩ = some (.int .u64 m) ∧ w2.cell? ⟨w.heap.size, 3, none⟩ = some (.int .i64 x)) := by
    intro wx w2 hh hw hB2
    have lt : w.heap.size < wx.heap.size := by rw [hh]; exact cell_lt c0
    have eq : ∀ o, wx.cell? ⟨w.heap.size, o, none⟩ = w1.cell? ⟨w.heap.size, o, none⟩ := fun o => World.cell?_of_block (by rw [hh])
    exact ⟨hw.trans (hB2.mono hw.size), by rw [hB2.cell (p := ⟨w.heap.size, 0, none⟩) lt, eq]; exact c0, by rw [hB2.cell (p := ⟨w.heap.size, 1, none⟩) lt, eq]; exact c1, by rw [hB2.cell (p := ⟨w.heap.size, 2, none⟩) lt, eq]; exact c2, by rw [hB2.cell (p := ⟨w.heap.size, 3, none⟩) lt, eq]; exact c3⟩
  clear hB hB1 AL JO
  go_wp2_with fail
  go_region_with (go_at_call 8; refine (DE.out _).mono ?_; rintro e w2 ⟨rfl, hB2⟩; obtain ⟨hB3, k0, k1, k2, k3⟩ := CA.out w1.drew w2 rfl (below_drew1 HB1.out) hB2; have HB2 := hid hB3; clear hB2 hB3)
  all_goals (go_wp2_with fail; go_ret2; exact ⟨rfl, HB2.out⟩)
end Go.Proofs.YtpnjafacoeinnaaDoor
