/-
  strtod: convert, Exact, Double.
-/
import Derived.Test.YtjkefcikepnbpaaGreatDoorWAU
import Derived.Deep.RegionHeld3
namespace Go.Proofs.YtjkefcikepnbpaaGreatDoor
open Go Go.RowKit Go.Deep

/-- What Exact and Double tell. -/
def ConvTold (neg : Bool) (xs : List Int) (e y : Int) (w : World) (r : Ending) (w' : World) : Prop :=
  r = .returned (.tuple #[.int .u64 (if Sc.IsDec xs e then Ie.sg neg y else 0), .int .i64 (errOf xs e)]) ∧ Below w.heap.size w w'

theorem nmd_pos10 {neg : Bool} {xs : List Int} {e : Int} (h : Sc.IsDec xs e) : nmd neg xs e = Sc.nrm neg xs e := by unfold nmd; rw [if_pos h]

set_option maxRecDepth 100000 in
set_option maxHeartbeats 1000000 in
theorem convert_any10 (q neg : Bool) (s : ByteArray) (xs : List Int) (e y : Int) (b : Nat) (w : World) (hT : Tab w) (hX : q = true → Tens w) (hb : RL q w b) (hs : Str s xs) (hn : xs.length ≤ 281474976710654) (hy : Dr xs e y) :
    Calls Tryz.prog 32 #[decV neg s e, .slice (some ⟨b, 0, none⟩) (ln q) (ln q)] w fun r w' => ConvTold neg xs e y w r w' := by
  have NM := hid (fun wx => norm_any neg s xs e wx hs (by omega))
  have Z := hid (DX.new w neg s e)
  have TV : Hid (Sc.IsDec xs e → ∀ t wx, Str t (nmd neg xs e).ds → Below w.heap.size w wx → Calls Tryz.prog 35 #[.agg #[.bool (nmd neg xs e).neg, .string t, .int .i64 (nmd neg xs e).e], .slice (some ⟨b, 0, none⟩) (ln q) (ln q)] wx fun r w' => TravTold q neg (nmd neg xs e).ds (nmd neg xs e).e y wx r w') := fun hd t wx ht hB => by
    have e0 := nmd_pos10 (neg := neg) hd
    have ln := Sc.nrm_len neg xs e
    have := travel_any10 q (nmd neg xs e).neg t (nmd neg xs e).ds (nmd neg xs e).e y b wx (hT.below hB) (fun h => (hX h).below hB) (hb.below hB) ht (by rw [e0]; omega) (by rw [e0]; exact nml_nrm neg hd) (by rw [e0]; exact hy.nrm')
    rw [show (nmd neg xs e).neg = neg by rw [e0]; exact Sc.nrm_neg neg xs e] at this ⊢
    exact this
  have F0 : Hid (¬ Sc.IsDec xs e → ∀ w', Below w.heap.size w w' → ConvTold neg xs e y w (.returned (.tuple #[.int .u64 0, .int .i64 80])) w') := fun h w' k => ⟨by unfold errOf; rw [if_neg h, if_neg h], k⟩
  have F1 : Hid (Sc.IsDec xs e → ∀ w', Below w.heap.size w w' → ConvTold neg xs e y w (.returned (.tuple #[.int .u64 (Ie.sg neg y), .int .i64 0])) w') := fun h w' k => ⟨by unfold errOf; rw [if_pos h, if_pos h], k⟩
  unfold decV at *
  clear hs hn hy hT hX hb
  generalize ln q = L at *
  go_enter Tryz.func32, Tryz.ntmps32
  go_upto_region 1 with fail
  generalize hW : w.alloc (.cells #[.bool neg, .string s, .int .i64 e] 25) = W at *
  clear hW
  obtain ⟨c0, c1, c2⟩ := Z.out.three
  go_wp2_with fail
  with_reducible refine (NM.out _).mono ?_
  rintro r w1 ⟨v, rfl, ⟨t, rfl, ht⟩, hB⟩
  unfold decV
  have Z1 := hid (Z.out.on hB)
  have S1 := hid (Z1.out.put (nmd neg xs e).neg t (nmd neg xs e).e)
  clear c0 c1 c2 hB
  obtain ⟨⟨c0, c1, c2⟩, f0, f1, f2⟩ := Z1.out.2.2.cells
  by_cases hd : Sc.IsDec xs e
  · have E0 : errOf xs e = 0 := by unfold errOf; rw [if_pos hd]
    rw [E0]
    have T1 := hid (fun wx => TV.out hd t wx ht)
    have F := hid (F1.out hd)
    clear E0 ht hd TV F0 F1 NM Z Z1
    generalize nmd neg xs e = N at *
    go_upto_region 4 with fail
    generalize hW : ((w1.setCell ⟨w.heap.size, 0, none⟩ (.bool N.neg)).setCell ⟨w.heap.size, 1, none⟩ (.string t)).setCell ⟨w.heap.size, 2, none⟩ (.int .i64 N.e) = W1 at *
    clear hW c0 c1 c2 f0 f1 f2
    obtain ⟨c0, c1, c2⟩ := S1.out.three
    have b1 := S1.out.1
    go_wp2_with fail
    with_reducible refine (T1.out _ b1).mono ?_
    rintro r w2 ⟨k, _, rfl, hB⟩
    have B2 := hid (below_on b1 hB)
    clear hB b1 c0 c1 c2 S1 T1
    go_wp2_with fail
    go_ret2
    exact F.out _ B2.out
  · have E0 : errOf xs e = 80 := by unfold errOf; rw [if_neg hd]
    rw [E0]
    have F := hid (F0.out hd)
    clear E0 ht hd TV F0 F1 NM Z Z1
    generalize nmd neg xs e = N at *
    go_wp2_with fail
    go_ret2
    exact F.out _ S1.out.1

set_option maxRecDepth 100000 in
set_option maxHeartbeats 1000000 in
theorem exact_bare10 (neg : Bool) (s : ByteArray) (xs : List Int) (e y : Int) (w : World) (hT : Tab w) (hs : Str s xs) (hn : xs.length ≤ 281474976710654) (hy : Dr xs e y) :
    Calls Tryz.prog 10 #[decV neg s e] w fun r w' => ConvTold neg xs e y w r w' := by
  have CV : Hid (∀ b wx, Below w.heap.size w wx → RL false wx b → Calls Tryz.prog 32 #[decV neg s e, .slice (some ⟨b, 0, none⟩) 1 1] wx fun r w' => ConvTold neg xs e y wx r w') := fun b wx k h => convert_any10 false neg s xs e y b wx (hT.below k) (fun h => absurd h (by simp)) h hs hn hy
  have Z := hid (DX.new w neg s e)
  have RN : Hid (∀ wx t, Below w.heap.size w wx → Below w.heap.size w (wx.alloc (.cells #[.iface 61 (.agg #[])] t)) ∧ RL false (wx.alloc (.cells #[.iface 61 (.agg #[])] t)) wx.heap.size) := fun wx t k => ⟨below_on k (alloc_b _ _), by simp, by
    have h : RX (wx.alloc (.cells #[.iface 61 (.agg #[])] t)) wx.heap.size := by unfold RX; simp
    exact h⟩
  have FF : Hid (∀ w1 w' X E, Below w.heap.size w w1 → ConvTold neg xs e y w1 (.returned (.tuple #[.int .u64 X, .int .i64 E])) w' → ConvTold neg xs e y w (.returned (.tuple #[.int .u64 X, .int .i64 E])) w') := fun w1 w' X E k h => ⟨h.1, below_on k h.2⟩
  unfold decV at *
  clear hs hn hy hT
  go_enter Tryz.func10, Tryz.ntmps10
  go_upto_region 1 with fail
  generalize hW : w.alloc (.cells #[.bool neg, .string s, .int .i64 e] 25) = W at *
  clear hW
  obtain ⟨c0, c1, c2⟩ := Z.out.three
  have R1 := hid (fun t => RN.out W t Z.out.1)
  clear RN Z
  go_wp2_with fail
  with_reducible refine (CV.out _ _ (R1.out _).1 (R1.out _).2).mono ?_
  rintro r w1 ⟨rfl, hB⟩
  have F := hid (FF.out _ w1 _ _ (R1.out _).1 ⟨rfl, hB⟩)
  clear hB FF R1 CV c0 c1 c2
  generalize (if Sc.IsDec xs e then Ie.sg neg y else 0) = X at *
  generalize errOf xs e = E at *
  go_wp2_with fail
  go_ret2
  exact F.out

end Go.Proofs.YtjkefcikepnbpaaGreatDoor
