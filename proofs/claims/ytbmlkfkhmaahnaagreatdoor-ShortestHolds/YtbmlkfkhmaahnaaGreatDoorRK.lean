/-
  Texts put together: PTravel, PConv, LHoldsL, FTab, LTab, OpenDec.
-/
import Derived.Test.YtbmlkfkhmaahnaaGreatDoorRJ
import Derived.Deep.RegionHeld3
import Derived.Test.YtbmlkfkhmaahnaaGreatDoorRI
import Derived.Test.YtbmlkfkhmaahnaaGreatDoorRD
import Derived.Lib.LaidTab
import Derived.Test.YtbmlkfkhmaahnaaGreatDoorRF
import Derived.Test.YtbmlkfkhmaahnaaGreatDoorRB
import Derived.SizedLaws
import Derived.ProofKit
namespace Go.Proofs.YtbmlkfkhmaahnaaGreatDoor
open Go Go.RowKit Go.Deep

/-- A list of roads: the exact one alone, or the quick one ahead of it. -/
def RX (w : World) (b : Nat) : Prop := w.cell? ⟨b, 0, none⟩ = some (.iface 51 (.agg #[]))
def RQ (w : World) (b : Nat) : Prop := w.cell? ⟨b, 0, none⟩ = some (.iface 74 (.agg #[])) ∧ w.cell? ⟨b, 1, none⟩ = some (.iface 51 (.agg #[]))

theorem meth_x (w : World) : (method 348 51 (.agg #[]) "abacus/strtod.double").run Tryz.prog w = .ok (183, .agg #[]) w := by kernel_rfl
theorem meth_q (w : World) : (method 348 74 (.agg #[]) "abacus/strtod.double").run Tryz.prog w = .ok (208, .agg #[]) w := by kernel_rfl

set_option maxRecDepth 100000 in
set_option maxHeartbeats 1000000 in
theorem travel1_any10 (neg : Bool) (s : ByteArray) (xs : List Int) (e y : Int) (b : Nat) (w : World) (hT : Tab w) (hb : RX w b) (hs : Str s xs) (hn : xs.length ≤ 281474976710655) (hm : Nml xs e) (hy : Dr xs e y) :
    Calls Tryz.prog 25 #[decV neg s e, .slice (some ⟨b, 0, none⟩) 1 1] w fun r w' => r = .returned (.tuple #[.int .u64 (Ie.sg neg y), .int .i64 1]) ∧ Below w.heap.size w w' := by
  have XD := hid (fun wx (b : Below w.heap.size w wx) => xdouble_any10 neg s xs e y wx (hT.below b) hs hn hm hy)
  have b1 := alloc_b w (.cells #[.bool neg, .string s, .int .i64 e] 25)
  have Z := hid (Row3.new w (.bool neg) (.string s) (.int .i64 e))
  have c3 : w.cell? ⟨b, 0, none⟩ = some (.iface 51 (.agg #[])) := hb
  have lt := cell_lt c3
  unfold decV at *
  clear hs hn hm hy hT hb
  go_enter Tryz.func25, Tryz.ntmps25
  go_wp2_with fail
  generalize hW : w.alloc (.cells #[.bool neg, .string s, .int .i64 e] 25) = W at *
  obtain ⟨⟨c0, c1, c2⟩, _⟩ := Z.out.cells
  have c4 : W.cell? ⟨b, 0, none⟩ = some (.iface 51 (.agg #[])) := by rw [b1.cell lt]; exact c3
  clear hW c3
  go_loopw [12] (fun i wr => i = .int .i64 0 ∧ wr = W) (fun _ _ => 1)
  case atStart => exact ⟨rfl, rfl⟩
  case round =>
    obtain ⟨rfl, rfl⟩ := hrel
    have mx := meth_x
    go_wp2_with fail
    with_reducible refine (XD.out _ b1).mono ?_
    rintro r w1 ⟨rfl, hB⟩
    have B1 := hid (below_on b1 hB)
    clear hB b1 XD c0 c1 c2 c4
    go_wp2_with fail
    go_ret2
    exact ⟨rfl, B1.out⟩

/-- A Dec in its box. -/
def DX (w wx : World) (b : Nat) (neg : Bool) (s : ByteArray) (e : Int) : Prop := Below w.heap.size w wx ∧ w.heap.size ≤ b ∧ Row3 wx b (.bool neg) (.string s) (.int .i64 e)
theorem DX.new (w : World) (neg : Bool) (s : ByteArray) (e : Int) : DX w (w.alloc (.cells #[.bool neg, .string s, .int .i64 e] 25)) w.heap.size neg s e := ⟨alloc_b _ _, Nat.le_refl _, Row3.new _ _ _ _⟩
theorem DX.new' {w w1 : World} (h : Below w.heap.size w w1) (neg : Bool) (s : ByteArray) (e : Int) : DX w (w1.alloc (.cells #[.bool neg, .string s, .int .i64 e] 25)) w1.heap.size neg s e := ⟨below_on h (alloc_b _ _), h.size, Row3.new _ _ _ _⟩
theorem DX.on {w wx wy : World} {b : Nat} {neg : Bool} {s : ByteArray} {e : Int} (h : DX w wx b neg s e) (k : Below wx.heap.size wx wy) : DX w wy b neg s e := ⟨below_on h.1 k, h.2.1, h.2.2.below k h.2.2.lt⟩
theorem DX.drew {w wx : World} {b : Nat} {neg : Bool} {s : ByteArray} {e : Int} (h : DX w wx b neg s e) : DX w wx.drew b neg s e := h.on (below_drewN (Below.refl _ _) 1)
theorem DX.three {w wx : World} {b : Nat} {neg : Bool} {s : ByteArray} {e : Int} (h : DX w wx b neg s e) : wx.cell? ⟨b, 0, none⟩ = some (.bool neg) ∧ wx.cell? ⟨b, 1, none⟩ = some (.string s) ∧ wx.cell? ⟨b, 2, none⟩ = some (.int .i64 e) := h.2.2.cells.1
theorem DX.put {w wx : World} {b : Nat} {neg : Bool} {s : ByteArray} {e : Int} (h : DX w wx b neg s e) (neg' : Bool) (s' : ByteArray) (e' : Int) : DX w (((wx.setCell ⟨b, 0, none⟩ (.bool neg')).setCell ⟨b, 1, none⟩ (.string s')).setCell ⟨b, 2, none⟩ (.int .i64 e')) b neg' s' e' := ⟨set3_below h.1 h.2.1, h.2.1, h.2.2.put _ _ _⟩

def RL (q : Bool) (w : World) (b : Nat) : Prop := b < w.heap.size ∧ (if q = true then RQ w b else RX w b)
def ln (q : Bool) : Nat := if q = true then 2 else 1
theorem RL.below {q : Bool} {w w' : World} {b : Nat} (h : RL q w b) (k : Below w.heap.size w w') : RL q w' b := by
  refine ⟨Nat.lt_of_lt_of_le h.1 k.size, ?_⟩
  have h2 := h.2
  cases q with
  | true =>
    have h3 : RQ w b := h2
    have h4 : RQ w' b := ⟨by rw [k.cell (p := ⟨b, 0, none⟩) h.1]; exact h3.1, by rw [k.cell (p := ⟨b, 1, none⟩) h.1]; exact h3.2⟩
    exact h4
  | false =>
    have h3 : RX w b := h2
    have h4 : RX w' b := by unfold RX; rw [k.cell (p := ⟨b, 0, none⟩) h.1]; exact h3
    exact h4

/-- What travel tells: the double, and which road told it. -/
def TravTold (q neg : Bool) (xs : List Int) (e y : Int) (w : World) (r : Ending) (w' : World) : Prop :=
  ∃ k : Int, (q = true → ∃ su x, TellIs xs e x su ∧ k = if su = true then 1 else 2) ∧ r = .returned (.tuple #[.int .u64 (Ie.sg neg y), .int .i64 k]) ∧ Below w.heap.size w w'

def TS (w : World) (b : Nat) (neg : Bool) (s : ByteArray) (xs : List Int) (e : Int) (j : Nat) (wr : World) : Prop := DX w wr w.heap.size neg s e ∧ RL true wr b ∧ (j = 0 ∨ (j = 1 ∧ ∃ x, TellIs xs e x false))

set_option maxRecDepth 100000 in
set_option maxHeartbeats 1000000 in
theorem travel2_any10 (neg : Bool) (s : ByteArray) (xs : List Int) (e y : Int) (b : Nat) (w : World) (hT : Tab w) (hX : Tens w) (hb : RL true w b) (hs : Str s xs) (hn : xs.length ≤ 281474976710655) (hm : Nml xs e) (hy : Dr xs e y) :
    Calls Tryz.prog 25 #[decV neg s e, .slice (some ⟨b, 0, none⟩) 2 2] w fun r w' => TravTold true neg xs e y w r w' := by
  have XD := hid (fun wx (b : Below w.heap.size w wx) => xdouble_any10 neg s xs e y wx (hT.below b) hs hn hm hy)
  have QD := hid (fun wx (b : Below w.heap.size w wx) => qdouble_any10 neg s xs e y wx (hT.below b) (hX.below b) hs hn hm hy)
  have ST : Hid (TS w b neg s xs e 0 (w.alloc (.cells #[.bool neg, .string s, .int .i64 e] 25))) := ⟨DX.new _ _ _ _, hb.below (alloc_b _ _), .inl rfl⟩
  have FF : Hid (∀ su x w', TellIs xs e x su → Below w.heap.size w w' → TravTold true neg xs e y w (.returned (.tuple #[.int .u64 (Ie.sg neg y), .int .i64 (if su = true then 1 else 2)])) w') := fun su x w' h k => ⟨_, fun _ => ⟨su, x, h, rfl⟩, rfl, k⟩
  unfold decV at *
  have mx := meth_x
  have mq := meth_q
  clear hs hn hm hy hT hX hb
  go_enter Tryz.func25, Tryz.ntmps25
  go_wp2_with fail
  generalize hW : w.alloc (.cells #[.bool neg, .string s, .int .i64 e] 25) = W at *
  clear hW
  go_loopw [12] (fun i wr => ∃ j : Nat, i = .int .i64 j ∧ Hid (TS w b neg s xs e j wr)) (fun i _ => 2 - (intOf i).toNat)
  case atStart => exact ⟨0, rfl, ST.out⟩
  case round =>
    clear ST
    obtain ⟨j, rfl, I⟩ := hrel
    obtain ⟨i1, i2, i3⟩ := I.out
    have b1 := i1.1
    obtain ⟨c0, c1, c2⟩ := i1.three
    obtain ⟨c3, c4⟩ : RQ wr b := i2.2
    have HD := hid i1
    have HL := hid i2
    clear i1 i2 I
    rcases i3 with rfl | ⟨rfl, hsu⟩
    · go_wp2_with fail
      with_reducible refine (QD.out _ b1).mono ?_
      rintro r w1 ⟨su, ⟨x, hx⟩, rfl, hB⟩
      have B1 := hid (below_on b1 hB)
      cases su with
      | true =>
        have F := hid (FF.out true x w1 hx B1.out)
        clear hB b1 hx XD QD c0 c1 c2 c3 c4 HD HL FF
        go_wp2_with fail
        go_ret2
        exact F.out
      | false =>
        have S2 : Hid (TS w b neg s xs e 1 w1) := ⟨HD.out.on hB, HL.out.below hB, .inr ⟨rfl, x, hx⟩⟩
        clear hB b1 hx XD QD c0 c1 c2 c3 c4 HD HL FF
        go_wp2_with fail
        go_roundw
        case rel => exact ⟨1, rfl, S2.out⟩
        case measure => simp [intOf]
    · obtain ⟨x, hx⟩ := hsu
      have HX := hid hx
      clear hx
      go_wp2_with fail
      with_reducible refine (XD.out _ b1).mono ?_
      rintro r w1 ⟨rfl, hB⟩
      have F := hid (FF.out false x w1 HX.out (below_on b1 hB))
      clear hB b1 XD QD c0 c1 c2 c3 c4 HD HL FF HX
      go_wp2_with fail
      go_ret2
      exact F.out

theorem travel_any10 (q neg : Bool) (s : ByteArray) (xs : List Int) (e y : Int) (b : Nat) (w : World) (hT : Tab w) (hX : q = true → Tens w) (hb : RL q w b) (hs : Str s xs) (hn : xs.length ≤ 281474976710655) (hm : Nml xs e) (hy : Dr xs e y) :
    Calls Tryz.prog 25 #[decV neg s e, .slice (some ⟨b, 0, none⟩) (ln q) (ln q)] w fun r w' => TravTold q neg xs e y w r w' := by
  cases q with
  | true => exact travel2_any10 neg s xs e y b w hT (hX rfl) hb hs hn hm hy
  | false =>
    refine (travel1_any10 neg s xs e y b w hT hb.2 hs hn hm hy).mono ?_
    rintro r w' ⟨rfl, hB⟩
    exact ⟨1, fun h => absurd h (by simp), rfl, hB⟩

set_option maxRecDepth 100000 in
theorem roads_any10 (w : World) : Calls Tryz.prog 23 #[] w fun r w' => (∃ b, r = .returned (.slice (some ⟨b, 0, none⟩) 2 2) ∧ RL true w' b) ∧ Below w.heap.size w w' := by
  have F : Hid (∀ t, (∃ b, Ending.returned (.slice (some ⟨w.heap.size, 0, none⟩) 2 2) = .returned (.slice (some ⟨b, 0, none⟩) 2 2) ∧ RL true (w.alloc (.cells #[.iface 74 (.agg #[]), .iface 51 (.agg #[])] t)) b) ∧ Below w.heap.size w (w.alloc (.cells #[.iface 74 (.agg #[]), .iface 51 (.agg #[])] t))) := fun t => ⟨⟨_, rfl, by simp, by
    have h : RQ (w.alloc (.cells #[.iface 74 (.agg #[]), .iface 51 (.agg #[])] t)) w.heap.size := ⟨by simp, by simp⟩
    exact h⟩, alloc_b _ _⟩
  go_enter Tryz.func23, Tryz.ntmps23
  go_wp2_with fail
  go_ret
  exact F.out _
end Go.Proofs.YtbmlkfkhmaahnaaGreatDoor

namespace Go.Proofs.YtbmlkfkhmaahnaaGreatDoor
open Go Go.RowKit Go.Deep

/-- What Exact and Double tell. -/
def ConvTold (neg : Bool) (xs : List Int) (e y : Int) (w : World) (r : Ending) (w' : World) : Prop :=
  r = .returned (.tuple #[.int .u64 (if Sc.IsDec xs e then Ie.sg neg y else 0), .int .i64 (errOf xs e)]) ∧ Below w.heap.size w w'

theorem nmd_pos10 {neg : Bool} {xs : List Int} {e : Int} (h : Sc.IsDec xs e) : nmd neg xs e = Sc.nrm neg xs e := by unfold nmd; rw [if_pos h]

set_option maxRecDepth 100000 in
set_option maxHeartbeats 1000000 in
theorem convert_any10 (q neg : Bool) (s : ByteArray) (xs : List Int) (e y : Int) (b : Nat) (w : World) (hT : Tab w) (hX : q = true → Tens w) (hb : RL q w b) (hs : Str s xs) (hn : xs.length ≤ 281474976710654) (hy : Dr xs e y) :
    Calls Tryz.prog 22 #[decV neg s e, .slice (some ⟨b, 0, none⟩) (ln q) (ln q)] w fun r w' => ConvTold neg xs e y w r w' := by
  have NM := hid (fun wx => norm_any neg s xs e wx hs (by omega))
  have Z := hid (DX.new w neg s e)
  have TV : Hid (Sc.IsDec xs e → ∀ t wx, Str t (nmd neg xs e).ds → Below w.heap.size w wx → Calls Tryz.prog 25 #[.agg #[.bool (nmd neg xs e).neg, .string t, .int .i64 (nmd neg xs e).e], .slice (some ⟨b, 0, none⟩) (ln q) (ln q)] wx fun r w' => TravTold q neg (nmd neg xs e).ds (nmd neg xs e).e y wx r w') := fun hd t wx ht hB => by
    have e0 := nmd_pos10 (neg := neg) hd
    have ln := Sc.nrm_len neg xs e
    have := travel_any10 q (nmd neg xs e).neg t (nmd neg xs e).ds (nmd neg xs e).e y b wx (hT.below hB) (fun h => (hX h).below hB) (hb.below hB) ht (by rw [e0]; omega) (by rw [e0]; exact nml_nrm neg hd) (by rw [e0]; exact hy.nrm')
    rw [show (nmd neg xs e).neg = neg by rw [e0]; exact Sc.nrm_neg neg xs e] at this ⊢
    exact this
  have F0 : Hid (¬ Sc.IsDec xs e → ∀ w', Below w.heap.size w w' → ConvTold neg xs e y w (.returned (.tuple #[.int .u64 0, .int .i64 80])) w') := fun h w' k => ⟨by unfold errOf; rw [if_neg h, if_neg h], k⟩
  have F1 : Hid (Sc.IsDec xs e → ∀ w', Below w.heap.size w w' → ConvTold neg xs e y w (.returned (.tuple #[.int .u64 (Ie.sg neg y), .int .i64 0])) w') := fun h w' k => ⟨by unfold errOf; rw [if_pos h, if_pos h], k⟩
  unfold decV at *
  clear hs hn hy hT hX hb
  generalize ln q = L at *
  go_enter Tryz.func22, Tryz.ntmps22
  go_upto_region 1 with fail
  generalize hW : w.alloc (.cells #[.bool neg, .string s, .int .i64 e] 25) = W at *
  clear hW
  obtain ⟨c0, c1, c2⟩ := Z.out.three
  go_wp2_with fail
  with_reducible refine (NM.out _).mono ?_
  rintro r w1 ⟨v, rfl, ⟨t, rfl, ht⟩, hB⟩
  unfold decV
  have Z1 := hid (Z.out.on hB)
  have S1 := hid (Z1.out.put (nmd neg xs e).neg t (nmd neg xs e).e)
  clear c0 c1 c2 hB
  obtain ⟨⟨c0, c1, c2⟩, f0, f1, f2⟩ := Z1.out.2.2.cells
  by_cases hd : Sc.IsDec xs e
  · have E0 : errOf xs e = 0 := by unfold errOf; rw [if_pos hd]
    rw [E0]
    have T1 := hid (fun wx => TV.out hd t wx ht)
    have F := hid (F1.out hd)
    clear E0 ht hd TV F0 F1 NM Z Z1
    generalize nmd neg xs e = N at *
    go_upto_region 4 with fail
    generalize hW : ((w1.setCell ⟨w.heap.size, 0, none⟩ (.bool N.neg)).setCell ⟨w.heap.size, 1, none⟩ (.string t)).setCell ⟨w.heap.size, 2, none⟩ (.int .i64 N.e) = W1 at *
    clear hW c0 c1 c2 f0 f1 f2
    obtain ⟨c0, c1, c2⟩ := S1.out.three
    have b1 := S1.out.1
    go_wp2_with fail
    with_reducible refine (T1.out _ b1).mono ?_
    rintro r w2 ⟨k, _, rfl, hB⟩
    have B2 := hid (below_on b1 hB)
    clear hB b1 c0 c1 c2 S1 T1
    go_wp2_with fail
    go_ret2
    exact F.out _ B2.out
  · have E0 : errOf xs e = 80 := by unfold errOf; rw [if_neg hd]
    rw [E0]
    have F := hid (F0.out hd)
    clear E0 ht hd TV F0 F1 NM Z Z1
    generalize nmd neg xs e = N at *
    go_wp2_with fail
    go_ret2
    exact F.out _ S1.out.1

set_option maxRecDepth 100000 in
set_option maxHeartbeats 1000000 in
theorem exact_bare10 (neg : Bool) (s : ByteArray) (xs : List Int) (e y : Int) (w : World) (hT : Tab w) (hs : Str s xs) (hn : xs.length ≤ 281474976710654) (hy : Dr xs e y) :
    Calls Tryz.prog 9 #[decV neg s e] w fun r w' => ConvTold neg xs e y w r w' := by
  have CV : Hid (∀ b wx, Below w.heap.size w wx → RL false wx b → Calls Tryz.prog 22 #[decV neg s e, .slice (some ⟨b, 0, none⟩) 1 1] wx fun r w' => ConvTold neg xs e y wx r w') := fun b wx k h => convert_any10 false neg s xs e y b wx (hT.below k) (fun h => absurd h (by simp)) h hs hn hy
  have Z := hid (DX.new w neg s e)
  have RN : Hid (∀ wx t, Below w.heap.size w wx → Below w.heap.size w (wx.alloc (.cells #[.iface 51 (.agg #[])] t)) ∧ RL false (wx.alloc (.cells #[.iface 51 (.agg #[])] t)) wx.heap.size) := fun wx t k => ⟨below_on k (alloc_b _ _), by simp, by
    have h : RX (wx.alloc (.cells #[.iface 51 (.agg #[])] t)) wx.heap.size := by unfold RX; simp
    exact h⟩
  have FF : Hid (∀ w1 w' X E, Below w.heap.size w w1 → ConvTold neg xs e y w1 (.returned (.tuple #[.int .u64 X, .int .i64 E])) w' → ConvTold neg xs e y w (.returned (.tuple #[.int .u64 X, .int .i64 E])) w') := fun w1 w' X E k h => ⟨h.1, below_on k h.2⟩
  unfold decV at *
  clear hs hn hy hT
  go_enter Tryz.func9, Tryz.ntmps9
  go_upto_region 1 with fail
  generalize hW : w.alloc (.cells #[.bool neg, .string s, .int .i64 e] 25) = W at *
  clear hW
  obtain ⟨c0, c1, c2⟩ := Z.out.three
  have R1 := hid (fun t => RN.out W t Z.out.1)
  clear RN Z
  go_wp2_with fail
  with_reducible refine (CV.out _ _ (R1.out _).1 (R1.out _).2).mono ?_
  rintro r w1 ⟨rfl, hB⟩
  have F := hid (FF.out _ w1 _ _ (R1.out _).1 ⟨rfl, hB⟩)
  clear hB FF R1 CV c0 c1 c2
  generalize (if Sc.IsDec xs e then Ie.sg neg y else 0) = X at *
  generalize errOf xs e = E at *
  go_wp2_with fail
  go_ret2
  exact F.out

theorem exact_any10 (neg : Bool) (s : ByteArray) (xs : List Int) (e y : Int) (w : World) (hT : Tab w) (_hX : Tens w) (hs : Str s xs) (hn : xs.length ≤ 281474976710654) (hy : Dr xs e y) :
    Calls Tryz.prog 9 #[decV neg s e] w fun r w' => ConvTold neg xs e y w r w' := exact_bare10 neg s xs e y w hT hs hn hy

set_option maxRecDepth 100000 in
set_option maxHeartbeats 1000000 in
theorem double_any10 (neg : Bool) (s : ByteArray) (xs : List Int) (e y : Int) (w : World) (hT : Tab w) (hX : Tens w) (hs : Str s xs) (hn : xs.length ≤ 281474976710654) (hy : Dr xs e y) :
    Calls Tryz.prog 10 #[decV neg s e] w fun r w' => ConvTold neg xs e y w r w' := by
  have CV : Hid (∀ b wx, Below w.heap.size w wx → RL true wx b → Calls Tryz.prog 22 #[decV neg s e, .slice (some ⟨b, 0, none⟩) 2 2] wx fun r w' => ConvTold neg xs e y wx r w') := fun b wx k h => convert_any10 true neg s xs e y b wx (hT.below k) (fun _ => hX.below k) h hs hn hy
  have RO := hid roads_any10
  have Z := hid (DX.new w neg s e)
  have FF : Hid (∀ w1 w' X E, Below w.heap.size w w1 → ConvTold neg xs e y w1 (.returned (.tuple #[.int .u64 X, .int .i64 E])) w' → ConvTold neg xs e y w (.returned (.tuple #[.int .u64 X, .int .i64 E])) w') := fun w1 w' X E k h => ⟨h.1, below_on k h.2⟩
  unfold decV at *
  clear hs hn hy hT hX
  go_enter Tryz.func10, Tryz.ntmps10
  go_upto_region 1 with fail
  generalize hW : w.alloc (.cells #[.bool neg, .string s, .int .i64 e] 25) = W at *
  clear hW
  have SD := hid Z.out.drew
  obtain ⟨X, hXX⟩ : ∃ X, (if Sc.IsDec xs e then Ie.sg neg y else 0) = X := ⟨_, rfl⟩
  obtain ⟨E, hEE⟩ : ∃ E, errOf xs e = E := ⟨_, rfl⟩
  have CT : Hid (∀ wx r w', ConvTold neg xs e y wx r w' → r = .returned (.tuple #[.int .u64 X, .int .i64 E]) ∧ Below wx.heap.size wx w') := fun wx r w' h => by rw [← hXX, ← hEE]; exact h
  have CT' : Hid (∀ wx w', Below wx.heap.size wx w' → ConvTold neg xs e y wx (.returned (.tuple #[.int .u64 X, .int .i64 E])) w') := fun wx w' h => ⟨by rw [hXX, hEE], h⟩
  clear hXX hEE
  go_region_held3 (fun w' => w'.cell? ⟨w.heap.size, 0, none⟩ = some (.bool neg) ∧ w'.cell? ⟨w.heap.size, 1, none⟩ = some (.string s) ∧ w'.cell? ⟨w.heap.size, 2, none⟩ = some (.int .i64 e)) (first | (with_reducible exact T2.out.three) | (with_reducible exact T1.out.three) | (with_reducible exact SD.out.three)) (first
    | (go_at_call 23; refine (RO.out _).mono ?_; rintro r w2 ⟨⟨b, rfl, hl⟩, hB⟩; have T1 := hid (SD.out.on hB); have HL := hid hl; have b2 := T1.out.1; clear hB hl)
    | (go_at_call 22; refine (CV.out _ _ b2 HL.out).mono ?_; intro r w3 h; obtain ⟨rfl, hB⟩ := CT.out _ _ _ h; have F := hid (FF.out _ w3 _ _ b2 (CT'.out _ _ hB)); have T2 := hid (T1.out.on hB); clear h hB b2))
  all_goals go_wp2_with fail
  all_goals go_ret2
  all_goals exact F.out
end Go.Proofs.YtbmlkfkhmaahnaaGreatDoor

namespace Go.Proofs.YtbmlkfkhmaahnaaGreatDoor
open Go Go.RowKit Go.Deep

set_option maxRecDepth 100000 in
theorem lfin_any (d : Int) (w : World) (h0 : 0 ≤ d) :
    Calls Tryz.prog 8 #[.int .u64 d] w fun e w' => e = .returned (.bool (Ie.fnt d)) ∧ w' = w := by
  have E : d.tmod 9223372036854775808 = d % 9223372036854775808 := Int.tmod_eq_emod_of_nonneg h0
  rw [Sh.fnt_iff]
  go_enter Tryz.func8, Tryz.ntmps8
  go_wp2_with fail
  go_ret
  exact ⟨by first | rfl | rw [E], rfl⟩

namespace Sh
theorem sg_b {neg : Bool} {y : Int} (h0 : 0 ≤ y) (h1 : y ≤ 9218868437227405312) : 0 ≤ Ie.sg neg y ∧ Ie.sg neg y < 18446744073709551616 ∧ Ie.sg neg y % 9223372036854775808 = y ∧ ng (Ie.sg neg y) = neg := by
  cases neg <;> simp [Ie.sg, ng] <;> omega
theorem sg_d {d : Int} (h0 : 0 ≤ d) (h1 : d < 18446744073709551616) : Ie.sg (ng d) (d % 9223372036854775808) = d := by
  unfold ng
  by_cases c : 9223372036854775808 ≤ d
  · rw [decide_eq_true c]; simp [Ie.sg]; omega
  · rw [decide_eq_false c]; simp [Ie.sg]; omega
/-- Holds is the nearest double with its sign. -/
theorem hoB_is {neg : Bool} {xs : List Int} {e d y : Int} (hd : Sc.IsDec xs e) (hf : Ie.fnt d = true) (h0 : 0 ≤ d) (h1 : d < 18446744073709551616) (hy : Dr xs e y) : hoB neg xs e d = decide (Ie.sg neg y = d) := by
  have yb := hy.bd
  have sb := sg_b (neg := neg) yb.1 yb.2
  have hfin : d % 9223372036854775808 < 9218868437227405312 := by rw [fnt_iff] at hf; exact of_decide_eq_true hf
  have hn := hold_near (a := d % 9223372036854775808) (X := ⟨false, (Sc.nrm neg xs e).ds, (Sc.nrm neg xs e).e⟩) (by omega) hfin rfl (nml_nrm neg hd)
  rw [hoB, if_pos ⟨hd, hf⟩, Bool.eq_iff_iff, Bool.and_eq_true, hn, decide_eq_true_iff]
  constructor
  · rintro ⟨q1, q2⟩
    have e1 : y = d % 9223372036854775808 := hy.one (Dr.nrm q2)
    have e2 : neg = ng d := by simpa using q1
    rw [e1, e2]
    exact sg_d h0 h1
  · intro q
    have e1 : y = d % 9223372036854775808 := by rw [← q]; exact sb.2.2.1.symm
    have e2 : neg = ng d := by rw [← q]; exact sb.2.2.2.symm
    refine ⟨by rw [← e2]; simp, ?_⟩
    rw [← e1]
    exact Dr.nrm' hy
end Sh

set_option maxRecDepth 100000 in
set_option maxHeartbeats 4000000 in
theorem holds_law (neg : Bool) (s : ByteArray) (xs : List Int) (e d : Int) (w : World) (hT : Tab w) (hT10 : Tab10 w) (h0 : 0 ≤ d) (h1 : d < 18446744073709551616) (hs : Str s xs) (hn : xs.length ≤ 140737488355328) :
    Calls Tryz.prog 4 #[.agg #[.bool neg, .string s, .int .i64 e], .int .u64 d] w fun r w' => r = .returned (.bool true) ∧ Below w.heap.size w w' := by
  have AW : Hid (∀ wx : World, Below w.heap.size w wx → Calls Tryz.prog 5 #[] wx fun e w' => e = .returned (.bool true) ∧ Below wx.heap.size wx w') := fun wx h => lawake_any wx (tab10_below hT10 h)
  obtain ⟨y, hy⟩ := dr_ex xs e
  have yb := hy.bd
  have sb := Sh.sg_b (neg := neg) yb.1 yb.2
  have EX : Hid (∀ wx : World, Below w.heap.size w wx → Calls Tryz.prog 9 #[.agg #[.bool neg, .string s, .int .i64 e]] wx fun r w' => r = .returned (.tuple #[.int .u64 (if Sc.IsDec xs e then Ie.sg neg y else 0), .int .i64 (errOf xs e)]) ∧ Below wx.heap.size wx w') := fun wx h => exact_bare10 neg s xs e y wx (hT.below h) hs (by omega) hy
  have HA := hid (fun wx : World => zhold_any neg s xs e d wx h0 h1 hs (by omega))
  unfold HoTold at HA
  have RX := hid (FR3.new w (.bool neg) (.string s) (.int .i64 e))
  have ZB := hid (alloc_b w (.cells #[.bool neg, .string s, .int .i64 e] 25))
  have LF := hid (fun wx : World => lfin_any d wx h0)
  by_cases hd : Sc.IsDec xs e
  · have E1 : errOf xs e = 0 := by rw [errOf, if_pos hd]
    rw [if_pos hd, E1] at EX
    by_cases hf : Ie.fnt d = true
    · have b1 := Sh.hoB_is (neg := neg) hd hf h0 h1 hy
      have r1 : Sh.hoE xs e d = 0 := by rw [Sh.hoE, if_pos hd, if_pos hf]
      rw [b1, r1] at HA
      rw [hf] at LF
      have HY := hid (fun wx : World => zhold_any neg s xs e (Ie.sg neg y) wx sb.1 sb.2.1 hs (by omega))
      have LG := hid (fun wx : World => lfin_any (Ie.sg neg y) wx sb.1)
      unfold HoTold at HY
      obtain ⟨gb, hgb⟩ : ∃ gb, decide (Ie.sg neg y = d) = gb := ⟨_, rfl⟩
      have gb2 : (Ie.sg neg y == d) = gb := by rw [← hgb, Bool.eq_iff_iff]; simp
      rw [hgb] at HA
      by_cases hfy : Ie.fnt (Ie.sg neg y) = true
      · have b2 := Sh.hoB_is (neg := neg) hd hfy sb.1 sb.2.1 hy
        have r2 : Sh.hoE xs e (Ie.sg neg y) = 0 := by rw [Sh.hoE, if_pos hd, if_pos hfy]
        rw [b2, r2, decide_eq_true rfl] at HY
        rw [hfy] at LG
        generalize Ie.sg neg y = g at *
        clear b1 r1 b2 r2 hd hf hfy hgb hy yb sb E1 hT hT10 hs hn
        go_enter Tryz.func4, Tryz.ntmps4
        go_wp2_with fail
        refine (AW.out _ ZB.out).mono ?_
        rintro e w1 ⟨rfl, hB⟩
        have HB1 := hid (ZB.out.trans (hB.mono ZB.out.size))
        have R1 := hid (RX.out.below hB RX.out.lt)
        obtain ⟨⟨c0, c1, c2⟩, -⟩ := R1.out.cells
        clear hB AW RX ZB
        go_wp2_with fail
        refine (HA.out _).mono ?_
        rintro e w2 ⟨rfl, hB⟩
        have HB2 := hid (HB1.out.trans (hB.mono HB1.out.size))
        have R2 := hid (R1.out.below hB R1.out.lt)
        clear c0 c1 c2
        obtain ⟨⟨c0, c1, c2⟩, -⟩ := R2.out.cells
        clear hB HA HB1 R1
        go_wp2_with fail
        refine (EX.out _ HB2.out).mono ?_
        rintro e w3 ⟨rfl, hB⟩
        have HB3 := hid (HB2.out.trans (hB.mono HB2.out.size))
        have R3 := hid (R2.out.below hB R2.out.lt)
        clear c0 c1 c2
        clear hB EX HB2 R2
        obtain ⟨⟨c0, c1, c2⟩, -⟩ := R3.out.cells
        go_wp2_with fail
        refine (LF.out _).mono ?_
        rintro e wz ⟨rfl, hz⟩
        subst hz
        go_wp2_with fail
        refine (HY.out _).mono ?_
        rintro e w4 ⟨rfl, hB⟩
        have K := hid (HB3.out.trans (hB.mono HB3.out.size))
        clear hB HY HB3 R3 c0 c1 c2
        go_wp2_with fail
        refine (LG.out _).mono ?_
        rintro e wz ⟨rfl, hz⟩
        subst hz
        cases gb <;> (go_wp2_with fail; go_ret; exact ⟨rfl, K.out⟩)
      · have hfy' : Ie.fnt (Ie.sg neg y) = false := by simpa using hfy
        rw [hfy'] at LG
        generalize Sh.hoB neg xs e (Ie.sg neg y) = b2 at *
        generalize Sh.hoE xs e (Ie.sg neg y) = r2 at *
        generalize Ie.sg neg y = g at *
        clear b1 r1 hd hf hfy hfy' hgb hy yb sb E1 hT hT10 hs hn
        go_enter Tryz.func4, Tryz.ntmps4
        go_wp2_with fail
        refine (AW.out _ ZB.out).mono ?_
        rintro e w1 ⟨rfl, hB⟩
        have HB1 := hid (ZB.out.trans (hB.mono ZB.out.size))
        have R1 := hid (RX.out.below hB RX.out.lt)
        obtain ⟨⟨c0, c1, c2⟩, -⟩ := R1.out.cells
        clear hB AW RX ZB
        go_wp2_with fail
        refine (HA.out _).mono ?_
        rintro e w2 ⟨rfl, hB⟩
        have HB2 := hid (HB1.out.trans (hB.mono HB1.out.size))
        have R2 := hid (R1.out.below hB R1.out.lt)
        clear c0 c1 c2
        obtain ⟨⟨c0, c1, c2⟩, -⟩ := R2.out.cells
        clear hB HA HB1 R1
        go_wp2_with fail
        refine (EX.out _ HB2.out).mono ?_
        rintro e w3 ⟨rfl, hB⟩
        have HB3 := hid (HB2.out.trans (hB.mono HB2.out.size))
        have R3 := hid (R2.out.below hB R2.out.lt)
        clear c0 c1 c2
        clear hB EX HB2 R2
        obtain ⟨⟨c0, c1, c2⟩, -⟩ := R3.out.cells
        go_wp2_with fail
        refine (LF.out _).mono ?_
        rintro e wz ⟨rfl, hz⟩
        subst hz
        go_wp2_with fail
        refine (HY.out _).mono ?_
        rintro e w4 ⟨rfl, hB⟩
        have K := hid (HB3.out.trans (hB.mono HB3.out.size))
        clear hB HY HB3 R3 c0 c1 c2
        go_wp2_with fail
        refine (LG.out _).mono ?_
        rintro e wz ⟨rfl, hz⟩
        subst hz
        cases gb <;> (go_wp2_with fail; go_ret; exact ⟨rfl, K.out⟩)
    · have hf' : Ie.fnt d = false := by simpa using hf
      have b1 : Sh.hoB neg xs e d = false := by rw [Sh.hoB, if_neg (fun h => hf h.2)]
      have r1 : Sh.hoE xs e d = 5 := by rw [Sh.hoE, if_pos hd, if_neg hf]
      rw [b1, r1] at HA
      rw [hf'] at LF
      generalize Ie.sg neg y = g at *
      clear b1 r1 hd hf hf' hy yb sb E1 hT hT10 hs hn
      go_enter Tryz.func4, Tryz.ntmps4
      go_wp2_with fail
      refine (AW.out _ ZB.out).mono ?_
      rintro e w1 ⟨rfl, hB⟩
      have HB1 := hid (ZB.out.trans (hB.mono ZB.out.size))
      have R1 := hid (RX.out.below hB RX.out.lt)
      obtain ⟨⟨c0, c1, c2⟩, -⟩ := R1.out.cells
      clear hB AW RX ZB
      go_wp2_with fail
      refine (HA.out _).mono ?_
      rintro e w2 ⟨rfl, hB⟩
      have HB2 := hid (HB1.out.trans (hB.mono HB1.out.size))
      have R2 := hid (R1.out.below hB R1.out.lt)
      clear c0 c1 c2
      obtain ⟨⟨c0, c1, c2⟩, -⟩ := R2.out.cells
      clear hB HA HB1 R1
      go_wp2_with fail
      refine (EX.out _ HB2.out).mono ?_
      rintro e w3 ⟨rfl, hB⟩
      have HB3 := hid (HB2.out.trans (hB.mono HB2.out.size))
      have R3 := hid (R2.out.below hB R2.out.lt)
      clear c0 c1 c2
      clear hB EX HB2 R2
      go_wp2_with fail
      refine (LF.out _).mono ?_
      rintro e wz ⟨rfl, hz⟩
      subst hz
      go_wp2_with fail
      go_ret
      exact ⟨rfl, HB3.out⟩
  · have E1 : errOf xs e = 80 := by rw [errOf, if_neg hd]
    rw [if_neg hd, E1] at EX
    have b1 : Sh.hoB neg xs e d = false := by rw [Sh.hoB, if_neg (fun h => hd h.1)]
    have r1 : Sh.hoE xs e d = 80 := by rw [Sh.hoE, if_neg hd]
    rw [b1, r1] at HA
    clear b1 r1 hd hy yb sb E1 hT hT10 hs hn
    go_enter Tryz.func4, Tryz.ntmps4
    go_wp2_with fail
    refine (AW.out _ ZB.out).mono ?_
    rintro e w1 ⟨rfl, hB⟩
    have HB1 := hid (ZB.out.trans (hB.mono ZB.out.size))
    have R1 := hid (RX.out.below hB RX.out.lt)
    obtain ⟨⟨c0, c1, c2⟩, -⟩ := R1.out.cells
    clear hB AW RX ZB
    go_wp2_with fail
    refine (HA.out _).mono ?_
    rintro e w2 ⟨rfl, hB⟩
    have HB2 := hid (HB1.out.trans (hB.mono HB1.out.size))
    have R2 := hid (R1.out.below hB R1.out.lt)
    clear c0 c1 c2
    obtain ⟨⟨c0, c1, c2⟩, -⟩ := R2.out.cells
    clear hB HA HB1 R1
    go_wp2_with fail
    refine (EX.out _ HB2.out).mono ?_
    rintro e w3 ⟨rfl, hB⟩
    have HB3 := hid (HB2.out.trans (hB.mono HB2.out.size))
    have R3 := hid (R2.out.below hB R2.out.lt)
    clear c0 c1 c2
    clear hB EX HB2 R2
    go_wp2_with fail
    go_ret
    exact ⟨rfl, HB3.out⟩
end Go.Proofs.YtbmlkfkhmaahnaaGreatDoor

namespace Go.Proofs.YtbmlkfkhmaahnaaGreatDoor
open Go Go.RowKit Go.Deep

theorem tab_laid : (Rows.laid_math_bits_deBruijn64tab : DataW Unit) = Lib.tabData .u8 (List.map Int.ofNat Lib.deBruijn64tab) := by kernel_rfl

theorem tab_of {W : World} {rest : List (String × DataW Unit)} (h : laidMet Tryz.prog (("math/bits.deBruijn64tab", Rows.laid_math_bits_deBruijn64tab) :: rest) W) : Tab W := by
  rw [tab_laid] at h
  have ht := Lib.tabIs_of_head (g := 5) (t := 184) (e := 5) (n := 64) (k := .u8) (zs := List.map Int.ofNat Lib.deBruijn64tab) (by kernel_rfl) (by kernel_rfl) Tryz.underlying184 Tryz.underlying5 (by kernel_rfl) (by kernel_rfl) h
  intro j hj
  have hl : (List.map Int.ofNat Lib.deBruijn64tab).length = Lib.deBruijn64tab.length := by simp
  rw [ht.cell (g := 5) (by kernel_rfl) j (by omega)]
  simp [List.getD, hj]

end Go.Proofs.YtbmlkfkhmaahnaaGreatDoor

namespace Go.Proofs.YtbmlkfkhmaahnaaGreatDoor
open Go Go.RowKit Go.Deep

theorem laid_tail12 {P : Program} {W : World} {x : String × DataW Unit} {rest : List (String × DataW Unit)} (h : laidMet P (x :: rest) W) : laidMet P rest W := by
  obtain ⟨ps, ⟨g, t, cs, fuel, p, q, _, _, _, _, hr, rfl⟩, hn, hc⟩ := h
  exact ⟨q, hr, (List.nodup_append.1 hn).2.1, fun b off hm => hc b off (List.mem_append_right _ hm)⟩

theorem pow_laid12 : (Rows.laid_internal_strconv_uint64pow10 : DataW Unit) = Lib.tabData .u64 Lib.pow10Tab := by kernel_rfl

theorem tables12 {W : World} {a : String × DataW Unit} {rest : List (String × DataW Unit)} (h : laidMet Tryz.prog (a :: ("math/bits.deBruijn64tab", Rows.laid_math_bits_deBruijn64tab) :: ("internal/strconv.uint64pow10", Rows.laid_internal_strconv_uint64pow10) :: rest) W) : Tab W ∧ Tab10 W := by
  have h1 := laid_tail12 h
  have h2 := laid_tail12 h1
  rw [pow_laid12] at h2
  exact ⟨tab_of h1, Lib.tabIs_of_head (g := 2) (t := 144) (e := 22) (n := 20) (by kernel_rfl) (by kernel_rfl) Tryz.underlying144 Tryz.underlying22 (by kernel_rfl) (by kernel_rfl) h2⟩
end Go.Proofs.YtbmlkfkhmaahnaaGreatDoor

namespace Go.Proofs.YtbmlkfkhmaahnaaGreatDoor
open Go.RowKit Go.Deep Go.ChangeShapes Go.WideShapes Go.ChangeAt

theorem array3 {α : Type} {cs : Array α} (h : cs.size = 3) : ∃ c0 c1 c2, cs = #[c0, c1, c2] := by
  obtain ⟨l⟩ := cs
  match l, h with
  | [c0, c1, c2], _ => exact ⟨c0, c1, c2, rfl⟩

theorem list3 {α : Type} {l : List α} (h : l.length = 3) : ∃ c0 c1 c2, l = [c0, c1, c2] := by
  match l, h with
  | [c0, c1, c2], _ => exact ⟨c0, c1, c2, rfl⟩

theorem open_dec_cells {H : Type} {enc : TypeId × Value → H} {W : World} {fuel : Nat} {a0 a1 a2 : Value} {x : DataW H × List MemPlace} (hf : DataW.trod enc Tryz.prog W 0 (fun _ => true) true fuel 25 [a0, a1, a2] = some x)
    (hsz : ∀ n ∈ x.1.weights Tryz.prog 25, n ≤ reachBytes) :
    ∃ (neg : Bool) (s : ByteArray) (e : Int), a0 = .bool neg ∧ a1 = .string s ∧ a2 = .int .i64 e ∧ s.size ≤ 140737488351232 ∧ (-9223372036854775808 ≤ e ∧ e ≤ 9223372036854775807) := by
  obtain ⟨xs, n, _, hx, _, hlen, hfs⟩ := DataW.trod_struct Tryz.underlying25 hf
  obtain ⟨y0, y1, y2, rfl⟩ := list3 hlen
  have c3 : Tryz.prog.cellsOf 3 = 1 := by kernel_rfl
  have cs : Tryz.prog.cellsOf 9 = 1 := by kernel_rfl
  have cb : Tryz.prog.cellsOf 4 = 1 := by kernel_rfl
  have f0 : DataW.trod enc Tryz.prog W 0 (fun _ => true) true n 4 [a0] = some y0 := by simpa [cb] using hfs 0 _ rfl
  have f1 : DataW.trod enc Tryz.prog W 0 (fun _ => true) true n 9 [a1] = some y1 := by simpa [cs] using hfs 1 _ rfl
  have f2 : DataW.trod enc Tryz.prog W 0 (fun _ => true) true n 3 [a2] = some y2 := by simpa [c3] using hfs 2 _ rfl
  have hd : x.1 = .agg [y0.1, y1.1, y2.1] := by rw [hx]; rfl
  obtain ⟨ng, e0, _⟩ := DataW.trod_bool Tryz.underlying4 f0
  obtain ⟨s, e1, q1, _⟩ := DataW.trod_string Tryz.underlying9 f1
  obtain ⟨E, e2, _, w2⟩ := DataW.trod_int Tryz.underlying3 f2
  have hs : s.data.toList.length ≤ reachBytes := by
    refine hsz _ ?_
    rw [hd]
    simp only [DataW.weights, Tryz.underlying25]
    refine DataW.weights_mem_each (ts := [4, 9, 3]) (ds := [y0.1, y1.1, y2.1]) (j := 1) (t := 9) (d := y1.1) rfl rfl _ ?_
    rw [q1]
    simp [DataW.weights]
  have b2 := bounds_i64 w2
  refine ⟨ng, s, E, (List.cons.inj e0).1, (List.cons.inj e1).1, (List.cons.inj e2).1, ?_, by omega, by omega⟩
  rw [Array.length_toList] at hs
  exact Nat.le_trans (show s.size ≤ reachBytes from hs) (by decide)

set_option maxRecDepth 100000 in
theorem open_dec {H : Type} {enc : TypeId × Value → H} {W : World} {base : Nat} {v : Value} {d : DataW H} {p : List MemPlace} (hv : Value.okWide Tryz.prog W .any base 25 v) (h : DataW.Trod enc Tryz.prog W 0 (fun _ => true) true 25 v d p)
    (hsz : ∀ n ∈ d.weights Tryz.prog 25, n ≤ reachBytes) :
    ∃ (neg : Bool) (s : ByteArray) (e : Int), v = decV neg s e ∧ s.size ≤ 140737488351232 ∧ (-9223372036854775808 ≤ e ∧ e ≤ 9223372036854775807) := by
  obtain ⟨cs, rfl, hs3⟩ := okWide_struct Tryz.underlying25 hv
  obtain ⟨a0, a1, a2, rfl⟩ := array3 (hs3.trans (show Tryz.prog.cellsOf 25 = 3 by kernel_rfl))
  obtain ⟨fuel, hf⟩ := h
  have hf' : DataW.trod enc Tryz.prog W 0 (fun _ => true) true fuel 25 [a0, a1, a2] = some (d, p) := by simpa [Value.cells] using hf
  obtain ⟨neg, s, e, e0, e1, e2, h1, h2⟩ := open_dec_cells (x := (d, p)) hf' hsz
  rw [e0, e1, e2]
  exact ⟨neg, s, e, rfl, h1, h2⟩

theorem str_len (s : ByteArray) {n : Nat} (h : s.size ≤ n) : (s.data.toList.map (fun b => (b.toNat : Int))).length ≤ n := by
  rw [List.length_map, Array.length_toList]; exact h
end Go.Proofs.YtbmlkfkhmaahnaaGreatDoor
