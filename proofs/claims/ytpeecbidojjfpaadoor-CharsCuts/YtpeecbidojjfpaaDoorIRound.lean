import Derived.Test.YtpeecbidojjfpaaDoorIRoundN
/-
  ieee: Round.
-/
namespace Go.Proofs.YtpeecbidojjfpaaDoor
open Go Go.RowKit Go.Deep


set_option maxRecDepth 100000 in
set_option maxHeartbeats 2000000 in
theorem round_any (neg : Bool) (p : Option Addr) (n cap : Nat) (zs : List Int) (w : World) (ha : Arg w p n cap zs) (hT : Tab w) (tz : Nm.tsize zs ≤ 4096) (V e : Int) (more : Bool) (hV : Nm.val zs = V) :
    Calls Tryd.prog 42 #[.bool neg, .slice p n cap, .int .i64 e, .bool more] w fun r w' => ∃ x, r = .returned (.tuple #[.int .u64 (Ie.sg neg x), .int .i64 0]) ∧ Ie.Rnd V 1 e more x ∧ Below w.heap.size w w' := by
  obtain ⟨L, hL, BL, hl, _⟩ := blen_is zs ha.2.2.2.2
  rw [hV] at BL
  have B1 := hid (bitLen_n L p n cap zs w ha hL)
  have v0 : 0 ≤ V := by rw [← hV]; exact (Nm.val_bd zs ha.2.2.2.2).1
  have WI := hid (fun (x : Int) => Ie.win_ok (n := V) (d := 1) (e := e) (x := x) (more := more) L 0 v0 BL.1 (by omega) (by decide) (by omega) (by omega))
  have W0 := hid (within_any e w)
  obtain ⟨we, hwe⟩ : ∃ we, Ie.win e = we := ⟨_, rfl⟩
  have wb := Ie.win_bd e
  rw [hwe] at wb W0 WI
  have NR := hid (nearest_any p n cap zs w ha hT tz V we more hV (by omega) (by omega))
  have l1 : decide (262144 < (L : Int)) = false := by simp; omega
  clear ha hT tz hV hL BL hl v0 hwe wb
  go_enter Tryd.func42, Tryd.ntmps42
  go_wp2_with fail
  refine B1.out.mono ?_
  rintro e' w' ⟨rfl, rfl⟩
  go_wp2_with fail
  refine W0.out.mono ?_
  rintro e' w' ⟨rfl, rfl⟩
  go_wp2_with fail
  refine NR.out.mono ?_
  rintro e' w1 ⟨x, rfl, R, hB⟩
  have bd := R.bd
  have R1 := hid (WI.out x R)
  have SG := hid (signed_any neg x w1 bd.1 (by omega))
  have HB := hid hB
  clear R bd hB
  go_wp2_with fail
  refine SG.out.mono ?_
  rintro e' w2 ⟨rfl, rfl⟩
  go_wp2_with fail
  go_ret2
  exact ⟨x, rfl, R1.out, HB.out⟩
end Go.Proofs.YtpeecbidojjfpaaDoor
