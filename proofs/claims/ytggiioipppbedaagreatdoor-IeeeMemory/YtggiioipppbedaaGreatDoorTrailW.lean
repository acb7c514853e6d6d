/-
  math/bits.TrailingZeros64 AND Trail.
-/
import Derived.Test.YtggiioipppbedaaGreatDoorBlenIs
import Derived.Shelf.Spec.TrailingZeros
import Derived.Laws.Bits64b
import Derived.Lib.ItoaNum
namespace Go.Proofs.YtggiioipppbedaaGreatDoor
open Go.RowKit Go.Deep

/-- The kit's contract for TrailingZeros64, laid at this program. -/
def tzRen : Go.Shelf.Ren := ⟨fun _ => 70, fun t => if t = 22 then 25 else if t = 25 then 85 else if t = 54 then 89 else if t = 5 then 5 else if t = 4 then 4 else if t = 0 then 0 else 3, fun _ => 0⟩
theorem tzLays : Lays7.n29 Tryz.prog tzRen where
  mixed := by kernel_rfl
  f29 := by kernel_rfl
  t0 := by kernel_rfl
  a0 := fun _ => by kernel_rfl
  z0 := fun _ => by kernel_rfl
  v0 := fun _ => by kernel_rfl
  i0 := by kernel_rfl
  t3 := by kernel_rfl
  a3 := fun _ => by kernel_rfl
  z3 := fun _ => by kernel_rfl
  v3 := fun _ => by kernel_rfl
  i3 := by kernel_rfl
  t4 := by kernel_rfl
  a4 := fun _ => by kernel_rfl
  z4 := fun _ => by kernel_rfl
  v4 := fun _ => by kernel_rfl
  i4 := by kernel_rfl
  t5 := by kernel_rfl
  a5 := fun _ => by kernel_rfl
  z5 := fun _ => by kernel_rfl
  v5 := fun _ => by kernel_rfl
  i5 := by kernel_rfl
  t22 := by kernel_rfl
  a22 := fun _ => by kernel_rfl
  z22 := fun _ => by kernel_rfl
  v22 := fun _ => by kernel_rfl
  i22 := by kernel_rfl
  t25 := by kernel_rfl
  a25 := fun _ => by kernel_rfl
  z25 := fun _ => by kernel_rfl
  v25 := fun _ => by kernel_rfl
  i25 := by kernel_rfl
  t54 := by kernel_rfl
  a54 := fun _ => by kernel_rfl
  z54 := fun _ => by kernel_rfl
  g1 := by kernel_rfl

/-- The table that TrailingZeros64 reads. -/
def Tab (w : World) : Prop := TabAt 0 Lib.deBruijn64tab w

theorem Tab.below {w w' : World} (h : Tab w) (hb : Below w.heap.size w w') : Tab w' := by
  intro j hj
  have hc := h j hj
  rw [hb.cell (p := ⟨0, j, none⟩) (cell_lt hc)]
  exact hc

theorem tz64 (x : Int) (w : World) (h0 : 0 < x) (h1 : x < 18446744073709551616) (hT : Tab w) :
    Calls Tryz.prog 70 #[.int .u64 x] w fun e w' => ∃ (t : Nat) (m : Int), e = .returned (.int .i64 t) ∧ t ≤ 63 ∧ Hid (x = 2 ^ t * (2 * m + 1)) ∧ w' = w := by
  obtain ⟨n, rfl⟩ := Int.eq_ofNat_of_zero_le (show 0 ≤ x by omega)
  refine (Any7.bits_TrailingZeros64 tzLays n (by omega) w (fun _ => hT)).mono ?_
  rintro e w' ⟨rfl, rfl⟩
  obtain ⟨m, hm, hlt⟩ := Lib.ctzFrom_spec 64 n (by omega) (by simpa using (show n < 18446744073709551616 by omega))
  refine ⟨Lib.ctzFrom 64 n, m, by rw [Lib.ctz, if_neg (by omega)], by omega, ?_, rfl⟩
  show (n : Int) = _
  have e : ((2 ^ Lib.ctzFrom 64 n * (2 * m + 1) : Nat) : Int) = 2 ^ Lib.ctzFrom 64 n * (2 * (m : Int) + 1) := by simp
  rw [← e, ← hm]

set_option maxHeartbeats 1000000 in
theorem trail_any (p : Option Addr) (n cap : Nat) (zs : List Int) (w : World) (ha : Arg w p n cap zs) (hT : Tab w) :
    Calls Tryz.prog 92 #[.slice p n cap] w fun e w' => ∃ t : Nat, e = .returned (.int .i64 t) ∧ Nm.Trl (Nm.val zs) t ∧ w' = w := by
  obtain ⟨a1, a2, a3, a4, a5⟩ := ha
  rcases a4 with rfl | ⟨b, off, rfl, hcell⟩
  · have hn0 : n = 0 := by simpa using a1.symm
    subst hn0
    go_enter Tryz.func92, Tryz.ntmps92
    go_wp2
    refine wp_loop_rounds 1 ?_
    rw [rounds_succ]
    go_wp2
    go_ret
    exact ⟨0, rfl, .inl ⟨rfl, rfl⟩, rfl⟩
  · have H := hid a1
    have HC := hid hcell
    have HT := hid hT
    clear a1 hcell hT
    go_enter Tryz.func92, Tryz.ntmps92
    go_wp2
    go_loop [7] (fun t => ∃ k : Nat, k ≤ n ∧ t = .int .i64 k ∧ Hid (∀ j, j < k → zs.getD j 0 = 0)) (fun t => n - (intOf t).toNat)
    case atStart => exact ⟨0, Nat.zero_le _, rfl, fun j hj => by omega⟩
    case round =>
      obtain ⟨k, hk, rfl, hz⟩ := hrel
      by_cases hlt : k < n
      · obtain ⟨x, hx, X⟩ : ∃ x, w.cell? ⟨b, off + k, none⟩ = some (.int .u64 x) ∧ Hid (x = zs.getD k 0) := ⟨_, HC.out k (by have := H.out; omega), rfl⟩
        by_cases hx0 : x = 0
        · have hx0' : (x != 0) = false := by simp [hx0]
          have X0 := hid hx0
          clear hx0
          go_wp2
          go_round
          case rel =>
            refine ⟨k + 1, by omega, by go_num, fun i hi => ?_⟩
            by_cases e : i = k
            · subst e; rw [← X.out]; exact X0.out
            · exact hz.out i (by omega)
          case measure => simp [intOf]; omega
        · have hx0' : (x != 0) = true := by simp [hx0]
          have hxb := a5.at k
          rw [← X.out] at hxb
          have hx1 : 0 < x := by omega
          obtain ⟨hxa, hxb⟩ := hxb
          go_wp2_with fail
          refine (tz64 x _ hx1 hxb HT.out).mono ?_
          rintro e w' ⟨t, m, rfl, ht, E, rfl⟩
          go_wp2_with fail
          go_ret
          refine ⟨64 * k + t, retI (by omega), Nm.trl_at zs k t m (by have := H.out; omega) hz.out (by rw [← X.out]; exact E.out) ht, rfl⟩
      · have E : Hid (Nm.val zs = 0) := by
          have h0 : Nm.tsize zs = 0 := Nm.tsize_unique zs 0 (fun j _ => by
            by_cases hj : j < k
            · exact hz.out j hj
            · simp [List.getD, List.getElem?_eq_none (show zs.length ≤ j by have := H.out; omega)]) (.inl rfl)
          exact (Nm.tsize_zero_iff a5).1 h0
        go_wp2
        go_ret
        exact ⟨0, rfl, .inl ⟨E.out, rfl⟩, rfl⟩

end Go.Proofs.YtggiioipppbedaaGreatDoor
