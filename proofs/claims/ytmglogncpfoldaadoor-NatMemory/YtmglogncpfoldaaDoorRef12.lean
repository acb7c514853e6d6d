/-
  THE REFERENCE's Trail; FromUint and ToUint of both.
-/
import Derived.Test.YtmglogncpfoldaaDoorRef11
namespace Go.Proofs.YtmglogncpfoldaaDoor
open Go.RowKit Go.Deep

theorem val_zero_of {zs : List Int} (h : ∀ j, zs.getD j 0 = 0) : Nm.val zs = 0 := by
  rw [← Nm.val_take_of_zero zs 0 (fun j _ => h j)]
  rfl

set_option maxRecDepth 20000 in
set_option maxHeartbeats 2000000 in
theorem refTrail_any (p : Option Addr) (n cap : Nat) (zs : List Int) (w : World) (ha : Arg w p n cap zs) :
    Calls Tryd.prog 20 #[.slice p n cap] w fun e w' => (∃ t : Nat, e = .returned (.int .i64 (t : Int)) ∧ Nm.Trl (Nm.val zs) t) ∧ w' = w := by
  obtain ⟨a1, a2, a3, a4, a5⟩ := ha
  rcases a4 with rfl | ⟨b, off, rfl, hcell⟩
  · have hn0 : n = 0 := by simpa using a1.symm
    subst hn0
    clear a1 a5
    go_enter Tryd.func20, Tryd.ntmps20
    go_wp2
    refine wp_loop_rounds 1 ?_
    rw [rounds_succ]
    go_wp2
    go_ret
    exact ⟨⟨0, rfl, .inl ⟨rfl, rfl⟩⟩, rfl⟩
  · have H : Hid (zs.length = n) := a1
    have HC : Hid (∀ i, i < zs.length → w.cell? ⟨b, off + i, none⟩ = some (.int .u64 (zs.getD i 0))) := hcell
    have HL := hid a5
    clear a1 hcell a5
    go_enter Tryd.func20, Tryd.ntmps20
    go_wp2
    go_loop [3] (fun i => ∃ k : Nat, k ≤ n ∧ i = .int .i64 k ∧ Hid (∀ j, j < k → zs.getD j 0 = 0)) (fun i => n - (intOf i).toNat)
    case atStart => exact ⟨0, Nat.zero_le _, rfl, fun j hj => by omega⟩
    case round =>
      obtain ⟨k, hk, rfl, Z⟩ := hrel
      by_cases hlt : k < n
      · have hlt' : (k : Int) < (n : Int) := by omega
        obtain ⟨x, hx, X⟩ : ∃ x, w.cell? ⟨b, off + k, none⟩ = some (.int .u64 x) ∧ Hid (x = zs.getD k 0) := ⟨_, HC.out k (by have := H.out; omega), rfl⟩
        have hx0 : 0 ≤ x := by have := HL.out.at k; have := X.out; omega
        have hx1 : x < 18446744073709551616 := by have := HL.out.at k; have := X.out; omega
        by_cases hz : x = 0
        · have hz' : (x != 0) = false := by simp [hz]
          have Z2 : Hid (∀ j, j < k + 1 → zs.getD j 0 = 0) := by
            intro j hj
            by_cases e : j = k
            · rw [e, ← X.out]; exact hz
            · exact Z.out j (by omega)
          clear hz
          go_wp2
          go_round
          case rel => exact ⟨k + 1, by omega, by go_num, Z2.out⟩
          case measure => simp [intOf]; omega
        · have hz' : (x != 0) = true := by simp [hz]
          have XP : Hid (0 < x) := by show 0 < x; omega
          have FIN : Hid (∀ (c : Nat) (m : Int), x = 2 ^ c * (2 * m + 1) → c ≤ 63 → Nm.Trl (Nm.val zs) (64 * k + c)) := fun c m h hc => Nm.trl_at zs k c m (by have := H.out; omega) Z.out (by rw [← X.out]; exact h) hc
          have CB : Hid (∀ (c : Nat) (y : Int), 1 ≤ y → x = 2 ^ c * y → c ≤ 63) := by
            intro c y hy h
            rcases Nat.lt_or_ge c 64 with h1 | h1
            · omega
            · exfalso
              have h2 := Nm.two_mono h1
              rw [Nm.two_64] at h2
              have h3 : (2 : Int) ^ c * 1 ≤ 2 ^ c * y := Int.mul_le_mul_of_nonneg_left hy (by omega)
              omega
          have hkb : k ≤ 17592186044000 := by omega
          clear hz
          go_wp2_with fail
          go_loop [4, 5] (fun s y => ∃ (c S : Nat) (v : Int), Hid (S = 64 * k + c) ∧ S ≤ 1125899906842688 ∧ s = .int .i64 S ∧ y = .int .u64 v ∧ 1 ≤ v ∧ v ≤ x ∧ Hid (x = 2 ^ c * v)) (fun _ y => (intOf y).toNat)
          case atStart => exact ⟨0, 64 * k, x, rfl, by omega, by first | rfl | go_num, rfl, by have := XP.out; omega, by omega, by simp [Hid]⟩
          case round =>
            obtain ⟨c, S, v, HS, hS, rfl, rfl, hv1, hv2, HX⟩ := hrel
            have hc63 := CB.out c v hv1 HX.out
            by_cases hodd : v % 2 = 0
            · have hodd' : (v % 2 == 0) = true := by simp [hodd]
              obtain ⟨u, hu, U⟩ : ∃ u, v / 2 = u ∧ Hid (u = v / 2) := ⟨_, rfl, rfl⟩
              have hu1 : 1 ≤ u := by omega
              have huv : u < v := by omega
              have HX2 : Hid (x = 2 ^ (c + 1) * u) := by
                rw [Hid, Nm.two_succ, HX.out, Int.mul_assoc, Int.mul_left_comm]
                congr 1
                omega
              have hc2 := CB.out (c + 1) u hu1 HX2.out
              have hS2 : S + 1 ≤ 1125899906842688 := by have := HS.out; omega
              clear hodd
              go_wp2
              go_round
              case rel => exact ⟨c + 1, S + 1, u, by have := HS.out; show _ = _; omega, hS2, by go_num, by rw [hu], hu1, by omega, HX2.out⟩
              case measure => simp [intOf]; omega
            · have hodd' : (v % 2 == 0) = false := by simp; omega
              have E : Hid (Nm.Trl (Nm.val zs) S) := by
                rw [HS.out]
                exact FIN.out c (v / 2) (by rw [HX.out]; congr 1; omega) hc63
              clear hodd
              go_wp2
              go_ret
              exact ⟨⟨S, rfl, E.out⟩, rfl⟩
      · have hlt' : ¬ (k : Int) < (n : Int) := by omega
        have E : Hid (Nm.Trl (Nm.val zs) 0) := by
          refine .inl ⟨val_zero_of (fun j => ?_), rfl⟩
          by_cases hj : j < k
          · exact Z.out j hj
          · simp [List.getD, List.getElem?_eq_none (show zs.length ≤ j by have := H.out; omega)]
        go_wp2
        go_ret
        exact ⟨⟨0, rfl, E.out⟩, rfl⟩
end Go.Proofs.YtmglogncpfoldaaDoor
