/-
  layer 2's reference: holds, takeOff.
-/
import Derived.Test.YthfechigdiefpaaQRef1
namespace Go.Proofs.Ythfechigdiefpaa
open Go.RowKit Go.Deep

theorem part_getD (rs : List Int) (j M i : Nat) (hi : i < M) : (Qd.part rs j M).getD i 0 = rs.getD (j + i) 0 := by
  rw [Qd.part, Nm.getD_take, if_pos hi]
  simp [List.getD, List.getElem?_drop]

set_option maxRecDepth 100000 in
set_option maxHeartbeats 1000000 in
/-- holds: are the limbs from place j on at least those of ms? -/
theorem holds_any (p q : Option Addr) (R cap M cap' j : Nat) (rs ms : List Int) (ji : Int) (w : World) (hr : rs.length = R) (hR : R ≤ 17592186044416) (hm : ms.length = M) (hM : 0 < M) (hjM : j + M ≤ R) (h1 : Lies w p rs) (h2 : Lies w q ms) (hlr : Nm.Limbs rs) (hlm : Nm.Limbs ms) (hji : ji = (j : Int)) :
    Calls Try.prog 66 #[.slice p R cap, .int .i64 ji, .slice q M cap'] w fun e w' => e = .returned (.bool (decide (Nm.val ms ≤ Nm.val (Qd.part rs j M)))) ∧ Below w.heap.size w w' := by
  subst hji
  obtain ⟨b, off, rfl, hbw, HC⟩ := h1.at (by omega)
  obtain ⟨b', off', rfl, hbw', HC'⟩ := h2.at (by omega)
  have PL := hid (Qd.part_length (rs := rs) (t := j) (n1 := M) (by omega))
  have HR := hid hr
  have HM := hid hm
  have HPL : Hid (Nm.Limbs (Qd.part rs j M)) := (hlr.drop j).take M
  have HML := hid hlm
  clear hr hm h1 h2 hlr hlm
  go_enter Try.func66, Try.ntmps66
  go_wp2_with fail
  go_loopw [7] (fun i wr => ∃ k : Nat, k ≤ M ∧ i = .int .i64 ((k : Int) - 1) ∧ Hid (∀ t, k ≤ t → (Qd.part rs j M).getD t 0 = ms.getD t 0) ∧ Hid (Below w.heap.size w wr)) (fun i _ => (intOf i + 1).toNat)
  case atStart => exact ⟨M, Nat.le_refl _, rfl, fun t ht => by rw [List.getD, List.getElem?_eq_none (by have := PL.out; omega), List.getD, List.getElem?_eq_none (by have := HM.out; omega)], Below.refl _ _⟩
  case round =>
    obtain ⟨k, hk, rfl, hE, HB⟩ := hrel
    by_cases hk0 : k = 0
    · subst hk0
      have E : Hid (decide (Nm.val ms ≤ Nm.val (Qd.part rs j M)) = true) := by
        have e := Nm.drop_eq_of_getD (by rw [PL.out, HM.out]) 0 hE.out
        simp only [List.drop_zero] at e
        simp only [Hid, decide_eq_true_eq]
        rw [e]
        exact Int.le_refl _
      go_wp2_with fail
      go_ret
      exact ⟨ret_bool E.out.symm, HB.out⟩
    · obtain ⟨t, rfl⟩ : ∃ t, k = t + 1 := ⟨k - 1, by omega⟩
      obtain ⟨x, hx, X⟩ : ∃ x, wr.cell? ⟨b, off + (j + t), none⟩ = some (.int .u64 x) ∧ Hid (x = (Qd.part rs j M).getD t 0) := ⟨_, (HB.out.cell (p := ⟨b, off + (j + t), none⟩) hbw).trans (HC.out (j + t) (by have := HR.out; omega)), by show _ = _; rw [part_getD rs j M t (by omega)]⟩
      obtain ⟨y, hy, Y⟩ : ∃ y, wr.cell? ⟨b', off' + t, none⟩ = some (.int .u64 y) ∧ Hid (y = ms.getD t 0) := ⟨_, (HB.out.cell (p := ⟨b', off' + t, none⟩) hbw').trans (HC'.out t (by have := HM.out; omega)), rfl⟩
      have LTS : Hid ((y < x → Nm.val ms < Nm.val (Qd.part rs j M)) ∧ (x < y → Nm.val (Qd.part rs j M) < Nm.val ms)) := by
        have hd := Nm.drop_eq_of_getD (by rw [PL.out, HM.out]) (t + 1) hE.out
        refine ⟨fun h => ?_, fun h => ?_⟩
        · exact Nm.val_lt_at HML.out HPL.out t (by have := HM.out; omega) (by rw [PL.out, HM.out]) (by rw [← X.out, ← Y.out]; exact h) hd.symm
        · exact Nm.val_lt_at HPL.out HML.out t (by have := PL.out; omega) (by rw [PL.out, HM.out]) (by rw [← X.out, ← Y.out]; exact h) hd
      have htR : (j : Int) + (t : Int) < (R : Int) := by omega
      have htM : (t : Int) < (M : Int) := by omega
      by_cases hxy : y < x
      · have E : Hid (decide (Nm.val ms ≤ Nm.val (Qd.part rs j M)) = true) := by
          simp only [Hid, decide_eq_true_eq]
          have := LTS.out.1 hxy
          omega
        go_wp2_with fail
        go_quiet (fail)
        go_wp2
        go_ret
        exact ⟨ret_bool E.out.symm, below_drewN HB.out _⟩
      · go_wp2_with fail
        go_quiet (fail)
        have hx2 : (wr.drewN nq).cell? ⟨b, off + (j + t), none⟩ = some (.int .u64 x) := hx
        have hy2 : (wr.drewN nq).cell? ⟨b', off' + t, none⟩ = some (.int .u64 y) := hy
        have HB2 := hid (below_drewN HB.out nq)
        clear hx hy HB
        generalize wr.drewN nq = wq at *
        by_cases hyx : x < y
        · have E : Hid (decide (Nm.val ms ≤ Nm.val (Qd.part rs j M)) = false) := by
            simp only [Hid, decide_eq_false_iff_not]
            have := LTS.out.2 hyx
            omega
          go_wp2_with fail
          go_quiet (fail)
          go_wp2
          go_ret
          exact ⟨ret_bool E.out.symm, below_drewN HB2.out _⟩
        · have EQ : Hid (x = y) := by show _ = _; omega
          go_wp2_with fail
          go_quiet (fail)
          go_wp2
          go_roundw
          case rel =>
            refine ⟨t, by omega, by go_num, fun i hi => ?_, below_drewN HB2.out _⟩
            by_cases e : i = t
            · subst e; rw [← X.out, ← Y.out]; exact EQ.out
            · exact hE.out i (by omega)
          case measure => simp [intOf]

/-- The limb of one round of takeOff: the ways. -/
theorem off_ways (x y bw : Int) (x0 : 0 ≤ x) (x1 : x < 18446744073709551616) (y0 : 0 ≤ y) (y1 : y < 18446744073709551616) (b0 : 0 ≤ bw) (b1 : bw ≤ 1) :
    ∃ t d b', IntKind.u64.wrap (x - y) = t ∧ IntKind.u64.wrap (t - bw) = d ∧ (0 ≤ t ∧ t < 18446744073709551616) ∧ (0 ≤ d ∧ d < 18446744073709551616) ∧ Hid (d + 18446744073709551616 * (-b') = x + (-y) + (-bw)) ∧
      ((x < y ∧ b' = 1) ∨ (x = y ∧ bw = 1 ∧ b' = 1) ∨ (x = y ∧ bw = 0 ∧ b' = 0) ∨ (y < x ∧ b' = 0)) := by
  refine ⟨_, _, if x < y ∨ (x = y ∧ bw = 1) then 1 else 0, rfl, rfl, ?_, ?_, ?_, ?_⟩
  · rw [wrap_mod]; omega
  · rw [wrap_mod]; omega
  · show _ = _
    rw [wrap_mod, wrap_mod]
    split <;> omega
  · split <;> omega

set_option maxRecDepth 100000 in
set_option maxHeartbeats 1000000 in
/-- takeOff: ms, from limb j on, out of a block of our own that holds it. -/
theorem takeOff_any (g C R cap M cap' j : Nat) (rs : List Int) (q : Option Addr) (ms : List Int) (ji : Int) (w : World) (ho : Own w g rs) (hr : rs.length = C) (hRC : R ≤ C) (hR : R ≤ 17592186044416) (hm : ms.length = M) (hM : 0 < M) (hjM : j + M ≤ R) (hlr : Nm.Limbs rs) (h2 : Lies w q ms) (hlm : Nm.Limbs ms) (hq : ∀ a, q = some a → a.block ≠ g) (hji : ji = (j : Int))
    (hge : Nm.pw j * Nm.val ms ≤ Nm.val rs) (hlt : Nm.val rs < Nm.pw (j + M)) :
    Calls Try.prog 67 #[.slice (some ⟨g, 0, none⟩) R cap, .int .i64 ji, .slice q M cap'] w fun e w' => ∃ os, e = .returned (.tuple #[]) ∧ Hid (Own w' g os ∧ os.length = C ∧ Nm.Limbs os ∧ Nm.val os = Nm.val rs - Nm.pw j * Nm.val ms ∧ Below g w w' ∧ w'.heap.size = w.heap.size ∧ ∀ b, b ≠ g → w'.heap[b]? = w.heap[b]?) := by
  subst hji
  obtain ⟨b', off', rfl, hbw', HC'⟩ := h2.at (by omega)
  have hbg : b' ≠ g := hq _ rfl
  have I0 : PartInv g C (j + M) w rs (Nm.val rs + Nm.pw j * (-Nm.val (ms.take 0))) (j + 0) (-0) rs w := ⟨⟨ho, hr, hlr, by simp [Nm.val], Below.refl _ _, rfl⟩, fun _ _ => rfl, fun _ _ => rfl⟩
  have fin : ∀ (os : List Int) (bw : Int) (wr : World), 0 ≤ bw → bw ≤ 1 → PartInv g C (j + M) w rs (Nm.val rs + Nm.pw j * (-Nm.val ms)) (j + M) (-bw) os wr →
      Own wr g os ∧ os.length = C ∧ Nm.Limbs os ∧ Nm.val os = Nm.val rs - Nm.pw j * Nm.val ms ∧ Below g w wr ∧ wr.heap.size = w.heap.size ∧ ∀ b, b ≠ g → wr.heap[b]? = w.heap[b]? := by
    intro os bw wr b0 b1 P
    obtain ⟨⟨p1, p2, p3, p4, p5, p6⟩, p7, p8⟩ := P
    have hz : Nm.val os < Nm.pw (j + M) := by
      have h1 := Nm.val_take_of_zero os (j + M) (fun i hi => by rw [p7 i hi]; exact Nm.zero_of_lt hlr hlt i hi)
      have h2 := (Nm.val_bd _ (p3.take (j + M))).2
      rw [List.length_take, Nat.min_eq_left (by omega)] at h2
      omega
    rw [Int.mul_neg, Int.mul_neg] at p4
    have hb : bw = 0 := by
      rcases (show bw = 0 ∨ bw = 1 by omega) with h | h
      · exact h
      · rw [h, Int.mul_one] at p4; omega
    rw [hb, Int.mul_zero] at p4
    exact ⟨p1, p2, p3, by omega, p5, p6, p8⟩
  have FIN := hid fin
  have HI0 := hid I0
  have HM : Hid (ms.length = M) := hm
  have HML : Hid (Nm.Limbs ms) := hlm
  clear fin I0 hm hlm hq ho hr hlr h2 hge hlt
  go_enter Try.func67, Try.ntmps67
  go_wp2_with fail
  go_loopw [6, 7] (fun c i wr => ∃ (k : Nat) (bw : Int) (os : List Int), k ≤ M ∧ i = .int .i64 k ∧ c = .int .u64 bw ∧ (0 ≤ bw ∧ bw ≤ 1) ∧ Hid (PartInv g C (j + M) w rs (Nm.val rs + Nm.pw j * (-Nm.val (ms.take k))) (j + k) (-bw) os wr)) (fun _ i _ => M - (intOf i).toNat)
  case atStart => exact ⟨0, 0, rs, Nat.zero_le _, rfl, rfl, by omega, HI0.out⟩
  case round =>
    clear HI0
    obtain ⟨k, bw, os, hk, rfl, rfl, ⟨bw0, bw1⟩, I⟩ := hrel
    by_cases hlt : k < M
    · obtain ⟨y, hy, Y⟩ : ∃ y, wr.cell? ⟨b', off' + k, none⟩ = some (.int .u64 y) ∧ Hid (y = ms.getD k 0) := ⟨_, by
        have h := I.out.2.2 b' hbg
        have e : wr.cell? ⟨b', off' + k, none⟩ = w.cell? ⟨b', off' + k, none⟩ := by simp only [World.cell?, h]
        rw [e]
        exact HC'.out k (by have := HM.out; omega), rfl⟩
      obtain ⟨x, hx, X⟩ : ∃ x, wr.cell? ⟨g, j + k, none⟩ = some (.int .u64 x) ∧ Hid (x = os.getD (j + k) 0) := ⟨_, I.out.1.1.cell (j + k) (by have := I.out.1.2.1; omega), rfl⟩
      have hfr := I.out.1.1.free (j + k)
      have hx0 : 0 ≤ x ∧ x < 18446744073709551616 := by have := I.out.1.2.2.1.at (j + k); have := X.out; omega
      have hy0 : 0 ≤ y ∧ y < 18446744073709551616 := by have := HML.out.at k; have := Y.out; omega
      obtain ⟨hx0, hx1⟩ := hx0
      obtain ⟨hy0, hy1⟩ := hy0
      obtain ⟨t, d, b2, r1, r2, ⟨t0, t1⟩, ⟨d0, d1⟩, E, W⟩ := off_ways x y bw hx0 hx1 hy0 hy1 bw0 bw1
      have ST := hid (I.out.step (by omega) (by omega) (x := -y) (s := d) (c' := -b2) ⟨d0, d1⟩ (by rw [← X.out]; exact E.out))
      have T2 : Hid (Nm.val rs + Nm.pw j * (-Nm.val (ms.take k)) + Nm.pw (j + k) * (-y) = Nm.val rs + Nm.pw j * (-Nm.val (ms.take (k + 1)))) := by
        show _ = _
        rw [Nm.val_take_succ ms k (by have := HM.out; omega), ← Y.out, Nm.pw_add, Int.mul_neg, Int.mul_neg, Int.mul_neg, Int.mul_add, Int.mul_assoc]
        omega
      rw [T2.out] at ST
      have htR : (j : Int) + (k : Int) < (R : Int) := by omega
      have hb2 : 0 ≤ b2 ∧ b2 ≤ 1 := by omega
      have HB2 := hid hb2
      clear I E hb2 T2
      rcases W with ⟨c, rfl⟩ | ⟨c, c2, rfl⟩ | ⟨c, c2, rfl⟩ | ⟨c, rfl⟩
      · go_wp2
        go_roundw
        case rel => exact ⟨k + 1, 1, _, by omega, by go_num, rfl, HB2.out, ST.out⟩
        case measure => simp [intOf]; omega
      · subst c2
        have c3 : (x == y) = true := by simp [c]
        have c4 : ¬ x < y := by omega
        have C := hid c
        clear c
        go_wp2
        go_roundw
        case rel => exact ⟨k + 1, 1, _, by omega, by go_num, rfl, HB2.out, ST.out⟩
        case measure => simp [intOf]; omega
      · subst c2
        have c3 : (x == y) = true := by simp [c]
        have c4 : ¬ x < y := by omega
        have C := hid c
        have hdt : d = t := by rw [← r2, wrap_mod]; omega
        subst hdt
        clear c r2
        go_wp2
        go_roundw
        case rel => exact ⟨k + 1, 0, _, by omega, by go_num, rfl, HB2.out, ST.out⟩
        case measure => simp [intOf]; omega
      · have c3 : (x == y) = false := by rw [beq_eq_false_iff_ne]; omega
        have c4 : ¬ x < y := by omega
        go_wp2
        go_roundw
        case rel => exact ⟨k + 1, 0, _, by omega, by go_num, rfl, HB2.out, ST.out⟩
        case measure => simp [intOf]; omega
    · have hkM : k = M := by omega
      subst hkM
      have e := I.out
      rw [List.take_of_length_le (by have := HM.out; omega)] at e
      have F := hid (FIN.out os bw wr bw0 bw1 e)
      clear e I
      go_wp2
      go_end0
      exact ⟨os, rfl, F⟩
end Go.Proofs.Ythfechigdiefpaa
