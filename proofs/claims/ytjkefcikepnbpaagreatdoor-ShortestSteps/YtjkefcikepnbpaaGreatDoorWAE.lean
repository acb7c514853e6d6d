/-
  Texts put together: Shl, FShl, Walk5, Small, BitW.
-/
import Derived.Test.YtjkefcikepnbpaaGreatDoorWAA
namespace Go.Proofs.YtjkefcikepnbpaaGreatDoor
open Go.RowKit Go.Deep

theorem ret_two {p : Option Addr} {a b : Nat} (h : a = b) : Ending.returned (.tuple #[.slice p a a, .int .i64 0]) = .returned (.tuple #[.slice p b b, .int .i64 0]) := by rw [h]

theorem lshift_ok (p : Option Addr) (n cap : Nat) (zs : List Int) (k : Int) (w : World) (ha : Arg w p n cap zs) (tz : Nm.tsize zs ≤ 4096) (hk : 0 ≤ k) :
    Calls Tryz.prog 76 #[.slice p n cap, .int .i64 k] w fun e w' => e = .returned (.tuple #[.slice p (Nm.tsize zs) (Nm.tsize zs), .int .i64 0]) ∧ w' = w := by
  obtain ⟨a1, a2, a3, a4, a5⟩ := ha
  have HT := hid (limited_ok p n cap zs w a1 a2 (by omega) a4 tz)
  go_enter Tryz.func76, Tryz.ntmps76
  go_wp2_with fail
  refine HT.out.mono ?_
  rintro e w' ⟨rfl, rfl⟩
  go_wp2_with fail
  go_ret2
  exact ⟨rfl, rfl⟩

theorem bitLen_n (L : Nat) (p : Option Addr) (n cap : Nat) (zs : List Int) (w : World) (ha : Arg w p n cap zs) (hb : blen zs = (L : Int)) :
    Calls Tryz.prog 77 #[.slice p n cap] w fun e w' => e = .returned (.int .i64 (L : Int)) ∧ w' = w := by
  rw [← hb]
  exact bitLen_any p n cap zs w ha

theorem Arg.trim' {w : World} {p : Option Addr} {n cap : Nat} {zs : List Int} (h : Arg w p n cap zs) : Arg w p (Nm.tsize zs) (Nm.tsize zs) (Nm.trim zs) :=
  ⟨Nm.trim_length zs, Nat.le_refl _, by have := h.tl; have := h.2.1; have := h.2.2.1; omega, h.2.2.2.1.trim, h.2.2.2.2.trim⟩

theorem shl_zero (p : Option Addr) (n cap : Nat) (zs : List Int) (k : Int) (w : World) (ha : Arg w p n cap zs) (hk : 0 ≤ k) (hz : Nm.tsize zs = 0) :
    Calls Tryz.prog 58 #[.slice p n cap, .int .i64 k] w fun e w' => e = .returned (.tuple #[.slice none 0 0, .int .i64 0]) ∧ w' = w := by
  have HT := lshift_ok p n cap zs k w ha (by omega) hk
  rw [hz] at HT
  have H := hid HT
  clear HT hz ha
  go_enter Tryz.func58, Tryz.ntmps58
  go_wp2_with fail
  refine H.out.mono ?_
  rintro e w' ⟨rfl, rfl⟩
  go_wp2_with fail
  go_ret2
  exact ⟨rfl, rfl⟩

set_option maxRecDepth 100000 in
set_option maxHeartbeats 1000000 in
theorem shl_ok (p : Option Addr) (n cap : Nat) (zs : List Int) (kk : Int) (k : Nat) (L : Nat) (w : World) (ha : Arg w p n cap zs) (tz : Nm.tsize zs ≤ 4096) (hkk : kk = (k : Int)) (hz : 0 < Nm.tsize zs) (hL : blen (Nm.trim zs) = (L : Int)) (hb : L + k ≤ 262144) :
    Calls Tryz.prog 58 #[.slice p n cap, .int .i64 kk] w fun e w' => ∃ r os, e = .returned (.tuple #[.slice r (List.length os) (List.length os), .int .i64 0]) ∧ Ans w.heap.size w' r os (Nm.val zs * 2 ^ k) ∧ Below w.heap.size w w' := by
  have hk0 : 0 ≤ kk := by omega
  have T1 := lshift_ok p n cap zs kk w ha tz hk0
  have B1 := bitLen_n L p _ _ (Nm.trim zs) w ha.trim' hL
  obtain ⟨N, HN⟩ : ∃ N, Hid (Nm.tsize zs = N) := ⟨_, rfl⟩
  rw [HN.out] at T1 B1
  have HT := hid T1
  have HB := hid B1
  have hN0 : 0 < N := by rw [← HN.out]; exact hz
  have hN1 : N ≤ 4096 := by rw [← HN.out]; exact tz
  have hz' : ((N : Int) == 0) = false := by rw [beq_eq_false_iff_ne]; omega
  have hb1 : ¬ 262144 - kk < (L : Int) := by omega
  have hkb : kk ≤ 262144 := by omega
  obtain ⟨sk, hsk⟩ : ∃ sk, k / 64 = sk := ⟨_, rfl⟩
  obtain ⟨r, hr⟩ : ∃ r, k % 64 = r := ⟨_, rfl⟩
  have r1 : kk / 64 = (sk : Int) := by omega
  have r2 : kk % 64 = (r : Int) := by omega
  have hr63 : r ≤ 63 := by omega
  have hskb : sk ≤ 4096 := by omega
  have KE : Hid (k = 64 * sk + r) := by show _ = _; omega
  have L1 := hid ((Nm.trim_length zs).trans HN.out)
  have A5 := hid ha.2.2.2.2.trim
  obtain ⟨b, off, rfl, hbw, HC⟩ := ha.2.2.2.1.trim.at (by rw [L1.out]; exact hN0)
  have V := hid (Nm.val_trim zs)
  clear T1 B1 ha tz hz hL hkk hsk hr
  have hmk := make64 (sk + N + 1) (by omega) w
  have em : ((sk + N + 1 : Nat) : Int) = (sk : Int) + (N : Int) + 1 := by omega
  rw [em] at hmk
  clear em
  have ho : Own (w.alloc (.cells (madeCells #[.int .u64 0] (sk + N + 1)) 22)) w.heap.size (List.replicate (sk + N + 1) 0) := by
    rw [made_zero]; exact Own.alloc w _
  have hb0 : Below w.heap.size w (w.alloc (.cells (madeCells #[.int .u64 0] (sk + N + 1)) 22)) := (Below.refl _ _).alloc (Nat.le_refl _) _
  obtain ⟨W0, hW0⟩ : ∃ W0, w.alloc (.cells (madeCells #[.int .u64 0] (sk + N + 1)) 22) = W0 := ⟨_, rfl⟩
  have HB0 : Hid (Below w.heap.size w W0) := by rw [← hW0]; exact hb0
  have I0 : MaInv w.heap.size (sk + N + 1) W0 (Nm.pw sk * (Nm.val ((Nm.trim zs).take 0) * 2 ^ r)) (sk + 0) 0 (List.replicate (sk + N + 1) 0) W0 := by
    rw [← hW0]
    exact ⟨⟨ho, by simp, Nm.Limbs.replicate _, by simp [Nm.val_replicate, Nm.val], Below.refl _ _, rfl⟩, by omega, fun i _ => getD_replicate _ _⟩
  have P0 := Nm.two_pos r
  have HP0 := hid P0
  clear ho hb0 P0
  rw [hW0] at hmk
  clear hW0
  go_enter Tryz.func58, Tryz.ntmps58
  go_wp2_with fail
  refine HT.out.mono ?_
  rintro e w' ⟨rfl, rfl⟩
  go_wp2_with fail
  refine HB.out.mono ?_
  rintro e w' ⟨rfl, rfl⟩
  go_wp2_with fail
  go_loopw [10, 43] (fun a i wr => ∃ (j : Nat) (sp : Int) (os : List Int), j ≤ N ∧ i = .int .i64 j ∧ a = .int .u64 sp ∧ Hid (sp < 2 ^ r) ∧ MaInv w'.heap.size (sk + N + 1) W0 (Nm.pw sk * (Nm.val ((Nm.trim zs).take j) * 2 ^ r)) (sk + j) sp os wr) (fun _ i _ => N - (intOf i).toNat)
  case atStart => exact ⟨0, 0, _, Nat.zero_le _, rfl, rfl, HP0.out, I0⟩
  case round =>
    clear I0 hmk
    obtain ⟨j, sp, os, hj, rfl, rfl, SP, I⟩ := hrel
    by_cases hlt : j < N
    · obtain ⟨x, hx, X⟩ : ∃ x, wr.cell? ⟨b, off + j, none⟩ = some (.int .u64 x) ∧ Hid (x = (Nm.trim zs).getD j 0) :=
        ⟨_, ((HB0.out.trans I.1.2.2.2.2.1).cell (p := ⟨b, off + j, none⟩) hbw).trans (HC.out j (by rw [L1.out]; exact hlt)), rfl⟩
      have hx0 := A5.out.at j
      rw [← X.out] at hx0
      obtain ⟨hx0, hx1⟩ := hx0
      obtain ⟨y, hyc⟩ : ∃ y, wr.cell? ⟨w'.heap.size, sk + j, none⟩ = some (.int .u64 y) := ⟨_, I.1.1.cell (sk + j) (by have := I.1.2.1; omega)⟩
      have hfr := I.1.1.free (sk + j)
      obtain ⟨hs0, hs1⟩ := I.2.1
      obtain ⟨A, s, sp', u1, u2, u3, us, usp, E⟩ := Sh.up x sp r hr63 hx0 hx1 hs0 SP.out
      have usp1 := hid usp
      have hP64 : (2 : Int) ^ r ≤ 18446744073709551616 := by rw [← Nm.two_64]; exact Nm.two_mono (by omega)
      have I2 := I.step (by omega) (x := x * 2 ^ r) (s := s) (c' := sp') us ⟨usp.1, by omega⟩ E.out
      have T2 : Nm.pw sk * (Nm.val ((Nm.trim zs).take j) * 2 ^ r) + Nm.pw (sk + j) * (x * 2 ^ r) = Nm.pw sk * (Nm.val ((Nm.trim zs).take (j + 1)) * 2 ^ r) := by
        rw [Nm.val_take_succ _ j (by rw [L1.out]; exact hlt), ← X.out, Nm.pw_add, Int.add_mul, Int.mul_add, Int.mul_assoc, Int.mul_assoc]
      rw [T2] at I2
      clear I T2 hP64 us usp E
      go_wp2
      go_roundw
      case rel => exact ⟨j + 1, sp', _, by omega, by go_num, rfl, usp1.out.2, I2⟩
      case measure => simp [intOf]; omega
    · have hjN : j = N := by omega
      subst hjN
      rw [List.take_of_length_le (by rw [L1.out]; omega)] at I
      obtain ⟨⟨i1, i2, i3, i4, i5, i6⟩, i7, i8⟩ := I
      have O1 := hid (i1.set (sk + j) sp)
      have O2 : Hid ((os.set (sk + j) sp).length = sk + j + 1) := by rw [Hid]; simpa using i2
      have O3 := hid (i3.set (sk + j) i7.1 i7.2)
      have O4 : Hid (Nm.val (os.set (sk + j) sp) = Nm.val zs * 2 ^ k) := by
        rw [Hid, Nm.val_set _ _ _ (by omega), i8 (sk + j) (Nat.le_refl _), Int.sub_zero, i4, V.out, Nm.pw_two, Int.mul_left_comm, ← Nm.two_add, ← KE.out]
      have O5 := hid (HB0.out.trans (i5.setCell (p := ⟨w'.heap.size, sk + j, none⟩) (Nat.le_refl _) (.int .u64 sp)))
      obtain ⟨y, hy⟩ : ∃ y, wr.cell? ⟨w'.heap.size, sk + j, none⟩ = some (.int .u64 y) := ⟨_, i1.cell (sk + j) (by omega)⟩
      have hfr := i1.free (sk + j)
      clear i1 i2 i3 i4 i5 i6 i7 i8
      go_wp2_with fail
      refine (trimmed_any _ (sk + j + 1) (sk + j + 1) (os.set (sk + j) sp) _ O2.out (Nat.le_refl _) (by omega) O1.out.lies).mono ?_
      rintro e w3 ⟨rfl, rfl⟩
      go_wp2_with fail
      go_ret2
      refine ⟨some ⟨w'.heap.size, 0, none⟩, Nm.trim (os.set (sk + j) sp), ret_two (Nm.trim_length _).symm, ⟨O1.out.lies.trim, O3.out.trim, ?_, ?_, ?_⟩, O5.out⟩
      · rw [Nm.trim_trim, Nm.trim_length]
      · rw [Nm.val_trim, O4.out]
      · intro a h
        cases h
        exact Nat.le_refl _
end Go.Proofs.YtjkefcikepnbpaaGreatDoor

namespace Go.Proofs.YtjkefcikepnbpaaGreatDoor
open Go.RowKit Go.Deep

theorem fblen_trim (zs : List Int) : blen (Nm.trim zs) = blen zs := by
  unfold blen
  rw [Nm.trim_trim]
  by_cases h : Nm.tsize zs = 0
  · rw [if_pos h, if_pos h]
  · rw [if_neg h, if_neg h]
    have e : (Nm.trim zs).getD (Nm.tsize zs - 1) 0 = zs.getD (Nm.tsize zs - 1) 0 := by rw [Nm.trim, Nm.getD_take, if_pos (by omega)]
    rw [e]

theorem fpw_4096 : Nm.pw 4096 = 2 ^ 262144 := Nm.pw_two 4096

theorem ftwo_lt {a b : Nat} (h : (2 : Int) ^ a < 2 ^ b) : a < b := by
  rcases Nat.lt_or_ge a b with h1 | h1
  · exact h1
  · have := Nm.two_mono h1
    omega

/-- So many digits as the number times 2^k. -/
theorem FBLen.up {v : Int} {L : Nat} (k : Nat) (h : Nm.BLen v L) (hv : 0 < v) : Nm.BLen (v * 2 ^ k) (L + k) := by
  have hp := Nm.two_pos k
  have h1 := h.2.2 hv
  refine ⟨?_, fun h0 => ?_, fun _ => ⟨by omega, ?_⟩⟩
  · rw [Nm.two_add]
    exact Int.mul_lt_mul_of_pos_right h.1 hp
  · rcases Int.mul_eq_zero.1 h0 with h2 | h2 <;> omega
  · rw [show L + k - 1 = L - 1 + k by omega, Nm.two_add]
    exact Int.mul_le_mul_of_nonneg_right h1.2 (by omega)

theorem fshl_any (p : Option Addr) (n cap : Nat) (zs : List Int) (kk : Int) (k : Nat) (w : World) (ha : Arg w p n cap zs) (tz : Nm.tsize zs ≤ 4096) (hkk : kk = (k : Int)) (hb : Nm.val zs * 2 ^ k < Nm.pw 4096) :
    Calls Tryz.prog 58 #[.slice p n cap, .int .i64 kk] w fun e w' => ∃ r os, e = .returned (.tuple #[.slice r (List.length os) (List.length os), .int .i64 0]) ∧ Ans w.heap.size w' r os (Nm.val zs * 2 ^ k) ∧ Below w.heap.size w w' := by
  have hv0 := (Nm.val_bd zs ha.2.2.2.2).1
  by_cases hz : Nm.tsize zs = 0
  · have hv := (Nm.tsize_zero_iff ha.2.2.2.2).1 hz
    refine (shl_zero p n cap zs kk w ha (by omega) hz).mono ?_
    rintro e w' ⟨rfl, rfl⟩
    exact ⟨none, [], rfl, ⟨Lies.nil _ _, Nm.Limbs.nil, rfl, by rw [hv, Int.zero_mul]; rfl, fun a h => by cases h⟩, Below.refl _ _⟩
  · obtain ⟨L, hL, BL, _, _⟩ := blen_is zs ha.2.2.2.2
    rw [← fblen_trim] at hL
    have hv : 0 < Nm.val zs := by
      rcases (show Nm.val zs = 0 ∨ 0 < Nm.val zs by omega) with h | h
      · exact absurd ((Nm.tsize_zero_iff ha.2.2.2.2).2 h) hz
      · exact h
    have hu := (FBLen.up k BL hv).2.2 (Int.mul_pos hv (Nm.two_pos k))
    rw [fpw_4096] at hb
    have hlt := ftwo_lt (show (2 : Int) ^ (L + k - 1) < 2 ^ 262144 by omega)
    exact shl_ok p n cap zs kk k L w ha tz hkk (by omega) hL (by omega)

end Go.Proofs.YtjkefcikepnbpaaGreatDoor

namespace Go.Proofs.YtjkefcikepnbpaaGreatDoor
open Go.RowKit Go.Deep

def sgn (b : Bool) : Int := if b then 1 else -1

theorem sign_any (b : Bool) (w : World) : Calls Tryz.prog 163 #[.bool b] w fun e w' => e = .returned (.int .i64 (sgn b)) ∧ w' = w := by
  cases b
  · go_enter Tryz.func163, Tryz.ntmps163
    go_wp2
    go_ret
    exact ⟨rfl, rfl⟩
  · go_enter Tryz.func163, Tryz.ntmps163
    go_wp2
    go_ret
    exact ⟨rfl, rfl⟩

theorem cmp_at {zs ys : List Int} (hz : Nm.Limbs zs) (hy : Nm.Limbs ys) (hl : (Nm.trim zs).length = (Nm.trim ys).length) (t : Nat) (ht : t < (Nm.trim zs).length) (he : ∀ i, t + 1 ≤ i → (Nm.trim zs).getD i 0 = (Nm.trim ys).getD i 0) {x y : Int}
    (hx : x = (Nm.trim zs).getD t 0) (hy' : y = (Nm.trim ys).getD t 0) (hxy : x ≠ y) : sgn (decide (y < x)) = cmpI (Nm.val zs) (Nm.val ys) := by
  have hd := Nm.drop_eq_of_getD hl (t + 1) he
  rw [← Nm.val_trim zs, ← Nm.val_trim ys]
  by_cases h : y < x
  · rw [cmpI_gt (Nm.val_lt_at hy.trim hz.trim t (by omega) hl.symm (by rw [← hx, ← hy']; exact h) hd.symm)]
    simp [sgn, h]
  · rw [cmpI_lt (Nm.val_lt_at hz.trim hy.trim t ht hl (by rw [← hx, ← hy']; omega) hd)]
    simp [sgn, h]

set_option maxHeartbeats 1000000 in
theorem cmp_any (p q : Option Addr) (n cap m cap' : Nat) (zs ys : List Int) (w : World) (ha : Arg w p n cap zs) (hb : Arg w q m cap' ys) :
    Calls Tryz.prog 149 #[.slice p n cap, .slice q m cap'] w fun e w' => e = .returned (.int .i64 (cmpI (Nm.val zs) (Nm.val ys))) ∧ Below w.heap.size w w' := by
  obtain ⟨a1, a2, a3, a4, a5⟩ := ha
  obtain ⟨b1, b2, b3, b4, b5⟩ := hb
  have tl := Nm.tsize_le zs
  have tl' := Nm.tsize_le ys
  by_cases h1 : Nm.tsize zs < Nm.tsize ys
  · have E := hid (cmpI_lt (val_lt_of_tsize a5 b5 h1))
    have E' : Hid (sgn (decide (Nm.tsize ys < Nm.tsize zs)) = -1) := by simp [Hid, sgn]; omega
    have h1' : ((Nm.tsize zs : Int) != (Nm.tsize ys : Int)) = true := by rw [bne_iff_ne]; omega
    go_enter Tryz.func149, Tryz.ntmps149
    go_wp2_with fail
    refine (trimmed_any p n cap zs _ a1 a2 (by omega) a4).mono ?_
    rintro e w' ⟨rfl, rfl⟩
    go_wp2_with fail
    refine (trimmed_any q m cap' ys _ b1 b2 (by omega) b4).mono ?_
    rintro e w' ⟨rfl, rfl⟩
    go_wp2_with fail
    refine (sign_any _ _).mono ?_
    rintro e w' ⟨rfl, rfl⟩
    go_wp2
    go_ret
    exact ⟨ret_i64 (by rw [E.out]; first | exact E'.out | simp [sgn]), Below.refl _ _⟩
  by_cases h2 : Nm.tsize ys < Nm.tsize zs
  · have E := hid (cmpI_gt (val_lt_of_tsize b5 a5 h2))
    have E' : Hid (sgn (decide (Nm.tsize ys < Nm.tsize zs)) = 1) := by simp [Hid, sgn, h2]
    have h1' : ((Nm.tsize zs : Int) != (Nm.tsize ys : Int)) = true := by rw [bne_iff_ne]; omega
    go_enter Tryz.func149, Tryz.ntmps149
    go_wp2_with fail
    refine (trimmed_any p n cap zs _ a1 a2 (by omega) a4).mono ?_
    rintro e w' ⟨rfl, rfl⟩
    go_wp2_with fail
    refine (trimmed_any q m cap' ys _ b1 b2 (by omega) b4).mono ?_
    rintro e w' ⟨rfl, rfl⟩
    go_wp2_with fail
    refine (sign_any _ _).mono ?_
    rintro e w' ⟨rfl, rfl⟩
    go_wp2
    go_ret
    exact ⟨ret_i64 (by rw [E.out]; first | exact E'.out | simp [sgn]), Below.refl _ _⟩
  obtain ⟨N, HN⟩ : ∃ N, Hid (Nm.tsize zs = N) := ⟨_, rfl⟩
  have HN' : Hid (Nm.tsize ys = N) := by have := HN.out; exact (show Nm.tsize ys = N by omega)
  have T1 := trimmed_any p n cap zs w a1 a2 (by omega) a4
  have T2 := trimmed_any q m cap' ys w b1 b2 (by omega) b4
  rw [HN.out] at T1
  rw [HN'.out] at T2
  have hN : N ≤ 17592186044416 := by have := HN.out; omega
  have L1 := hid (Nm.trim_length zs)
  have L2 := hid (Nm.trim_length ys)
  clear h1 h2 tl tl'
  have fin : Nm.trim zs = Nm.trim ys → cmpI (Nm.val zs) (Nm.val ys) = 0 := fun h => cmpI_eq (by rw [← Nm.val_trim zs, ← Nm.val_trim ys, h])
  have FIN := hid fin
  clear fin
  by_cases h0 : N = 0
  · have HT1 := hid T1
    have HT2 := hid T2
    clear T1 T2
    subst h0
    go_enter Tryz.func149, Tryz.ntmps149
    go_wp2_with fail
    refine HT1.out.mono ?_
    rintro e w' ⟨rfl, rfl⟩
    go_wp2_with fail
    refine HT2.out.mono ?_
    rintro e w' ⟨rfl, rfl⟩
    go_wp2_with fail
    refine wp_loop_rounds 1 ?_
    rw [rounds_succ]
    go_wp2
    go_ret
    exact ⟨ret_i64 (FIN.out (by rw [List.eq_nil_of_length_eq_zero (L1.out.trans HN.out), List.eq_nil_of_length_eq_zero (L2.out.trans HN'.out)])).symm, Below.refl _ _⟩
  · obtain ⟨b, off, rfl, hbw, HC⟩ := a4.trim.at (by have := L1.out; have := HN.out; omega)
    obtain ⟨b', off', rfl, hbw', HC'⟩ := b4.trim.at (by have := L2.out; have := HN'.out; omega)
    have HT1 := hid T1
    have HT2 := hid T2
    clear T1 T2
    go_enter Tryz.func149, Tryz.ntmps149
    go_wp2_with fail
    refine HT1.out.mono ?_
    rintro e w' ⟨rfl, rfl⟩
    go_wp2_with fail
    refine HT2.out.mono ?_
    rintro e w' ⟨rfl, rfl⟩
    go_wp2_with fail
    go_loopw [5] (fun i wr => ∃ j : Nat, j ≤ N ∧ i = .int .i64 ((j : Int) - 1) ∧ Hid (∀ t, j ≤ t → (Nm.trim zs).getD t 0 = (Nm.trim ys).getD t 0) ∧ Below w'.heap.size w' wr) (fun i _ => (intOf i + 1).toNat)
    case atStart => exact ⟨N, Nat.le_refl _, rfl, fun t ht => by rw [List.getD, List.getElem?_eq_none (by have := L1.out; have := HN.out; omega), List.getD, List.getElem?_eq_none (by have := L2.out; have := HN'.out; omega)], Below.refl _ _⟩
    case round =>
      obtain ⟨j, hj, rfl, hE, hB⟩ := hrel
      by_cases hj0 : j = 0
      · subst hj0
        have HB := hid hB
        clear hB
        go_wp2
        go_ret
        refine ⟨ret_i64 (FIN.out ?_).symm, HB.out⟩
        have e := Nm.drop_eq_of_getD (by rw [L1.out, L2.out, HN.out, HN'.out]) 0 hE.out
        simpa using e
      · obtain ⟨t, rfl⟩ : ∃ t, j = t + 1 := ⟨j - 1, by omega⟩
        obtain ⟨x, hx, X⟩ : ∃ x, wr.cell? ⟨b, off + t, none⟩ = some (.int .u64 x) ∧ Hid (x = (Nm.trim zs).getD t 0) := ⟨_, (hB.cell (p := ⟨b, off + t, none⟩) hbw).trans (HC.out t (by have := L1.out; have := HN.out; omega)), rfl⟩
        obtain ⟨y, hy, Y⟩ : ∃ y, wr.cell? ⟨b', off' + t, none⟩ = some (.int .u64 y) ∧ Hid (y = (Nm.trim ys).getD t 0) := ⟨_, (hB.cell (p := ⟨b', off' + t, none⟩) hbw').trans (HC'.out t (by have := L2.out; have := HN'.out; omega)), rfl⟩
        have HB := hid hB
        clear hB
        have htN : (t : Int) < (N : Int) := by omega
        by_cases hxy : x = y
        · have hxy' : (x != y) = false := by simp [hxy]
          have HXY := hid hxy
          clear hxy
          go_wp2_with fail
          go_quiet (fail)
          go_wp2
          go_roundw
          case rel =>
            refine ⟨t, by omega, by go_num, fun i hi => ?_, below_drewN HB.out _⟩
            by_cases e : i = t
            · subst e; rw [← X.out, ← Y.out]; exact HXY.out
            · exact hE.out i (by omega)
          case measure => simp [intOf]
        · have hxy' : (x != y) = true := by simp [hxy]
          have HXY := hid hxy
          clear hxy
          go_wp2_with fail
          go_quiet (fail)
          have hx2 : (wr.drewN nq).cell? ⟨b, off + t, none⟩ = some (.int .u64 x) := hx
          have hy2 : (wr.drewN nq).cell? ⟨b', off' + t, none⟩ = some (.int .u64 y) := hy
          have HB2 := hid (below_drewN HB.out nq)
          clear hx hy HB
          generalize wr.drewN nq = wq at *
          go_wp2_with fail
          go_quiet ((go_at_call 163; exact Calls.quiet_of_same (sign_any _ _)))
          go_wp2
          go_ret
          exact ⟨ret_i64 (cmp_at a5 b5 (by rw [L1.out, L2.out, HN.out, HN'.out]) t (by rw [L1.out, HN.out]; omega) hE.out X.out Y.out HXY.out), below_drewN HB2.out _⟩

end Go.Proofs.YtjkefcikepnbpaaGreatDoor

namespace Go.Proofs.YtjkefcikepnbpaaGreatDoor
open Go.RowKit Go.Deep

theorem cmp_is (c : Int) (p q : Option Addr) (n cap m cap' : Nat) (zs ys : List Int) (w : World) (ha : Arg w p n cap zs) (hb : Arg w q m cap' ys) (hc : cmpI (Nm.val zs) (Nm.val ys) = c) :
    Calls Tryz.prog 149 #[.slice p n cap, .slice q m cap'] w fun e w' => e = .returned (.int .i64 c) ∧ Below w.heap.size w w' := by
  rw [← hc]
  exact cmp_any p q n cap m cap' zs ys w ha hb
end Go.Proofs.YtjkefcikepnbpaaGreatDoor

namespace Go.Proofs.YtjkefcikepnbpaaGreatDoor
open Go.RowKit Go.Deep

theorem one_bit (x : Int) (h0 : 0 ≤ x) (h1 : x < 18446744073709551616) : bits .and .u64 x 1 = x % 2 := by
  obtain ⟨n, rfl⟩ := Int.eq_ofNat_of_zero_le h0
  have h := bits_and_u64_nat n 1 (by omega) (by omega)
  have e : n &&& 1 = n % 2 := Nat.and_two_pow_sub_one_eq_mod n 1
  rw [e] at h
  rw [show (1 : Int) = ((1 : Nat) : Int) from rfl, h]
  omega

set_option maxRecDepth 100000 in
set_option maxHeartbeats 1000000 in
/-- One binary digit. -/
theorem bit_any (p : Option Addr) (n cap : Nat) (zs : List Int) (i : Nat) (ii : Int) (w : World) (ha : Arg w p n cap zs) (hi : ii ≤ 9223372036854775807) (hii : ii = (i : Int)) :
    Calls Tryz.prog 218 #[.slice p n cap, .int .i64 ii] w fun e w' => e = .returned (.int .i64 (Nm.val zs / 2 ^ i % 2)) ∧ w' = w := by
  obtain ⟨a1, a2, a3, a4, a5⟩ := ha
  have hi0 : 0 ≤ ii := by omega
  by_cases hk : n ≤ i / 64
  · have E : Hid (Nm.val zs / 2 ^ i % 2 = 0) := by
      have h1 := Nm.val_bd zs a5
      have h2 : Nm.pw zs.length ≤ 2 ^ i := by rw [Nm.pw_two]; exact Nm.two_mono (by omega)
      show _ = _
      rw [Int.ediv_eq_zero_of_lt h1.1 (by omega)]
      rfl
    have hk' : (n : Int) ≤ ii / 64 := by omega
    clear a1 a4 a5 hii hk
    go_enter Tryz.func218, Tryz.ntmps218
    go_wp2
    go_ret
    exact ⟨retI E.out.symm, rfl⟩
  · obtain ⟨k, hke⟩ : ∃ k, i / 64 = k := ⟨_, rfl⟩
    obtain ⟨r, hre⟩ : ∃ r, i % 64 = r := ⟨_, rfl⟩
    have hir : i = 64 * k + r := by omega
    have E := hid (Nm.bit_at zs i k r hir (by omega) a5 (by omega))
    obtain ⟨b, off, rfl, hc⟩ : ∃ b off, p = some ⟨b, off, none⟩ ∧ w.cell? ⟨b, off + k, none⟩ = some (.int .u64 (zs.getD k 0)) := by
      rcases a4 with h | ⟨b, off, hp, h⟩
      · rw [h] at a1
        simp at a1
        omega
      · exact ⟨b, off, hp, h k (by omega)⟩
    obtain ⟨x, X⟩ : ∃ x, Hid (x = zs.getD k 0) := ⟨_, rfl⟩
    rw [← X.out] at hc E
    have hx := a5.at k
    rw [← X.out] at hx
    obtain ⟨hx0, hx1⟩ := hx
    have q0 : 0 ≤ x / 2 ^ r := Int.ediv_nonneg hx0 (by have := Nm.two_pos r; omega)
    have q1 : x / 2 ^ r < 18446744073709551616 := by
      have : x / 2 ^ r ≤ x := Int.ediv_le_self _ hx0
      omega
    obtain ⟨y, hy⟩ : ∃ y, x / 2 ^ r = y := ⟨_, rfl⟩
    rw [hy] at q0 q1 E
    have hb := one_bit y q0 q1
    have h64 : ii / 64 = (k : Int) := by omega
    have h65 : ii % 64 = (r : Int) := by omega
    have hkn : (k : Int) < (n : Int) := by omega
    have hr63 : r ≤ 63 := by omega
    have y2 : 0 ≤ y % 2 := by omega
    have y3 : y % 2 ≤ 1 := by omega
    clear hir hke hre hk a1 a4 a5 X hii
    go_enter Tryz.func218, Tryz.ntmps218
    go_wp2
    go_ret
    exact ⟨retI E.out.symm, rfl⟩

theorem bit_neg (p : Option Addr) (n cap : Nat) (i : Int) (w : World) (hi : i < 0) :
    Calls Tryz.prog 218 #[.slice p n cap, .int .i64 i] w fun e w' => e = .returned (.int .i64 0) ∧ w' = w := by
  go_enter Tryz.func218, Tryz.ntmps218
  go_wp2
  go_ret
  exact ⟨rfl, rfl⟩
end Go.Proofs.YtjkefcikepnbpaaGreatDoor
