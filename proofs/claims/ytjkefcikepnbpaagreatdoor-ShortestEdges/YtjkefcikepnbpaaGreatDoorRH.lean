/-
  Texts put together: KStep, Low, IShift, IAnsS, IRatio, KSmall, KTry, NLimb, NSTrim, MulAddW, NNatural, NFrom, NRead, KTrueN.
-/
import Derived.Test.YtjkefcikepnbpaaGreatDoorRG
import Derived.Test.YtjkefcikepnbpaaGreatDoorRA
import Derived.Test.YtjkefcikepnbpaaGreatDoorRB
import Derived.Test.YtjkefcikepnbpaaGreatDoorMem
import Derived.Test.YtjkefcikepnbpaaGreatDoorRC
import Derived.Test.YtjkefcikepnbpaaGreatDoorNDigit
import Derived.Test.YtjkefcikepnbpaaGreatDoorNStr
import Derived.BigRegion
import Derived.Deep.LoopGhost
import Derived.Deep.CutRange
import Derived.OwnWalk
import Derived.Test.YtjkefcikepnbpaaGreatDoorNDv
namespace Go.Proofs.YtjkefcikepnbpaaGreatDoor
open Go Go.RowKit Go.Deep

theorem results_tmp4k {fn : Func} {t u v x : Tmp} (h : fn.results = #[.tmp t, .tmp u, .tmp v, .tmp x]) (tmps : Array Value) (P : Program) (w : World) :
    (results fn tmps).run P w = .ok (.tuple #[tmps.getD t undef, tmps.getD u undef, tmps.getD v undef, tmps.getD x undef]) w := by
  simp [results, h]

theorem kbel_drew {B : Nat} {w w' : World} (h : Below B w w') : Below B w w'.drew := ⟨h.1, h.2, h.3, h.4, h.5⟩

def StepTold (v q : Int) (w : World) (e : Ending) (w' : World) : Prop := ∃ x s, e = .returned (.tuple #[.int .u64 x, .bool s]) ∧ Ie.Stq v q x s ∧ Below w.heap.size w w'

/-- One product in its box. -/
def OP (w wx : World) (g : Nat) (a b c : Int) : Prop := Below w.heap.size w wx ∧ At3 wx g a b c
theorem OP.on {w wx wy : World} {g : Nat} {a b c : Int} (h : OP w wx g a b c) (k : Below wx.heap.size wx wy) : OP w wy g a b c := ⟨below_on h.1 k, h.2.below k h.2.lt⟩
theorem OP.new {w w1 : World} (h : Below w.heap.size w w1) (a b c : Int) : OP w (w1.alloc (.cells #[.int .u64 a, .int .u64 b, .int .u64 c] 247)) w1.heap.size a b c := ⟨below_on h (alloc_b _ _), heap_alloc_new _ _⟩

theorem head_same {a b c x y z v P e A : Int} (ha : Bd a ∧ Bd b ∧ Bd c) (hx : Bd x ∧ Bd y ∧ Bd z) (hn : n3 x y z = n3 a b c + v) (v0 : 0 < v) (hp : n3 a b c = v * P) (hP : 170141183460469231731687303715884105728 ≤ P) (h : a ≠ 0 ∧ b = y ∧ c = z)
    (hr : Ie.Rnd (n3 a b c) 1 e false A) : Ie.Rnd (n3 x y z) 1 e false A := by
  have hm : P ≤ v * P := by have := Int.mul_le_mul_of_nonneg_right (show 1 ≤ v by omega) (show 0 ≤ P by omega); rw [Int.one_mul] at this; exact this
  obtain ⟨h0, rfl, rfl⟩ := h
  unfold Bd at *
  have e1 : n3 a b c = (b + 18446744073709551616 * c) * 18446744073709551616 + a := by unfold n3; omega
  have e2 : n3 x b c = (b + 18446744073709551616 * c) * 18446744073709551616 + x := by unfold n3; omega
  have hxa : x = a + v := by unfold n3 at hn; omega
  have hh : 18014398509481984 ≤ b + 18446744073709551616 * c := by rw [← hp, e1] at hm; omega
  rw [e1] at hr
  rw [e2]
  exact Ie.head_rnd hh (by omega) (by omega) (by omega) (by omega) hr

set_option maxRecDepth 100000 in
set_option maxHeartbeats 1000000 in
theorem step_any9 (v q : Int) (w : World) (hT : Tab w) (hv : Bd v) :
    Calls Tryz.prog 225 #[.int .u64 v, .int .i64 q] w fun e w' => StepTold v q w e w' := by
  by_cases h0 : v = 0
  · subst h0
    have F : Hid (StepTold 0 q w (.returned (.tuple #[.int .u64 0, .bool true])) w) := ⟨0, true, rfl, .inl ⟨rfl, rfl, rfl⟩, Below.refl _ _⟩
    clear hv hT
    go_enter Tryz.func225, Tryz.ntmps225
    go_wp2_with fail
    go_ret2
    exact F.out
  have v0 : (v == 0) = false := by rw [beq_eq_false_iff_ne]; exact h0
  have vp : 0 < v := by have := hv.1; omega
  have I := hid (inTable_any q w)
  by_cases h : -342 ≤ q ∧ q ≤ 308
  · have RW := hid (row_any q w hT h.1 h.2)
    have RI := hid (Ie.row_is h.1 h.2)
    have bs := bd_split (P := Ie.rowP q) (by have := RI.out.lo; omega) RI.out.hi
    have TM := hid (fun wx => ptimes_any v (lo64 (Ie.rowP q)) (hi64 (Ie.rowP q)) wx hv bs.1 bs.2)
    rw [n2_split] at TM
    rw [decide_eq_true h] at I
    have EX := hid (fun wx => exact_any9 q wx)
    have HT := hid hT
    have HV := hid hv
    have VP := hid vp
    have PR := hid (fun (a b c : Int) (wx : World) (hb : Below w.heap.size w wx) (hh : Bd a ∧ Bd b ∧ Bd c) => pround_any a b c (Ie.rowE q + q) wx (hT.below hb) hh)
    have PL := hid (fun (a b c : Int) (wx : World) (hh : Bd a ∧ Bd b ∧ Bd c) hn => pplus_any a b c v wx hh.1 hh.2.1 hh.2.2 hv hn)
    have SD := hid (fun (a b c x y z : Int) (wx : World) => same_any9 a b c x y z wx)
    have eb := RI.out.eb
    have F1 : Hid (∀ A w', 0 ≤ q ∧ q ≤ 55 → Ie.Rnd (v * Ie.rowP q) 1 (Ie.rowE q + q) false A → Below w.heap.size w w' → StepTold v q w (.returned (.tuple #[.int .u64 A, .bool true])) w') := fun A w' g r b => ⟨A, true, rfl, .inr (.inr ⟨vp, h.1, h.2, A, A, r, .inl ⟨g.1, g.2, rfl⟩, .inl ⟨rfl, rfl, rfl⟩⟩), b⟩
    have F2 : Hid (∀ A w', ¬ (0 ≤ q ∧ q ≤ 55) → Ie.Rnd (v * Ie.rowP q) 1 (Ie.rowE q + q) false A → Ie.Rnd (v * (Ie.rowP q + 1)) 1 (Ie.rowE q + q) false A → Below w.heap.size w w' → StepTold v q w (.returned (.tuple #[.int .u64 A, .bool true])) w') := fun A w' g r r2 b => ⟨A, true, rfl, .inr (.inr ⟨vp, h.1, h.2, A, A, r, .inr ⟨by omega, r2⟩, .inl ⟨rfl, rfl, rfl⟩⟩), b⟩
    have F3 : Hid (∀ A B w', ¬ (0 ≤ q ∧ q ≤ 55) → Ie.Rnd (v * Ie.rowP q) 1 (Ie.rowE q + q) false A → Ie.Rnd (v * (Ie.rowP q + 1)) 1 (Ie.rowE q + q) false B → A ≠ B → Below w.heap.size w w' → StepTold v q w (.returned (.tuple #[.int .u64 0, .bool false])) w') := fun A B w' g r r2 ne b => ⟨0, false, rfl, .inr (.inr ⟨vp, h.1, h.2, A, B, r, .inr ⟨by omega, r2⟩, .inr ⟨ne, rfl, rfl⟩⟩), b⟩
    have q0 := h.1
    have q1 := h.2
    have HS : Hid (∀ a b c x y z A, Bd a ∧ Bd b ∧ Bd c → Bd x ∧ Bd y ∧ Bd z → n3 x y z = n3 a b c + v → n3 a b c = v * Ie.rowP q → a ≠ 0 ∧ b = y ∧ c = z → Ie.Rnd (n3 a b c) 1 (Ie.rowE q + q) false A → Ie.Rnd (n3 x y z) 1 (Ie.rowE q + q) false A) := fun a b c x y z A k1 k2 k3 k4 k5 k6 => head_same k1 k2 k3 vp k4 RI.out.lo k5 k6
    have HN : Hid (∀ N : Int, N = v * Ie.rowP q → N + v < 6277101735386680763835789423207666416102355444464034512896 ∧ N + v = v * (Ie.rowP q + 1)) := fun N hN => by
      have hP := RI.out.hi
      have e1 : N + v = v * (Ie.rowP q + 1) := by rw [hN, Int.mul_add, Int.mul_one]
      refine ⟨?_, e1⟩
      rw [e1]
      have g1 : v * (Ie.rowP q + 1) ≤ v * 340282366920938463463374607431768211456 := Int.mul_le_mul_of_nonneg_left (by omega) (by omega)
      have := hv.2
      omega
    clear h hT hv bs RI vp h0
    go_enter Tryz.func225, Tryz.ntmps225
    go_wp2_with fail
    refine I.out.mono ?_
    rintro e w' ⟨rfl, rfl⟩
    go_wp2_with fail
    refine RW.out.mono ?_
    rintro e w1 ⟨rfl, hB1⟩
    generalize Ie.rowE q = ee at *
    generalize Ie.rowP q = P at *
    have HB1 := hid hB1
    unfold wideV at *
    clear RW I hB1
    go_wp2_with fail
    with_reducible refine (TM.out _).mono ?_
    rintro e w2 ⟨a, b, c, rfl, hbd, hn, hB2⟩
    have O2 := hid (OP.new (below_on (below_on HB1.out (alloc_b _ _)) hB2) a b c)
    have BD := hid hbd
    have NN := hid hn
    unfold prodV at *
    clear hB2 hbd hn TM HB1
    go_upto_region 7 with fail
    generalize (w2.alloc (.cells #[.int .u64 a, .int .u64 b, .int .u64 c] 247)) = w3 at *
    obtain ⟨⟨d0, d1, d2⟩, _⟩ := O2.out.2.cells
    go_wp2_with fail
    have ob := O2.out.1
    with_reducible refine (PR.out a b c _ ob BD.out).mono ?_
    rintro e w4 ⟨A, rfl, hA, hB4⟩
    clear ob
    have O4 := hid (O2.out.on hB4)
    rw [NN.out] at hA
    have HA := hid hA
    clear hB4 d0 d1 d2 hA O2
    go_wp2_with fail
    refine (EX.out _).mono ?_
    rintro e w5 ⟨rfl, rfl⟩
    by_cases hx : 0 ≤ q ∧ q ≤ 55
    · rw [decide_eq_true hx]
      have FF := hid (F1.out A w5 hx HA.out O4.out.1)
      clear hx F1 F2 F3
      go_wp2_with fail
      go_ret2
      exact FF.out
    · rw [decide_eq_false hx]
      have HX := hid hx
      obtain ⟨⟨d0, d1, d2⟩, _⟩ := O4.out.2.cells
      clear hx
      go_wp2_with fail
      refine (PL.out a b c _ BD.out (HN.out _ NN.out).1).mono ?_
      rintro e w6 ⟨x, y, z, rfl, hbx, hnx, hB6⟩
      have O6 := hid (O4.out.on hB6)
      have O7 := hid (O6.out.on (alloc_b w6 (.cells #[.int .u64 x, .int .u64 y, .int .u64 z] 247)))
      have P7 := hid (OP.new O6.out.1 x y z)
      have BX := hid hbx
      have NX := hid hnx
      clear hB6 hbx hnx d0 d1 d2 O6 O4
      go_upto_region 11 with fail
      generalize (w6.alloc (.cells #[.int .u64 x, .int .u64 y, .int .u64 z] 247)) = w7 at *
      obtain ⟨⟨d0, d1, d2⟩, _⟩ := O7.out.2.cells
      obtain ⟨⟨p0, p1, p2⟩, _⟩ := P7.out.2.cells
      go_wp2_with fail
      with_reducible refine (SD.out a b c x y z _).mono ?_
      rintro e w8 ⟨rfl, hB8⟩
      have P8 := hid (P7.out.on hB8)
      have S1 : Hid (a ≠ 0 ∧ b = y ∧ c = z → Ie.Rnd (v * (P + 1)) 1 (ee + q) false A) := fun g => by
        have := HS.out a b c x y z A BD.out BX.out NX.out NN.out g (by rw [NN.out]; exact HA.out)
        rw [NX.out, (HN.out _ NN.out).2] at this
        exact this
      clear d0 d1 d2 p0 p1 p2 hB8 O7 P7
      obtain ⟨⟨p0, p1, p2⟩, _⟩ := P8.out.2.cells
      obtain ⟨sb, hsb⟩ : ∃ sb, decide (a ≠ 0 ∧ b = y ∧ c = z) = sb := ⟨_, rfl⟩
      rw [hsb]
      cases sb with
      | true =>
        have FF := hid (F2.out A w8 HX.out HA.out (S1.out (of_decide_eq_true hsb)) P8.out.1)
        clear hsb F1 F2 F3 S1
        go_wp2_with fail
        go_ret2
        exact FF.out
      | false =>
        clear hsb
        go_wp2_with fail
        have ob := P8.out.1
        with_reducible refine (PR.out x y z _ ob BX.out).mono ?_
        rintro e w9 ⟨B, rfl, hR, hB9⟩
        clear ob
        rw [NX.out, (HN.out _ NN.out).2] at hR
        by_cases hAB : B = A
        · subst hAB
          have FF := hid (F2.out B w9 HX.out HA.out hR (below_on P8.out.1 hB9))
          clear hR hB9 F1 F2 F3 S1 p0 p1 p2
          go_wp2_with fail
          go_ret2
          exact FF.out
        · have FF := hid (F3.out A B w9 HX.out HA.out hR (fun g => hAB g.symm) (below_on P8.out.1 hB9))
          have hne : (B == A) = false := by rw [beq_eq_false_iff_ne]; exact hAB
          clear hR hB9 F1 F2 F3 S1 p0 p1 p2
          go_wp2_with fail
          go_ret2
          exact FF.out
  · rw [decide_eq_false h] at I
    have F : Hid (StepTold v q w (.returned (.tuple #[.int .u64 0, .bool false])) w) := ⟨0, false, rfl, .inr (.inl ⟨vp, by omega, rfl, rfl⟩), Below.refl _ _⟩
    clear h hT hv vp
    go_enter Tryz.func225, Tryz.ntmps225
    go_wp2_with fail
    refine I.out.mono ?_
    rintro e w' ⟨rfl, rfl⟩
    go_wp2_with fail
    go_ret2
    exact F.out
end Go.Proofs.YtjkefcikepnbpaaGreatDoor

namespace Go.Proofs.YtjkefcikepnbpaaGreatDoor
open Go.RowKit Go.Deep

theorem mask_low (x : Int) (r : Nat) (hr : r ≤ 63) (h0 : 0 ≤ x) (h1 : x < 18446744073709551616) : bits .and .u64 x (2 ^ r - 1) = x % 2 ^ r := by
  obtain ⟨n, rfl⟩ := Int.eq_ofNat_of_zero_le h0
  have hP : ((2 ^ r : Nat) : Int) = (2 : Int) ^ r := by simp
  have hp : 0 < 2 ^ r := Nat.pow_pos (by omega)
  have hm : (2 : Int) ^ r - 1 = ((2 ^ r - 1 : Nat) : Int) := by omega
  have hle : 2 ^ r ≤ 2 ^ 63 := Nat.pow_le_pow_right (by omega) hr
  have e63 : 2 ^ 63 = 9223372036854775808 := by decide
  have h := bits_and_u64_nat n (2 ^ r - 1) (by omega) (by omega)
  rw [hm, h, Nat.and_two_pow_sub_one_eq_mod, ← hP]
  omega

set_option maxRecDepth 100000 in
set_option maxHeartbeats 1000000 in
/-- From the number of its digits on it is the number itself. -/
theorem low_all (p : Option Addr) (n cap : Nat) (zs : List Int) (k : Int) (L : Nat) (w : World) (ha : Arg w p n cap zs) (tz : Nm.tsize zs ≤ 4096) (hk : 0 ≤ k) (hL : blen (Nm.trim zs) = (L : Int)) (hb : (L : Int) ≤ k) :
    Calls Tryz.prog 215 #[.slice p n cap, .int .i64 k] w fun e w' => ∃ r os, e = .returned (.tuple #[.slice r (List.length os) (List.length os), .int .i64 0]) ∧ Ans w.heap.size w' r os (Nm.val zs) ∧ Below w.heap.size w w' := by
  have HT := hid (lshift_ok p n cap zs k w ha tz hk)
  have HB := hid (bitLen_n L p _ _ (Nm.trim zs) w ha.trim' hL)
  have TR := trim_any p _ _ (Nm.trim zs) w ha.trim'
  rw [Nm.val_trim] at TR
  have HTR := hid TR
  clear hL ha TR
  go_enter Tryz.func215, Tryz.ntmps215
  go_wp2_with fail
  refine HT.out.mono ?_
  rintro e w' ⟨rfl, rfl⟩
  go_wp2_with fail
  refine HB.out.mono ?_
  rintro e w' ⟨rfl, rfl⟩
  go_wp2_with fail
  refine HTR.out.mono ?_
  rintro e w1 ⟨r, os, rfl, -, hans, hb1⟩
  have HA := hid hans
  have D1 := hid hb1
  clear hans hb1
  go_wp2_with fail
  go_ret2
  exact ⟨r, os, rfl, HA.out, D1.out⟩

set_option maxRecDepth 100000 in
set_option maxHeartbeats 1000000 in
theorem low_ok (p : Option Addr) (n cap : Nat) (zs : List Int) (kk : Int) (k L : Nat) (w : World) (ha : Arg w p n cap zs) (tz : Nm.tsize zs ≤ 4096) (hkk : kk = (k : Int)) (hL : blen (Nm.trim zs) = (L : Int)) (hLt : L ≤ 64 * Nm.tsize zs) (hb : k < L) :
    Calls Tryz.prog 215 #[.slice p n cap, .int .i64 kk] w fun e w' => ∃ r os, e = .returned (.tuple #[.slice r (List.length os) (List.length os), .int .i64 0]) ∧ Ans w.heap.size w' r os (Nm.val zs % 2 ^ k) ∧ Below w.heap.size w w' := by
  have hk0 : 0 ≤ kk := by omega
  have T1 := lshift_ok p n cap zs kk w ha tz hk0
  have B1 := bitLen_n L p _ _ (Nm.trim zs) w ha.trim' hL
  obtain ⟨N, HN⟩ : ∃ N, Hid (Nm.tsize zs = N) := ⟨_, rfl⟩
  rw [HN.out] at T1 B1 hLt
  have HT := hid T1
  have HB := hid B1
  have hN1 : N ≤ 4096 := by rw [← HN.out]; exact tz
  have hb1 : ¬ (L : Int) ≤ kk := by omega
  obtain ⟨sk, hsk⟩ : ∃ sk, k / 64 = sk := ⟨_, rfl⟩
  obtain ⟨r, hr⟩ : ∃ r, k % 64 = r := ⟨_, rfl⟩
  have r1 : kk / 64 = (sk : Int) := by omega
  have r2 : kk % 64 = (r : Int) := by omega
  have hr63 : r ≤ 63 := by omega
  have hskN : sk < N := by omega
  have hskN' : (sk : Int) < (N : Int) := by omega
  have hkb : kk ≤ 262144 := by omega
  have KE : Hid (k = 64 * sk + r) := by show _ = _; omega
  have L1 := hid ((Nm.trim_length zs).trans HN.out)
  have A5 := hid ha.2.2.2.2.trim
  obtain ⟨b, off, rfl, hbw, HC⟩ := ha.2.2.2.1.trim.at (by rw [L1.out]; omega)
  have V := hid (Nm.val_trim zs)
  have LT := hid (ha.2.2.2.1.trim.take sk)
  have TL : Hid (((Nm.trim zs).take sk).length = sk) := by rw [Hid, List.length_take, L1.out]; omega
  obtain ⟨x, X⟩ : ∃ x, Hid (x = (Nm.trim zs).getD sk 0) := ⟨_, rfl⟩
  have hxc := HC.out sk (by rw [L1.out]; exact hskN)
  rw [← X.out] at hxc
  have HXC := hid hxc
  have hx0 := A5.out.at sk
  rw [← X.out] at hx0
  obtain ⟨hx0, hx1⟩ := hx0
  have hP0 := Nm.two_pos r
  have hP63 : (2 : Int) ^ r ≤ 9223372036854775808 := by
    have := Nm.two_mono (show r ≤ 63 by omega)
    have e : (2 : Int) ^ 63 = 9223372036854775808 := by decide
    omega
  obtain ⟨y, hy⟩ : ∃ y, bits .and .u64 x (2 ^ r - 1) = y := ⟨_, rfl⟩
  have YE := hid ((mask_low x r hr63 hx0 hx1).symm.trans hy)
  have y0 : 0 ≤ y := by rw [← YE.out]; exact Int.emod_nonneg _ (by omega)
  have y1 : y < 2 ^ r := by rw [← YE.out]; exact Int.emod_lt_of_pos _ hP0
  have hw1 : IntKind.u64.wrap (2 ^ r) = 2 ^ r := by rw [Sh.wrap_mod]; omega
  have QE : Hid (Nm.val zs % 2 ^ k = Nm.val ((Nm.trim zs).take sk) + Nm.pw sk * y) := by
    have h1 := Nm.val_drop (Nm.trim zs) sk (by rw [L1.out]; omega)
    have h2 := Nm.val_bd _ (A5.out.take sk)
    rw [TL.out] at h2
    have h3 : Nm.val ((Nm.trim zs).drop sk) = x + 18446744073709551616 * Nm.val ((Nm.trim zs).drop (sk + 1)) := by
      rw [X.out, List.drop_eq_getElem_cons (by rw [L1.out]; exact hskN), Nm.val]
      simp [List.getD, L1.out, hskN]
    have hp := Nm.pw_pos sk
    have c1 := Int.emod_add_mul_ediv x (2 ^ r)
    rw [YE.out] at c1
    have hPQ := Sh.split64 r hr63
    have e1 : Nm.val zs = Nm.val ((Nm.trim zs).take sk) + Nm.pw sk * y + 2 ^ k * (x / 2 ^ r + 2 ^ (64 - r) * Nm.val ((Nm.trim zs).drop (sk + 1))) := by
      rw [KE.out, Nm.two_add, ← Nm.pw_two, Int.mul_assoc, Int.mul_add (2 ^ r), ← Int.mul_assoc (2 ^ r), hPQ, ← V.out, h1, h3]
      have : x + 18446744073709551616 * Nm.val ((Nm.trim zs).drop (sk + 1)) = y + (2 ^ r * (x / 2 ^ r) + 18446744073709551616 * Nm.val ((Nm.trim zs).drop (sk + 1))) := by omega
      rw [this, Int.mul_add]
      omega
    have e2 : 0 ≤ Nm.pw sk * y := Int.mul_nonneg (by omega) y0
    have e3 : Nm.pw sk * (y + 1) ≤ Nm.pw sk * 2 ^ r := Int.mul_le_mul_of_nonneg_left (by omega) (by omega)
    rw [Int.mul_add, Int.mul_one, Nm.pw_two, ← Nm.two_add, ← KE.out, ← Nm.pw_two] at e3
    show _ = _
    rw [e1, Int.add_mul_emod_self_left, Int.emod_eq_of_lt (by omega) (by omega)]
  have Y64 : Hid (0 ≤ y ∧ y < 18446744073709551616) := by show _ ∧ _; omega
  clear T1 B1 ha tz hL hkk hsk hr hLt hb hxc y0 y1
  go_enter Tryz.func215, Tryz.ntmps215
  go_wp2_with fail
  refine HT.out.mono ?_
  rintro e w' ⟨rfl, rfl⟩
  go_wp2_with fail
  refine HB.out.mono ?_
  rintro e w' ⟨rfl, rfl⟩
  go_wp2_with fail
  refine (widened_any _ sk _ 1 1 ((Nm.trim zs).take sk) _ rfl TL.out (by omega) LT.out).mono ?_
  rintro e w1 ⟨rfl, ho, hb2, hz2⟩
  have hxc1 : w1.cell? ⟨b, off + sk, none⟩ = some (.int .u64 x) := (hb2.cell (p := ⟨b, off + sk, none⟩) hbw).trans HXC.out
  obtain ⟨u, hu⟩ : ∃ u, w1.cell? ⟨w'.heap.size, sk, none⟩ = some (.int .u64 u) := ⟨_, ho.cell sk (by rw [List.length_append, TL.out]; simp)⟩
  have hfr := ho.free sk
  have O1 := hid (ho.set sk y)
  have LL : ((Nm.trim zs).take sk ++ List.replicate 1 0).length = sk + 1 := by rw [List.length_append, TL.out, List.length_replicate]
  have O2 : Hid ((((Nm.trim zs).take sk ++ List.replicate 1 0).set sk y).length = sk + 1) := by rw [Hid, List.length_set, LL]
  have O3 := hid (((A5.out.take sk).append (Nm.Limbs.replicate 1)).set sk Y64.out.1 Y64.out.2)
  have O4 : Hid (Nm.val (((Nm.trim zs).take sk ++ List.replicate 1 0).set sk y) = Nm.val zs % 2 ^ k) := by
    have e0 : ((Nm.trim zs).take sk ++ List.replicate 1 0).getD sk 0 = 0 := by
      rw [List.getD, List.getElem?_append_right (by rw [TL.out]; omega), TL.out, Nat.sub_self]
      rfl
    rw [Hid, Nm.val_set _ _ _ (by omega), e0, Int.sub_zero, Nm.val_append, Nm.val_replicate, Int.mul_zero, Int.add_zero, QE.out]
  have O5 := hid (hb2.setCell (p := ⟨w'.heap.size, sk, none⟩) (Nat.le_refl _) (.int .u64 y))
  clear ho hb2 hz2 LL
  go_wp2_with fail
  refine (trimmed_any _ (sk + 1) (sk + 1) (((Nm.trim zs).take sk ++ List.replicate 1 0).set sk y) _ O2.out (Nat.le_refl _) (by omega) O1.out.lies).mono ?_
  rintro e w3 ⟨rfl, rfl⟩
  go_wp2_with fail
  go_ret2
  refine ⟨some ⟨w'.heap.size, 0, none⟩, Nm.trim (((Nm.trim zs).take sk ++ List.replicate 1 0).set sk y), ret_two (Nm.trim_length _).symm, ⟨O1.out.lies.trim, O3.out.trim, ?_, ?_, ?_⟩, O5.out⟩
  · rw [Nm.trim_trim, Nm.trim_length]
  · rw [Nm.val_trim, O4.out]
  · intro a h
    cases h
    exact Nat.le_refl _
end Go.Proofs.YtjkefcikepnbpaaGreatDoor

/-
  Low, whatever the number of bits.
-/
namespace Go.Proofs.YtjkefcikepnbpaaGreatDoor
open Go.RowKit Go.Deep

theorem low_any (p : Option Addr) (n cap : Nat) (zs : List Int) (kk : Int) (k : Nat) (w : World) (ha : Arg w p n cap zs) (tz : Nm.tsize zs ≤ 4096) (hkk : kk = (k : Int)) :
    Calls Tryz.prog 215 #[.slice p n cap, .int .i64 kk] w fun e w' => ∃ r os, e = .returned (.tuple #[.slice r (List.length os) (List.length os), .int .i64 0]) ∧ Ans w.heap.size w' r os (Nm.val zs % 2 ^ k) ∧ Below w.heap.size w w' := by
  obtain ⟨L, hL, BL, hl, _⟩ := blen_is zs ha.2.2.2.2
  have hv0 := (Nm.val_bd zs ha.2.2.2.2).1
  rw [← blen_trim_eq] at hL
  by_cases hb : k < L
  · exact low_ok p n cap zs kk k L w ha tz hkk hL hl hb
  · have hlt : Nm.val zs < 2 ^ k := by
      have := BL.1
      have := Nm.two_mono (show L ≤ k by omega)
      omega
    rw [Int.emod_eq_of_lt hv0 hlt]
    exact low_all p n cap zs kk L w ha tz (by omega) hL (by omega)
end Go.Proofs.YtjkefcikepnbpaaGreatDoor

namespace Go.Proofs.YtjkefcikepnbpaaGreatDoor
open Go Go.RowKit Go.Deep

theorem ans_small {B : Nat} {w : World} {r : Option Addr} {os : List Int} {v : Int} (h : Ans B w r os v) (k : Nat) (hv : v < Nm.pw k) : os.length ≤ k := by
  have := (Nm.tsize_le_iff h.2.1 k).2 (by rw [h.2.2.2.1]; exact hv)
  rw [h.2.2.1] at this
  exact this
end Go.Proofs.YtjkefcikepnbpaaGreatDoor

/-
  ieee: ratio (where the divisor leaves room), Round, RoundRatio.
-/
namespace Go.Proofs.YtjkefcikepnbpaaGreatDoor
open Go Go.RowKit Go.Deep

namespace Ie
/-- What is told of a fraction: the whole part of it moved, how far, and whether there is a rest. -/
def Quo (n d Q sh : Int) (rest : Bool) : Prop := ∀ e x, Rnd Q 1 (e - sh) rest x → Rnd n d e false x

theorem quo_up (V D : Int) (L M s : Nat) (hv : 2 ^ (L - 1) ≤ V) (hl : 1 ≤ L) (d0 : 0 < D) (hd : D < 2 ^ M) (hs : L + s = M + 64) : Quo V D (V * 2 ^ s / D) s (decide (V * 2 ^ s % D ≠ 0)) := by
  intro e x h
  refine Rnd.num s (rnd_floor (V * 2 ^ s) D (e - s) x d0 ?_ h)
  rw [Int.le_ediv_iff_mul_le d0]
  have g1 : (2 : Int) ^ (L - 1 + s) ≤ V * 2 ^ s := by rw [Nm.two_add]; exact Int.mul_le_mul_of_nonneg_right hv (by have := Nm.two_pos s; omega)
  rw [show L - 1 + s = 63 + M by omega, Nm.two_add] at g1
  have e63 : (2 : Int) ^ 63 = 9223372036854775808 := by decide
  rw [e63] at g1
  have := Nm.two_pos M
  omega

theorem quo_down (V D : Int) (L M s : Nat) (v0 : 0 < V) (hv : 2 ^ (L - 1) ≤ V) (hl : 1 ≤ L) (d0 : 0 < D) (hd : D < 2 ^ M) (hs : L = M + 64 + s) : Quo V D (V / 2 ^ s / D) (-(s : Int)) (decide (V % 2 ^ s ≠ 0) || decide (V / 2 ^ s % D ≠ 0)) := by
  have hp := Nm.two_pos s
  have hD : 0 < D * 2 ^ s := Int.mul_pos d0 hp
  have a1 := Int.mul_ediv_add_emod V (2 ^ s)
  have a2 := Int.emod_nonneg V (show (2 : Int) ^ s ≠ 0 by omega)
  have a3 := Int.emod_lt_of_pos V hp
  have b1 := Int.mul_ediv_add_emod (V / 2 ^ s) D
  have b2 := Int.emod_nonneg (V / 2 ^ s) (show D ≠ 0 by omega)
  have b3 := Int.emod_lt_of_pos (V / 2 ^ s) d0
  generalize V % 2 ^ s = r1 at *
  generalize V / 2 ^ s = q1 at *
  generalize q1 % D = r2 at *
  generalize q1 / D = q at *
  have c0 : 0 ≤ 2 ^ s * r2 := Int.mul_nonneg (by omega) b2
  have c1 : 2 ^ s * (r2 + 1) ≤ 2 ^ s * D := Int.mul_le_mul_of_nonneg_left (by omega) (by omega)
  rw [Int.mul_add, Int.mul_one, Int.mul_comm (2 ^ s) D] at c1
  have key : q * (D * 2 ^ s) + (2 ^ s * r2 + r1) = V := by
    rw [← a1, ← b1, Int.mul_add, ← Int.add_assoc]
    congr 2
    ac_rfl
  obtain ⟨k1, k2⟩ := div_is (A := V) (B := D * 2 ^ s) (q := q) (r := 2 ^ s * r2 + r1) (by omega) (by omega) key
  intro e x h
  refine Rnd.den s (rnd_floor V (D * 2 ^ s) (e + s) x hD ?_ ?_)
  · rw [Int.le_ediv_iff_mul_le hD]
    rw [show L - 1 = 63 + (M + s) by omega, Nm.two_add, Nm.two_add] at hv
    have e63 : (2 : Int) ^ 63 = 9223372036854775808 := by decide
    have g : D * 2 ^ s ≤ 2 ^ M * 2 ^ s := Int.mul_le_mul_of_nonneg_right (by omega) (by omega)
    rw [e63] at hv
    omega
  · rw [k1, k2]
    have e1 : decide (2 ^ s * r2 + r1 ≠ 0) = (decide (r1 ≠ 0) || decide (r2 ≠ 0)) := by
      rw [Bool.eq_iff_iff, Bool.or_eq_true, decide_eq_true_iff, decide_eq_true_iff, decide_eq_true_iff]
      rcases (show r2 = 0 ∨ 0 < r2 by omega) with h0 | h0
      · subst h0
        rw [Int.mul_zero]
        omega
      · have := Int.mul_pos hp h0
        omega
    rw [e1]
    rw [show e - -(s : Int) = e + s by omega] at h
    exact h
end Ie

/-- What ratio tells. -/
def RatioTold (V D : Int) (w : World) (e : Ending) (w' : World) : Prop :=
  ∃ r os Q sh rest, e = .returned (.tuple #[.slice r (List.length os) (List.length os), .int .i64 sh, .bool rest]) ∧ Ans w.heap.size w' r os Q ∧ Below w.heap.size w w' ∧ Nm.tsize os ≤ 4096 ∧ (-262144 ≤ sh ∧ sh ≤ 262208) ∧ Ie.Quo V D Q sh rest

theorem pos_len {B : Nat} {w : World} {r : Option Addr} {os : List Int} {v : Int} (h : Ans B w r os v) : decide (0 < os.length) = decide (v ≠ 0) := by
  have h1 := Nm.tsize_zero_iff h.2.1
  rw [h.2.2.1, h.2.2.2.1] at h1
  rw [decide_eq_decide]
  omega

set_option maxRecDepth 100000 in
set_option maxHeartbeats 2000000 in
theorem ratio_up (p q : Option Addr) (n cap m cap' : Nat) (zs ys : List Int) (w : World) (ha : Arg w p n cap zs) (hb : Arg w q m cap' ys) (tz : Nm.tsize zs ≤ 4096) (ty : Nm.tsize ys ≤ 4096) (V D : Int) (L M s : Nat) (hV : Nm.val zs = V) (hD : Nm.val ys = D) (hv : 0 < V) (hd : 0 < D)
    (hL : blen zs = (L : Int)) (hM : blen ys = (M : Int)) (BL : Nm.BLen V L) (BM : Nm.BLen D M) (hM2 : M + 64 ≤ 262144) (hs : L + s = M + 64) :
    Calls Tryz.prog 203 #[.slice p n cap, .slice q m cap'] w fun e w' => RatioTold V D w e w' := by
  have B1 := hid (bitLen_n L p n cap zs w ha hL)
  have B2 := hid (bitLen_n M q m cap' ys w hb hM)
  have hpw : V * 2 ^ s < Nm.pw 4096 := by
    have g1 : V * 2 ^ s < 2 ^ (L + s) := by rw [Nm.two_add]; exact Int.mul_lt_mul_of_pos_right BL.1 (Nm.two_pos s)
    have g2 := Nm.two_mono (show L + s ≤ 64 * 4096 by omega)
    rw [Nm.pw_two]
    omega
  have S := hid (fun (kk : Int) (hkk : kk = (s : Int)) => shl_any p n cap zs kk s w ha tz hkk (by rw [hV]; exact hpw))
  have Q := hid (Ie.quo_up V D L M s (BL.2.2 hv).2 (BL.2.2 hv).1 hd BM.1 hs)
  have HV := hid hV
  have HD := hid hD
  have HP := hid hpw
  have HB := hid hb
  have TY := hid ty
  have v1 : 0 < Nm.tsize ys := by
    rcases Nat.eq_zero_or_pos (Nm.tsize ys) with h | h
    · have := (Nm.tsize_zero_iff hb.2.2.2.2).1 h; omega
    · exact h
  have HY := hid v1
  have l1 : decide (262144 < (M : Int) + 64) = false := by simp; omega
  have l2 : decide ((M : Int) + 64 - (L : Int) < 0) = false := by simp; omega
  have l3 : (L : Int) ≤ 300000 := by omega
  have l4 : (M : Int) ≤ 300000 := by omega
  have ls := hid (show (M : Int) + 64 - (L : Int) = (s : Int) by omega)
  have HS := hid (show (s : Int) ≤ 262208 by omega)
  have vp := hid (show 0 ≤ V * 2 ^ s from Int.mul_nonneg (by omega) (by have := Nm.two_pos s; omega))
  have hdd := hid hd
  clear ha hb tz ty hV hD hv hd hL hM BL BM hM2 hs hpw v1
  go_enter Tryz.func203, Tryz.ntmps203
  go_wp2_with fail
  refine B2.out.mono ?_
  rintro e w' ⟨rfl, rfl⟩
  go_wp2_with fail
  refine B1.out.mono ?_
  rintro e w' ⟨rfl, rfl⟩
  go_wp2_with fail
  refine (S.out _ ls.out).mono ?_
  rintro e w1 ⟨r, os, rfl, A, hB⟩
  rw [HV.out] at A
  have A1 := ans_small A 4096 HP.out
  have hb1 := HB.out.below hB (Nat.le_refl _)
  have DM := divMod_ok r q _ _ m cap' os ys w1 (A.arg (by omega)) hb1 (by rw [A.2.2.1]; exact A1) TY.out HY.out
  rw [A.2.2.2.1, HD.out] at DM
  have DM := hid DM
  have HB1 := hid hB
  clear A A1 hb1 hB S B1 B2 HB
  go_wp2_with fail
  refine DM.out.mono ?_
  rintro e w2 ⟨r1, qs, r2, rs, rfl, A2, A3, hB2⟩
  have P3 := hid (pos_len A3)
  have vq : V * 2 ^ s / D < Nm.pw 4096 := by
    have := Int.ediv_le_self D vp.out
    have := HP.out
    omega
  have ch := HB1.out.trans (hB2.mono HB1.out.size)
  have K : Hid (∀ sh rest, sh = (s : Int) → rest = decide (V * 2 ^ s % D ≠ 0) → RatioTold V D w' (.returned (.tuple #[.slice r1 (List.length qs) (List.length qs), .int .i64 sh, .bool rest])) w2) := by
    intro sh rest hsh hrest
    subst hsh hrest
    have A2' : Ans w'.heap.size w2 r1 qs (V * 2 ^ s / D) := ⟨A2.1, A2.2.1, A2.2.2.1, A2.2.2.2.1, fun a h => by have := A2.2.2.2.2 a h; have := HB1.out.size; omega⟩
    exact ⟨r1, qs, _, _, _, rfl, A2', ch, by rw [A2.2.2.1]; exact ans_small A2 4096 vq, ⟨by have := HS.out; omega, by have := HS.out; omega⟩, Q.out⟩
  clear A2 A3 vq ch hB2 DM HB1 Q HV HD HP TY HY vp hdd
  go_wp2_with fail
  go_ret3
  exact K.out _ _ ls.out P3.out
set_option maxRecDepth 100000 in
set_option maxHeartbeats 2000000 in
theorem ratio_down (p q : Option Addr) (n cap m cap' : Nat) (zs ys : List Int) (w : World) (ha : Arg w p n cap zs) (hb : Arg w q m cap' ys) (tz : Nm.tsize zs ≤ 4096) (ty : Nm.tsize ys ≤ 4096) (V D : Int) (L M s : Nat) (hV : Nm.val zs = V) (hD : Nm.val ys = D) (hv : 0 < V) (hd : 0 < D)
    (hL : blen zs = (L : Int)) (hM : blen ys = (M : Int)) (BL : Nm.BLen V L) (BM : Nm.BLen D M) (hM2 : M + 64 ≤ 262144) (hL2 : L ≤ 262144) (hs : L = M + 64 + s) (hs0 : 0 < s) (hT : Tab w) :
    Calls Tryz.prog 203 #[.slice p n cap, .slice q m cap'] w fun e w' => RatioTold V D w e w' := by
  have B1 := hid (bitLen_n L p n cap zs w ha hL)
  have B2 := hid (bitLen_n M q m cap' ys w hb hM)
  have hp := Nm.two_pos s
  have hpw : V / 2 ^ s < Nm.pw 4096 := by
    have g1 := Int.ediv_le_self (2 ^ s) (show 0 ≤ V by omega)
    have g2 := Nm.two_mono (show L ≤ 64 * 4096 by omega)
    have := BL.1
    rw [Nm.pw_two]
    omega
  have S := hid (fun (kk : Int) (hkk : kk = (s : Int)) => shr_any p n cap zs kk s w ha hT tz hkk)
  have Q := hid (Ie.quo_down V D L M s hv (BL.2.2 hv).2 (BL.2.2 hv).1 hd BM.1 hs)
  have HV := hid hV
  have HD := hid hD
  have HP := hid hpw
  have HB := hid hb
  have TY := hid ty
  have v1 : 0 < Nm.tsize ys := by
    rcases Nat.eq_zero_or_pos (Nm.tsize ys) with h | h
    · have := (Nm.tsize_zero_iff hb.2.2.2.2).1 h; omega
    · exact h
  have HY := hid v1
  have l1 : decide (262144 < (M : Int) + 64) = false := by simp; omega
  have l2 : (M : Int) + 64 - (L : Int) < 0 := by omega
  have l3 : (L : Int) ≤ 300000 := by omega
  have l4 : (M : Int) ≤ 300000 := by omega
  have ls := hid (show (M : Int) + 64 - (L : Int) = -(s : Int) by omega)
  have HS := hid (show (s : Int) ≤ 262144 by omega)
  have vp := hid (show 0 ≤ V / 2 ^ s from Int.ediv_nonneg (by omega) (by omega))
  obtain ⟨lost, hlost⟩ : ∃ lost, decide (V % 2 ^ s ≠ 0) = lost := ⟨_, rfl⟩
  rw [hlost] at Q
  have HLO := hid hlost
  have hdd := hid hd
  clear ha hb tz ty hV hD hv hd hL hM BL BM hM2 hs hs0 hpw v1 hT hL2 hp hlost
  go_enter Tryz.func203, Tryz.ntmps203
  go_wp2_with fail
  refine B2.out.mono ?_
  rintro e w' ⟨rfl, rfl⟩
  go_wp2_with fail
  refine B1.out.mono ?_
  rintro e w' ⟨rfl, rfl⟩
  go_wp2_with fail
  refine (S.out _ (by have := ls.out; omega)).mono ?_
  rintro e w1 ⟨r, os, rfl, A, hB⟩
  rw [HV.out] at A ⊢
  rw [HLO.out]
  have A1 := ans_small A 4096 HP.out
  have hb1 := HB.out.below hB (Nat.le_refl _)
  have DM := divMod_ok r q _ _ m cap' os ys w1 (A.arg (by omega)) hb1 (by rw [A.2.2.1]; exact A1) TY.out HY.out
  rw [A.2.2.2.1, HD.out] at DM
  have DM := hid DM
  have HB1 := hid hB
  clear A A1 hb1 hB S B1 B2 HB
  go_wp2_with fail
  refine DM.out.mono ?_
  rintro e w2 ⟨r1, qs, r2, rs, rfl, A2, A3, hB2⟩
  have P3 := hid (pos_len A3)
  have vq : V / 2 ^ s / D < Nm.pw 4096 := by
    have := Int.ediv_le_self D vp.out
    have := HP.out
    omega
  have ch := HB1.out.trans (hB2.mono HB1.out.size)
  have K : Hid (∀ sh rest, sh = -(s : Int) → rest = (lost || decide (V / 2 ^ s % D ≠ 0)) → RatioTold V D w' (.returned (.tuple #[.slice r1 (List.length qs) (List.length qs), .int .i64 sh, .bool rest])) w2) := by
    intro sh rest hsh hrest
    subst hsh hrest
    have A2' : Ans w'.heap.size w2 r1 qs (V / 2 ^ s / D) := ⟨A2.1, A2.2.1, A2.2.2.1, A2.2.2.2.1, fun a h => by have := A2.2.2.2.2 a h; have := HB1.out.size; omega⟩
    exact ⟨r1, qs, _, _, _, rfl, A2', ch, by rw [A2.2.2.1]; exact ans_small A2 4096 vq, ⟨by have := HS.out; omega, by have := HS.out; omega⟩, Q.out⟩
  clear A2 A3 vq ch hB2 DM HB1 Q HV HD HP TY HY vp hdd
  cases lost
  · go_wp2_with fail
    go_ret3
    exact K.out _ _ ls.out (by rw [Bool.false_or]; exact P3.out)
  · go_wp2_with fail
    go_ret3
    exact K.out _ _ ls.out (by simp)

theorem ratio_any (p q : Option Addr) (n cap m cap' : Nat) (zs ys : List Int) (w : World) (ha : Arg w p n cap zs) (hb : Arg w q m cap' ys) (hT : Tab w) (tz : Nm.tsize zs ≤ 4096) (ty : Nm.tsize ys ≤ 4095) (V D : Int) (hV : Nm.val zs = V) (hD : Nm.val ys = D) (hv : 0 < V) (hd : 0 < D) :
    Calls Tryz.prog 203 #[.slice p n cap, .slice q m cap'] w fun e w' => RatioTold V D w e w' := by
  obtain ⟨L, hL, BL, hl, _⟩ := blen_is zs ha.2.2.2.2
  obtain ⟨M, hM, BM, hm, _⟩ := blen_is ys hb.2.2.2.2
  rw [hV] at BL
  rw [hD] at BM
  rcases Nat.lt_or_ge (M + 64) L with h | h
  · exact ratio_down p q n cap m cap' zs ys w ha hb tz (by omega) V D L M (L - (M + 64)) hV hD hv hd hL hM BL BM (by omega) (by omega) (by omega) (by omega) hT
  · exact ratio_up p q n cap m cap' zs ys w ha hb tz (by omega) V D L M (M + 64 - L) hV hD hv hd hL hM BL BM (by omega) (by omega)

set_option maxRecDepth 100000 in
set_option maxHeartbeats 2000000 in
theorem roundRatio_any (neg : Bool) (p q : Option Addr) (n cap m cap' : Nat) (zs ys : List Int) (w : World) (ha : Arg w p n cap zs) (hb : Arg w q m cap' ys) (hT : Tab w) (tz : Nm.tsize zs ≤ 4096) (ty : Nm.tsize ys ≤ 4095) (V D e : Int) (hV : Nm.val zs = V) (hD : Nm.val ys = D) (hd : 0 < D) :
    Calls Tryz.prog 199 #[.bool neg, .slice p n cap, .slice q m cap', .int .i64 e] w fun r w' => ∃ x, r = .returned (.tuple #[.int .u64 (Ie.sg neg x), .int .i64 0]) ∧ Ie.Rnd V D e false x ∧ Below w.heap.size w w' := by
  obtain ⟨L, hL, BL, hl, _⟩ := blen_is zs ha.2.2.2.2
  obtain ⟨M, hM, BM, hm, _⟩ := blen_is ys hb.2.2.2.2
  rw [hV] at BL
  rw [hD] at BM
  have B1 := hid (bitLen_n L p n cap zs w ha hL)
  have B2 := hid (bitLen_n M q m cap' ys w hb hM)
  have v0 : 0 ≤ V := by rw [← hV]; exact (Nm.val_bd zs ha.2.2.2.2).1
  have l1 : decide (262144 < (L : Int)) = false := by simp; omega
  have l2 : decide (262144 < (M : Int)) = false := by simp; omega
  have m0 : 0 < M := (BM.2.2 hd).1
  have l3 : ((M : Int) == 0) = false := by rw [beq_eq_false_iff_ne]; omega
  rcases (show V = 0 ∨ 0 < V by omega) with hv | hv
  · have hL0 : L = 0 := BL.2.1 hv
    subst hL0
    have R := hid (Ie.rnd_zero D e false hd)
    have SG := hid (signed_any neg 0 w (by omega) (by omega))
    subst hv
    clear ha hb hT tz ty hV hD hd hL hM BL BM hl hm v0 m0
    go_enter Tryz.func199, Tryz.ntmps199
    go_wp2_with fail
    refine B1.out.mono ?_
    rintro e' w' ⟨rfl, rfl⟩
    go_wp2_with fail
    refine B2.out.mono ?_
    rintro e' w' ⟨rfl, rfl⟩
    go_wp2_with fail
    refine B2.out.mono ?_
    rintro e' w' ⟨rfl, rfl⟩
    go_wp2_with fail
    refine B1.out.mono ?_
    rintro e' w' ⟨rfl, rfl⟩
    go_wp2_with fail
    refine SG.out.mono ?_
    rintro e' w' ⟨rfl, rfl⟩
    go_wp2_with fail
    go_ret2
    exact ⟨0, rfl, R.out, Below.refl _ _⟩
  · have RA := hid (ratio_any p q n cap m cap' zs ys w ha hb hT tz ty V D hV hD hv hd)
    have WI := hid (fun (x : Int) => Ie.win_ok (n := V) (d := D) (e := e) (x := x) (more := false) L M v0 BL.1 hd (by have := BM.1; omega) (by omega) (by omega))
    have W0 := hid (fun (wx : World) => within_any e wx)
    obtain ⟨we, hwe⟩ : ∃ we, Ie.win e = we := ⟨_, rfl⟩
    have wb := Ie.win_bd e
    rw [hwe] at wb W0 WI
    obtain ⟨wb1, wb2⟩ := wb
    have l0 : 0 < L := (BL.2.2 hv).1
    have l4 : ((L : Int) == 0) = false := by rw [beq_eq_false_iff_ne]; omega
    have HT := hid hT
    clear ha hb hT tz ty hV hD hd hL hM BL BM hl hm v0 m0 hwe l0 hv
    go_enter Tryz.func199, Tryz.ntmps199
    go_wp2_with fail
    refine B1.out.mono ?_
    rintro e' w' ⟨rfl, rfl⟩
    go_wp2_with fail
    refine B2.out.mono ?_
    rintro e' w' ⟨rfl, rfl⟩
    go_wp2_with fail
    refine B2.out.mono ?_
    rintro e' w' ⟨rfl, rfl⟩
    go_wp2_with fail
    refine B1.out.mono ?_
    rintro e' w' ⟨rfl, rfl⟩
    go_wp2_with fail
    refine RA.out.mono ?_
    rintro e' w1 ⟨r, os, Q, sh, rest, rfl, A, hB, to4, ⟨s1, s2⟩, QU⟩
    have lo : os.length ≤ 4096 := by rw [← A.2.2.1]; exact to4
    have NR := hid (nearest_any r _ _ os w1 (A.arg (by omega)) (HT.out.below hB) to4 Q (we - sh) rest A.2.2.2.1 (by omega) (by omega))
    have HB := hid hB
    have QQ := hid QU
    clear A hB to4 QU lo B1 B2 RA HT
    go_wp2_with fail
    refine (W0.out w1).mono ?_
    rintro e' w' ⟨rfl, rfl⟩
    go_wp2_with fail
    refine NR.out.mono ?_
    rintro e' w2 ⟨x, rfl, R, hB⟩
    have bd := R.bd
    have R1 := hid (WI.out x (QQ.out we x R))
    have SG := hid (signed_any neg x w2 bd.1 (by omega))
    have HB2 := hid (HB.out.trans (hB.mono HB.out.size))
    clear R bd hB
    go_wp2_with fail
    refine SG.out.mono ?_
    rintro e' w3 ⟨rfl, rfl⟩
    go_wp2_with fail
    go_ret2
    exact ⟨x, rfl, R1.out, HB2.out⟩
end Go.Proofs.YtjkefcikepnbpaaGreatDoor

namespace Go.Proofs.YtjkefcikepnbpaaGreatDoor
open Go Go.RowKit Go.Deep

/-- The table of the powers of ten that are doubles. -/
def Tens (w : World) : Prop := ∀ j : Nat, j < 23 → w.cell? ⟨10, j * 2, none⟩ = some (.int .u64 (lo64 (10 ^ j))) ∧ w.cell? ⟨10, j * 2 + 1, none⟩ = some (.int .u64 (hi64 (10 ^ j)))
theorem Tens.below {w w' : World} (h : Tens w) (hb : Below w.heap.size w w') : Tens w' := by
  intro j hj
  have hc := h j hj
  rw [hb.cell (p := ⟨10, j * 2, none⟩) (cell_lt hc.1), hb.cell (p := ⟨10, j * 2 + 1, none⟩) (cell_lt hc.2)]
  exact hc

def SmallTold (v q : Int) (w : World) (e : Ending) (w' : World) : Prop :=
  ((v ≤ 9007199254740992 ∧ -22 ≤ q ∧ q ≤ 22 ∧ ∃ x, e = .returned (.tuple #[.int .u64 x, .bool true]) ∧ Ie.Rnd (v * 10 ^ q.toNat) (10 ^ (-q).toNat) 0 false x) ∨
    ((9007199254740992 < v ∨ q < -22 ∨ 22 < q) ∧ e = .returned (.tuple #[.int .u64 0, .bool false]))) ∧ Below w.heap.size w w'

theorem ten_bd {j : Nat} (h : j < 23) : 0 < (10 : Int) ^ j ∧ (10 : Int) ^ j < 340282366920938463463374607431768211456 := by
  refine ⟨Int.pow_pos (by decide), ?_⟩
  have h1 := Nat.pow_le_pow_right (show 0 < 10 by decide) (show j ≤ 22 by omega)
  have e : ∀ k : Nat, ((10 ^ k : Nat) : Int) = 10 ^ k := by intro k; simp
  have e1 := e j
  have e2 := e 22
  have e3 : (10 : Int) ^ 22 = 10000000000000000000000 := by decide +kernel
  omega

set_option maxRecDepth 100000 in
set_option maxHeartbeats 1000000 in
theorem small_any9 (v q : Int) (w : World) (hT : Tab w) (hX : Tens w) (hv : Bd v) :
    Calls Tryz.prog 224 #[.int .u64 v, .int .i64 q] w fun e w' => SmallTold v q w e w' := by
  by_cases h : v ≤ 9007199254740992 ∧ -22 ≤ q ∧ q ≤ 22
  · by_cases h0 : 0 ≤ q
    · obtain ⟨j, hj⟩ := Int.eq_ofNat_of_zero_le h0
      have tb := ten_bd (show j < 23 by omega)
      have bs := bd_split (P := 10 ^ j) (by omega) tb.2
      have TM := hid (fun wx => ptimes_any v (lo64 (10 ^ j)) (hi64 (10 ^ j)) wx hv bs.1 bs.2)
      rw [n2_split] at TM
      obtain ⟨c0, c1⟩ := hX j (by omega)
      have PR := hid (fun (a b c : Int) (wx : World) (hb : Below w.heap.size w wx) (hh : Bd a ∧ Bd b ∧ Bd c) => pround_any a b c 0 wx (hT.below hb) hh)
      have FF : Hid (∀ x w', Ie.Rnd (v * 10 ^ j) 1 0 false x → Below w.heap.size w w' → SmallTold v q w (.returned (.tuple #[.int .u64 x, .bool true])) w') := fun x w' r b => ⟨.inl ⟨h.1, h.2.1, h.2.2, x, rfl, by rw [show q.toNat = j by omega, show (-q).toNat = 0 by omega]; exact r⟩, b⟩
      have a0 : (j : Int) ≤ 22 := by omega
      have a1 : v ≤ 9007199254740992 := h.1
      have a2 : 0 ≤ v := hv.1
      subst hj
      clear h hT hX hv tb bs h0
      unfold wideV prodV at *
      generalize lo64 (10 ^ j) = x at *
      generalize hi64 (10 ^ j) = y at *
      go_enter Tryz.func224, Tryz.ntmps224
      go_wp2_with fail
      with_reducible refine (TM.out _).mono ?_
      rintro e w1 ⟨a, b, c, rfl, hbd, hn, hB⟩
      have BD := hid hbd
      have NN := hid hn
      have HB := hid hB
      clear hbd hn TM
      go_wp2_with fail
      with_reducible refine (PR.out a b c _ hB BD.out).mono ?_
      rintro e w2 ⟨z, rfl, hR, hB2⟩
      rw [NN.out] at hR
      have F := hid (FF.out z w2 hR (below_on HB.out hB2))
      clear hB hB2 hR FF PR
      go_wp2_with fail
      go_ret2
      exact F.out
    · obtain ⟨j, hj⟩ := Int.eq_ofNat_of_zero_le (show 0 ≤ -q by omega)
      have tb := ten_bd (show j < 23 by omega)
      have bs := bd_split (P := 10 ^ j) (by omega) tb.2
      obtain ⟨c0, c1⟩ := hX j (by omega)
      have RR : Hid (∀ wx, wx = ((w.alloc (.cells #[.int .u64 (lo64 (10 ^ j)), .int .u64 (hi64 (10 ^ j))] 249)).alloc (.cells #[.int .u64 v] 22)) → Calls Tryz.prog 199 #[.bool false, .slice (some ⟨w.heap.size + 1, 0, none⟩) 1 1, .slice (some ⟨w.heap.size, 0, none⟩) 2 2, .int .i64 0] wx fun e w' => ∃ x, e = .returned (.tuple #[.int .u64 x, .int .i64 0]) ∧ Ie.Rnd v (10 ^ j) 0 false x ∧ Below w.heap.size w w') := by
        intro wx hw
        subst hw
        have b2 : Below w.heap.size w ((w.alloc (.cells #[.int .u64 (lo64 (10 ^ j)), .int .u64 (hi64 (10 ^ j))] 249)).alloc (.cells #[.int .u64 v] 22)) := below_on (alloc_b _ _) (alloc_b _ _)
        refine (roundRatio_any false _ _ 1 1 2 2 [v] [lo64 (10 ^ j), hi64 (10 ^ j)] _ (arg_lit9 (heap_alloc2_new _ _ _) hv.1 hv.2) (At2.arg (heap_alloc2_old _ _ _) bs.1.1 bs.1.2 bs.2.1 bs.2.2) (hT.below b2) (Nat.le_trans (Nm.tsize_le _) (by simp)) (Nat.le_trans (Nm.tsize_le _) (by simp)) v (10 ^ j) 0 (by simp [Nm.val]) (by rw [n2_val, n2_split]) tb.1).mono ?_
        rintro e w' ⟨x, rfl, r, hB⟩
        exact ⟨x, by unfold Ie.sg; rfl, r, below_on b2 hB⟩
      have FF : Hid (∀ x w', Ie.Rnd v (10 ^ j) 0 false x → Below w.heap.size w w' → SmallTold v q w (.returned (.tuple #[.int .u64 x, .bool true])) w') := fun x w' r b => ⟨.inl ⟨h.1, h.2.1, h.2.2, x, rfl, by rw [show q.toNat = 0 by omega, show (-q).toNat = j by omega, Int.pow_zero, Int.mul_one]; exact r⟩, b⟩
      have a0 : (j : Int) ≤ 22 := by omega
      have a1 : v ≤ 9007199254740992 := h.1
      have a2 : 0 ≤ v := hv.1
      have a3 : -22 ≤ q := h.2.1
      have a4 : q < 0 := by omega
      clear h hT hX hv tb bs h0
      generalize lo64 (10 ^ j) = x at *
      generalize hi64 (10 ^ j) = y at *
      go_enter Tryz.func224, Tryz.ntmps224
      go_wp2_with fail
      with_reducible refine (RR.out _ rfl).mono ?_
      rintro e w2 ⟨z, rfl, hR, hB2⟩
      have F := hid (FF.out z w2 hR hB2)
      clear hB2 hR FF RR
      go_wp2_with fail
      go_ret2
      exact F.out
  · have F : Hid (SmallTold v q w (.returned (.tuple #[.int .u64 0, .bool false])) w) := ⟨.inr ⟨by omega, rfl⟩, Below.refl _ _⟩
    clear hT hX hv
    by_cases k1 : 9007199254740992 < v
    · clear h
      go_enter Tryz.func224, Tryz.ntmps224
      go_wp2_with fail
      go_ret2
      exact F.out
    · by_cases k2 : q ≤ -23
      · clear h
        go_enter Tryz.func224, Tryz.ntmps224
        go_wp2_with fail
        go_ret2
        exact F.out
      · have k3 : 23 ≤ q := by omega
        clear h
        go_enter Tryz.func224, Tryz.ntmps224
        go_wp2_with fail
        go_ret2
        exact F.out
end Go.Proofs.YtjkefcikepnbpaaGreatDoor

namespace Go.Proofs.YtjkefcikepnbpaaGreatDoor
open Go Go.RowKit Go.Deep

/-- What a row of digits writes. -/
def dw (ds : List Int) : Int := ds.foldl (fun a d => 10 * a + (d - 48)) 0
theorem dw_snoc (ds : List Int) (x : Int) : dw (ds ++ [x]) = 10 * dw ds + (x - 48) := by unfold dw; rw [List.foldl_append]; rfl
def Dig9 (ds : List Int) : Prop := ∀ x ∈ ds, 48 ≤ x ∧ x ≤ 57
theorem take_snoc {ds : List Int} {j : Nat} (h : j < ds.length) : ds.take (j + 1) = ds.take j ++ [ds.getD j 0] := by
  rw [List.take_add_one]
  simp [List.getD, h]
theorem dw_take {ds : List Int} {j : Nat} (h : j < ds.length) : dw (ds.take (j + 1)) = 10 * dw (ds.take j) + (ds.getD j 0 - 48) := by rw [take_snoc h, dw_snoc]
theorem Dig9.at {ds : List Int} (h : Dig9 ds) {j : Nat} (hj : j < ds.length) : 48 ≤ ds.getD j 0 ∧ ds.getD j 0 ≤ 57 := h _ (by simp [List.getD, hj])
theorem dw_bd {ds : List Int} (h : Dig9 ds) : ∀ j, j ≤ ds.length → 0 ≤ dw (ds.take j) ∧ dw (ds.take j) < 10 ^ j
  | 0, _ => by simp [dw]
  | j + 1, hj => by
    have ih := dw_bd h j (by omega)
    have := h.at (show j < ds.length by omega)
    rw [dw_take (by omega), Int.pow_succ]
    omega
theorem ten19 {j : Nat} (h : j ≤ 19) : (10 : Int) ^ j ≤ 10000000000000000000 := by
  have h1 := Nat.pow_le_pow_right (show 0 < 10 by decide) h
  have e : ∀ k : Nat, ((10 ^ k : Nat) : Int) = 10 ^ k := by intro k; simp
  have e1 := e j
  have e2 := e 19
  have e3 : (10 : Int) ^ 19 = 10000000000000000000 := by decide +kernel
  omega

set_option maxRecDepth 100000 in
set_option maxHeartbeats 1000000 in
theorem natural_any9 (s : ByteArray) (xs : List Int) (w : World) (hs : Str s xs) (hd : Dig9 xs) (hn : xs.length ≤ 19) :
    Calls Tryz.prog 223 #[.string s] w fun e w' => e = .returned (.int .u64 (dw xs)) ∧ w' = w := by
  have hsz := hs.size
  have ST : Hid (∀ j, j < xs.length → (∀ ht : j < s.size, ((s[j]'ht).toNat : Int) = xs.getD j 0) ∧ (48 ≤ xs.getD j 0 ∧ xs.getD j 0 ≤ 57) ∧ dw (xs.take (j + 1)) = 10 * dw (xs.take j) + (xs.getD j 0 - 48) ∧ 0 ≤ dw (xs.take j) ∧ dw (xs.take j) < 1000000000000000000) := fun j hj => ⟨hs.at j, hd.at hj, dw_take hj, (dw_bd hd j (by omega)).1, by
    have := (dw_bd hd j (by omega)).2
    have h1 := Nat.pow_le_pow_right (show 0 < 10 by decide) (show j ≤ 18 by omega)
    have e : ∀ k : Nat, ((10 ^ k : Nat) : Int) = 10 ^ k := by intro k; simp
    have e1 := e j
    have e2 := e 18
    have e3 : (10 : Int) ^ 18 = 1000000000000000000 := by decide +kernel
    omega⟩
  have FIN : Hid (∀ j, j ≤ xs.length → ¬ j < xs.length → dw (xs.take j) = dw xs) := fun j h1 h2 => by rw [List.take_of_length_le (by omega)]
  have n1 : (xs.length : Int) ≤ 19 := by omega
  have hz0 : dw (xs.take 0) = 0 := by simp [dw]
  clear hs hd hn
  go_enter Tryz.func223, Tryz.ntmps223
  go_wp2_with fail
  go_loop [3, 7] (fun a i => ∃ (j : Nat) (x : Int), a = .int .u64 x ∧ i = .int .i64 j ∧ Hid (j ≤ xs.length ∧ x = dw (xs.take j))) (fun _ i => xs.length - (intOf i).toNat)
  case atStart => exact ⟨0, 0, rfl, rfl, Nat.zero_le _, hz0.symm⟩
  case round =>
    obtain ⟨j, x, rfl, rfl, I⟩ := hrel
    have hjb : (j : Int) ≤ 19 := by have := I.out.1; omega
    by_cases hj : j < xs.length
    · have hji : (j : Int) < (xs.length : Int) := by omega
      obtain ⟨hx, hd, hst, b0, b1⟩ := ST.out j hj
      have hjs : j < s.size := by omega
      have hxx := I.out.2
      rw [← hxx] at hst b0 b1
      have I2 : Hid (j + 1 ≤ xs.length ∧ 10 * x + (xs.getD j 0 - 48) = dw (xs.take (j + 1))) := ⟨by omega, hst.symm⟩
      clear I hxx hst
      generalize xs.getD j 0 = y at *
      go_wp2_with fail
      go_round
      case rel => exact ⟨j + 1, _, rfl, by go_num, I2.out⟩
      case measure => simp [intOf]; omega
    · have hji : ¬ (j : Int) < (xs.length : Int) := by omega
      have hxx := I.out.2
      rw [FIN.out j I.out.1 hj] at hxx
      subst hxx
      clear I
      go_wp2_with fail
      go_ret
      exact ⟨rfl, rfl⟩

/-- What tell tells of a row of digits. -/
def TellIs (xs : List Int) (e x : Int) (s : Bool) : Prop :=
  (xs.length ≤ 19 ∧ ((dw xs ≤ 9007199254740992 ∧ -22 ≤ e ∧ e ≤ 22 ∧ s = true ∧ Ie.Rnd (dw xs * 10 ^ e.toNat) (10 ^ (-e).toNat) 0 false x) ∨ ((9007199254740992 < dw xs ∨ e < -22 ∨ 22 < e) ∧ Ie.Stq (dw xs) e x s))) ∨
    (19 < xs.length ∧ ∃ x1 s1, Ie.Stq (dw (xs.take 19)) (e + xs.length - 19) x1 s1 ∧ ((s1 = false ∧ x = 0 ∧ s = false) ∨
      (s1 = true ∧ ∃ x2 s2, Ie.Stq (dw (xs.take 19) + 1) (e + xs.length - 19) x2 s2 ∧ ((s2 = true ∧ x2 = x1 ∧ x = x1 ∧ s = true) ∨ (¬ (s2 = true ∧ x2 = x1) ∧ x = 0 ∧ s = false)))))

def TellTold (xs : List Int) (e : Int) (w : World) (r : Ending) (w' : World) : Prop := ∃ x s, r = .returned (.tuple #[.int .u64 x, .bool s]) ∧ TellIs xs e x s ∧ Below w.heap.size w w'

theorem Dig9.take {xs : List Int} (h : Dig9 xs) (k : Nat) : Dig9 (xs.take k) := fun x hx => h x (List.mem_of_mem_take hx)

set_option maxRecDepth 100000 in
set_option maxHeartbeats 1000000 in
theorem tell_any9 (s : ByteArray) (xs : List Int) (e : Int) (w : World) (hT : Tab w) (hX : Tens w) (hs : Str s xs) (hd : Dig9 xs) (hn : xs.length ≤ 281474976710656) (e0 : -1152921504606846976 ≤ e) (e1 : e ≤ 1152921504606846976) :
    Calls Tryz.prog 222 #[.string s, .int .i64 e] w fun r w' => TellTold xs e w r w' := by
  have hsz := hs.size
  by_cases h : xs.length ≤ 19
  · have NA := hid (natural_any9 s xs w hs hd h)
    have bd := dw_bd hd xs.length (Nat.le_refl _)
    rw [List.take_length] at bd
    have t19 := ten19 h
    have BD : Bd (dw xs) := ⟨bd.1, by omega⟩
    have SM := hid (small_any9 (dw xs) e w hT hX BD)
    have SP := hid (fun wx (hb : Below w.heap.size w wx) => step_any9 (dw xs) e wx (hT.below hb) BD)
    have F1 : Hid (∀ x w', Ie.Rnd (dw xs * 10 ^ e.toNat) (10 ^ (-e).toNat) 0 false x → dw xs ≤ 9007199254740992 → -22 ≤ e → e ≤ 22 → Below w.heap.size w w' → TellTold xs e w (.returned (.tuple #[.int .u64 x, .bool true])) w') := fun x w' r a b c k => ⟨x, true, rfl, .inl ⟨h, .inl ⟨a, b, c, rfl, r⟩⟩, k⟩
    have F2 : Hid (∀ x s w', Ie.Stq (dw xs) e x s → (9007199254740992 < dw xs ∨ e < -22 ∨ 22 < e) → Below w.heap.size w w' → TellTold xs e w (.returned (.tuple #[.int .u64 x, .bool s])) w') := fun x s w' r a k => ⟨x, s, rfl, .inl ⟨h, .inr ⟨a, r⟩⟩, k⟩
    have hi : (xs.length : Int) ≤ 19 := by omega
    clear h bd t19 BD hs hd hn hT hX
    go_enter Tryz.func222, Tryz.ntmps222
    go_wp2_with fail
    with_reducible refine NA.out.mono ?_
    rintro r w' ⟨rfl, rfl⟩
    go_wp2_with fail
    with_reducible refine SM.out.mono ?_
    rintro r w1 ⟨⟨a1, a2, a3, x, rfl, R⟩ | ⟨a1, rfl⟩, hB⟩
    · have F := hid (F1.out x w1 R a1 a2 a3 hB)
      clear a1 a2 a3 R hB F1 F2 SM SP NA
      go_wp2_with fail
      go_ret2
      exact F.out
    · have A := hid a1
      have HB := hid hB
      clear a1 F1 SM NA
      go_wp2_with fail
      with_reducible refine (SP.out _ hB).mono ?_
      rintro r w2 ⟨x, sr, rfl, R, hB2⟩
      have F := hid (F2.out x sr w2 R A.out (below_on HB.out hB2))
      clear R hB2 hB F2 SP
      go_wp2_with fail
      go_ret2
      exact F.out
  · have hl : (xs.take 19).length = 19 := by rw [List.length_take]; omega
    have NA := hid (fun (s1 : ByteArray) (hs1 : Str s1 (xs.take 19)) wx => natural_any9 s1 (xs.take 19) wx hs1 (hd.take 19) (by omega))
    have EX := hs.extract 0 19
    have bd := dw_bd hd 19 (by omega)
    have t19 := ten19 (show 19 ≤ 19 by omega)
    have BD : Bd (dw (xs.take 19)) := ⟨bd.1, by omega⟩
    have BD1 : Bd (dw (xs.take 19) + 1) := ⟨by omega, by omega⟩
    have S1 := hid (step_any9 (dw (xs.take 19)) (e + xs.length - 19) w hT BD)
    have S2 := hid (fun wx (hb : Below w.heap.size w wx) => step_any9 (dw (xs.take 19) + 1) (e + xs.length - 19) wx (hT.below hb) BD1)
    obtain ⟨n, hnn⟩ : ∃ n : Nat, xs.length = n := ⟨_, rfl⟩
    have F0 : Hid (∀ x1 w', Ie.Stq (dw (xs.take 19)) (e + xs.length - 19) x1 false → Below w.heap.size w w' → TellTold xs e w (.returned (.tuple #[.int .u64 0, .bool false])) w') := fun x1 w' r k => ⟨0, false, rfl, .inr ⟨by omega, x1, false, r, .inl ⟨rfl, rfl, rfl⟩⟩, k⟩
    have F1 : Hid (∀ x1 w', Ie.Stq (dw (xs.take 19)) (e + xs.length - 19) x1 true → Ie.Stq (dw (xs.take 19) + 1) (e + xs.length - 19) x1 true → Below w.heap.size w w' → TellTold xs e w (.returned (.tuple #[.int .u64 x1, .bool true])) w') := fun x1 w' r r2 k => ⟨x1, true, rfl, .inr ⟨by omega, x1, true, r, .inr ⟨rfl, x1, true, r2, .inl ⟨rfl, rfl, rfl, rfl⟩⟩⟩, k⟩
    have F2 : Hid (∀ x1 x2 s2 w', Ie.Stq (dw (xs.take 19)) (e + xs.length - 19) x1 true → Ie.Stq (dw (xs.take 19) + 1) (e + xs.length - 19) x2 s2 → ¬ (s2 = true ∧ x2 = x1) → Below w.heap.size w w' → TellTold xs e w (.returned (.tuple #[.int .u64 0, .bool false])) w') := fun x1 x2 s2 w' r r2 ne k => ⟨0, false, rfl, .inr ⟨by omega, x1, true, r, .inr ⟨rfl, x2, s2, r2, .inr ⟨ne, rfl, rfl⟩⟩⟩, k⟩
    have hni : 19 < (n : Int) := by omega
    have hnb : (n : Int) ≤ 281474976710656 := by omega
    have hs19 : 19 ≤ s.size := by omega
    have b1 := BD1.1
    have b2 := BD1.2
    have b3 := BD.1
    rw [hnn] at hsz S1 S2 F0 F1 F2
    simp only [List.drop_zero, Nat.sub_zero] at EX
    have N1 := hid (NA.out _ EX)
    clear h hl NA EX bd t19 BD BD1 hs hd hn hT hX hnn
    generalize dw (xs.take 19) = v at *
    obtain ⟨q, hq⟩ : ∃ q, e + (n : Int) - 19 = q := ⟨_, rfl⟩
    rw [hq] at S1 S2 F0 F1 F2
    go_enter Tryz.func222, Tryz.ntmps222
    go_wp2_with fail
    with_reducible refine (N1.out _).mono ?_
    rintro r w' ⟨rfl, rfl⟩
    go_wp2_with fail
    with_reducible refine S1.out.mono ?_
    rintro r w1 ⟨x1, s1, rfl, R1, hB⟩
    cases s1 with
    | false =>
      have F := hid (F0.out x1 w1 R1 hB)
      clear R1 hB F0 F1 F2 S1 S2
      go_wp2_with fail
      go_ret2
      exact F.out
    | true =>
      have HR := hid R1
      have HB := hid hB
      clear R1 S1 F0
      go_wp2_with fail
      with_reducible refine (S2.out _ hB).mono ?_
      rintro r w2 ⟨x2, s2, rfl, R2, hB2⟩
      clear hB
      cases s2 with
      | false =>
        have F := hid (F2.out x1 x2 false w2 HR.out R2 (by simp) (below_on HB.out hB2))
        clear R2 hB2 F1 F2 S2
        go_wp2_with fail
        go_ret2
        exact F.out
      | true =>
        by_cases hx : x2 = x1
        · subst hx
          have F := hid (F1.out x2 w2 HR.out R2 (below_on HB.out hB2))
          clear R2 hB2 F1 F2 S2
          go_wp2_with fail
          go_ret2
          exact F.out
        · have F := hid (F2.out x1 x2 true w2 HR.out R2 (fun c => hx c.2) (below_on HB.out hB2))
          have hne : (x2 == x1) = false := by rw [beq_eq_false_iff_ne]; exact hx
          clear R2 hB2 F1 F2 S2
          go_wp2_with fail
          go_ret2
          exact F.out

/-- A Dec in normal form. -/
def Nml (xs : List Int) (e : Int) : Prop := Sc.IsDec xs e ∧ Sc.nrm false xs e = ⟨false, xs, e⟩

instance (xs : List Int) (e : Int) : Decidable (Nml xs e) := by unfold Nml; infer_instance

theorem nrm_neg (neg : Bool) (xs : List Int) (e : Int) : (Sc.nrm neg xs e).neg = neg ∧ (Sc.nrm neg xs e).ds = (Sc.nrm false xs e).ds ∧ (Sc.nrm neg xs e).e = (Sc.nrm false xs e).e := by
  unfold Sc.nrm; split <;> exact ⟨rfl, rfl, rfl⟩

def TryTold (neg : Bool) (xs : List Int) (e : Int) (w : World) (r : Ending) (w' : World) : Prop :=
  ((¬ Nml xs e ∧ r = .returned (.tuple #[.int .u64 0, .bool false])) ∨ (Nml xs e ∧ ∃ x s, TellIs xs e x s ∧ 0 ≤ x ∧ x ≤ 9218868437227405312 ∧ r = .returned (.tuple #[.int .u64 (if s = true then Ie.sg neg x else x), .bool s]))) ∧ Below w.heap.size w w'

theorem TellIs.bd {xs : List Int} {e x : Int} {s : Bool} (h : TellIs xs e x s) : 0 ≤ x ∧ x ≤ 9218868437227405312 := by
  rcases h with ⟨_, ⟨_, _, _, _, h⟩ | ⟨_, h⟩⟩ | ⟨_, x1, s1, h1, ⟨_, rfl, _⟩ | ⟨_, x2, s2, _, ⟨_, _, rfl, _⟩ | ⟨_, rfl, _⟩⟩⟩
  · exact h.bd
  · exact h.stp.bd
  · decide
  · exact h1.stp.bd
  · decide

theorem eq_dec (a b : Bool) (s t : ByteArray) (e f : Int) (w : World) : (Op.equalIn 10000 25 (.agg #[.bool a, .string s, .int .i64 e]) (.agg #[.bool b, .string t, .int .i64 f])).run Tryz.prog w = .ok (a == b && (s.toList == t.toList) && e == f) w := by
  have u3 := Tryz.underlying3
  have a3 := Tryz.isAgg3
  have z3 := Tryz.sizeOf3
  have u4 := Tryz.underlying4
  have a4 := Tryz.isAgg4
  have z4 := Tryz.sizeOf4
  have u9 := Tryz.underlying9
  have a9 := Tryz.isAgg9
  have z9 := Tryz.sizeOf9
  have hS : Tryz.prog.underlying 25 = some (.struct (Tryz.prog.fieldsOf 25)) := by kernel_rfl
  rw [show (10000 : Nat) = 9999 + 1 from rfl, run_equalIn_struct w 9999 25 _ _ hS (by kernel_rfl)]
  simp only [Program.fieldsOf, Tryz.underlying25]
  go_simp
  by_cases h1 : a = b <;> by_cases h2 : s.toList = t.toList <;> by_cases h3 : e = f <;> simp [h1, h2, h3]

theorem isdec_dig {xs : List Int} {e : Int} (h : Sc.IsDec xs e) : Dig9 xs := fun x hx => by
  have := h.2.2.2.1 x hx
  exact Sc.dg_iff.1 this

theorem nml_eq {neg : Bool} {xs : List Int} {e : Int} {s t : ByteArray} (hs : Str s xs) (ht : Str t (nmd neg xs e).ds) (hd : Sc.IsDec xs e) :
    ((nmd neg xs e).neg == neg && (t.toList == s.toList) && (nmd neg xs e).e == e) = decide (Nml xs e) := by
  rw [ht.eq hs]
  have hm : nmd neg xs e = Sc.nrm neg xs e := by unfold nmd; rw [if_pos hd]
  rw [hm]
  obtain ⟨h1, h2, h3⟩ := nrm_neg neg xs e
  rw [h1, h2, h3, Bool.eq_iff_iff]
  have hk : Nml xs e ↔ (Sc.nrm false xs e).ds = xs ∧ (Sc.nrm false xs e).e = e := by
    unfold Nml
    constructor
    · rintro ⟨_, h⟩; rw [h]; exact ⟨rfl, rfl⟩
    · rintro ⟨g1, g2⟩
      refine ⟨hd, ?_⟩
      have g0 := (nrm_neg false xs e).1
      generalize Sc.nrm false xs e = D at *
      cases D
      simp only at g0 g1 g2
      rw [g0, g1, g2]
  simp [hk]

set_option maxRecDepth 100000 in
set_option maxHeartbeats 1000000 in
theorem try_any9 (neg : Bool) (s : ByteArray) (xs : List Int) (e : Int) (w : World) (hT : Tab w) (hX : Tens w) (hs : Str s xs) (hn : xs.length ≤ 281474976710655) :
    Calls Tryz.prog 221 #[decV neg s e] w fun r w' => TryTold neg xs e w r w' := by
  have NM := hid (fun wx => norm_any neg s xs e wx hs hn)
  have Z := hid (Row3.new w (.bool neg) (.string s) (.int .i64 e))
  have F0 : Hid (¬ Nml xs e → ∀ w', Below w.heap.size w w' → TryTold neg xs e w (.returned (.tuple #[.int .u64 0, .bool false])) w') := fun h w' b => ⟨.inl ⟨h, rfl⟩, b⟩
  have F1 : Hid (Nml xs e → ∀ x w', TellIs xs e x true → Below w.heap.size w w' → TryTold neg xs e w (.returned (.tuple #[.int .u64 (Ie.sg neg x), .bool true])) w') := fun h x w' k b => ⟨.inr ⟨h, x, true, k, k.bd.1, k.bd.2, rfl⟩, b⟩
  have F2 : Hid (Nml xs e → ∀ x w', TellIs xs e x false → Below w.heap.size w w' → TryTold neg xs e w (.returned (.tuple #[.int .u64 x, .bool false])) w') := fun h x w' k b => ⟨.inr ⟨h, x, false, k, k.bd.1, k.bd.2, rfl⟩, b⟩
  have TL : Hid (Nml xs e → ∀ wx, Below w.heap.size w wx → Calls Tryz.prog 222 #[.string s, .int .i64 e] wx fun r w' => TellTold xs e wx r w') := fun h wx b => tell_any9 s xs e wx (hT.below b) (hX.below b) hs (isdec_dig h.1) (by omega) h.1.2.1 h.1.2.2.1
  have NG := hid (fun (x : Int) (wx : World) (h0 : 0 ≤ x) (h1 : x < 18446744073709551616) => neg_any x wx h0 h1)
  have NE : Hid (∀ t, Str t (nmd neg xs e).ds → Sc.IsDec xs e → ∀ wx, (Op.equalIn 10000 25 (.agg #[.bool (nmd neg xs e).neg, .string t, .int .i64 (nmd neg xs e).e]) (.agg #[.bool neg, .string s, .int .i64 e])).run Tryz.prog wx = .ok (decide (Nml xs e)) wx) := fun t ht hd wx => by rw [eq_dec, nml_eq hs ht hd]
  unfold decV at NM ⊢
  clear hs hn hT hX
  go_enter Tryz.func221, Tryz.ntmps221
  go_wp2_with fail
  refine (NM.out _).mono ?_
  rintro r w1 ⟨v, rfl, ⟨t, rfl, ht⟩, hB⟩
  unfold decV
  have Z1 := hid (Z.out.below hB Z.out.lt)
  have B1 := hid (below_on (alloc_b w _) hB)
  by_cases hd : Sc.IsDec xs e
  · have E0 : errOf xs e = 0 := by unfold errOf; rw [if_pos hd]
    have EQ := NE.out t ht hd
    rw [E0]
    obtain ⟨b, hb⟩ : ∃ b, decide (Nml xs e) = b := ⟨_, rfl⟩
    rw [hb] at EQ
    obtain ⟨⟨c0, c1, c2⟩, _⟩ := Z1.out.cells
    have lt1 := Z1.out.lt
    have ne : w1.heap.size ≠ w.heap.size := by omega
    cases b with
    | false =>
      have F := hid (F0.out (of_decide_eq_false hb))
      clear hB ht hd E0 hb NM Z Z1 F0 F1 F2 TL NG NE
      generalize nmd neg xs e = N at *
      go_wp2_with fail
      go_ret2
      exact F.out _ (below_on B1.out (alloc_b _ _))
    | true =>
      have hnm := of_decide_eq_true hb
      have G1 := hid (F1.out hnm)
      have G2 := hid (F2.out hnm)
      have T1 := hid (TL.out hnm)
      have B2 := hid (below_on B1.out (alloc_b w1 (.cells #[.bool (nmd neg xs e).neg, .string t, .int .i64 (nmd neg xs e).e] 25)))
      have Z2 := hid (Z1.out.below (alloc_b w1 (.cells #[.bool (nmd neg xs e).neg, .string t, .int .i64 (nmd neg xs e).e] 25)) lt1)
      clear hB ht hd E0 hb hnm NM Z Z1 F0 F1 F2 TL NE B1
      generalize nmd neg xs e = N at *
      have b2 := B2.out
      go_upto_region 4 with fail
      generalize (w1.alloc (.cells #[.bool N.neg, .string t, .int .i64 N.e] 25)) = w2 at *
      clear c0 c1 c2
      obtain ⟨⟨c0, c1, c2⟩, _⟩ := Z2.out.cells
      go_wp2_with fail
      with_reducible refine (T1.out _ b2).mono ?_
      rintro r w3 ⟨x, sr, rfl, TI, hB3⟩
      have Z3 := hid (Z2.out.below hB3 Z2.out.lt)
      have B3 := hid (below_on b2 hB3)
      have xb := TI.bd
      clear b2 c0 c1 c2 hB3 EQ T1
      obtain ⟨⟨c0, c1, c2⟩, _⟩ := Z3.out.cells
      cases sr with
      | false =>
        have F := hid (G2.out x w3 TI B3.out)
        clear TI G1 G2 NG
        go_wp2_with fail
        go_ret2
        exact F.out
      | true =>
        have F := hid (G1.out x w3 TI B3.out)
        clear TI G1 G2
        cases neg with
        | false =>
          clear NG
          go_wp2_with fail
          go_ret2
          exact F.out
        | true =>
          have N1 := hid (NG.out x w3 xb.1 (by omega))
          rw [show Ie.ng x = Ie.sg true x by unfold Ie.ng Ie.sg; rw [if_pos (by omega), if_pos rfl]] at N1
          clear NG
          go_wp2_with fail
          with_reducible refine N1.out.mono ?_
          rintro r w4 ⟨rfl, rfl⟩
          go_wp2_with fail
          go_ret2
          exact F.out
  · have E0 : errOf xs e = 80 := by unfold errOf; rw [if_neg hd]
    have F := hid (F0.out (fun c => hd c.1))
    rw [E0]
    clear hB ht hd E0 NM Z Z1 F0 F1 F2 TL NG NE
    generalize nmd neg xs e = N at *
    go_wp2_with fail
    go_ret2
    exact F.out _ (below_on B1.out (alloc_b _ _))
end Go.Proofs.YtjkefcikepnbpaaGreatDoor

namespace Go.Proofs.YtjkefcikepnbpaaGreatDoor
open Go.RowKit Go.Deep

theorem bytes_cells {s : ByteArray} {xs : List Int} (hs : Str s xs) (w : World) (cap : Nat) (fr : Nat × Nat) (i : Nat) (hi : i < xs.length) : (w.drew.alloc (.cells (bytesRow s cap) 5 fr)).cell? ⟨w.heap.size, i, none⟩ = some (.int .u8 (xs.getD i 0)) := by
  have h1 := World.cell?_alloc_mark w.drew (bytesRow s cap) 5 fr i
  have hi2 : i < s.data.size := by have := hs.size; have e : s.size = s.data.size := rfl; omega
  rw [show w.drew.heap.size = w.heap.size from rfl, bytesRow_at s cap i hi2] at h1
  rw [h1, ← hs.at i hi2]
  rfl

theorem tv_take_succ (B : Int) (ys : List Int) (j : Nat) (hj : j < ys.length) : Dn.tv B 0 (ys.take (j + 1)) = Dn.tv B 0 (ys.take j) * B + ys.getD j 0 := by
  rw [List.take_add_one, List.getElem?_eq_getElem hj, Dn.tv_append]
  simp [Dn.tv, List.getD, hj]

set_option maxRecDepth 100000 in
set_option maxHeartbeats 1000000 in
theorem limb_any (s : ByteArray) (xs : List Int) (n W : Nat) (B : Int) (w : World) (hs : Str s xs) (hn : xs.length = n) (hnW : n ≤ W) (hW : W ≤ 63) (h2 : 2 ≤ B) (h36 : B ≤ 36) (hBW : B ^ W < 18446744073709551616) (hd : ∀ i, i < xs.length → wv (xs.getD i 0) < B) :
    Calls Tryz.prog 214 #[.string s, .int .u64 B] w fun e w' => e = .returned (.int .u64 (Dn.tv B 0 (xs.map wv))) ∧ Below w.heap.size w w' := by
  have CV := run_bytes_of_string (P := Tryz.prog) w 9 38 5 s Tryz.underlying9 Tryz.underlying38 Tryz.underlying5
  have hsz : s.size = n := by rw [hs.size, hn]
  rw [hsz] at CV
  obtain ⟨cap, hcap⟩ : ∃ cap, grownCap w n 0 5 = cap := ⟨_, rfl⟩
  rw [hcap] at CV
  have CE := hid (fun i hi => bytes_cells hs w cap ((bytesRow s cap).size, (bytesRow s cap).size + 1) i hi)
  have BW : Below w.heap.size w (w.drew.alloc (.cells (bytesRow s cap) 5 ((bytesRow s cap).size, (bytesRow s cap).size + 1))) := (below_drewN (Below.refl _ _) 1).alloc (Nat.le_refl _) _
  obtain ⟨w1, hw1⟩ : ∃ w1, w.drew.alloc (.cells (bytesRow s cap) 5 ((bytesRow s cap).size, (bytesRow s cap).size + 1)) = w1 := ⟨_, rfl⟩
  rw [hw1] at CV CE BW
  have HS := hid hs
  have HN := hid hn
  have HD := hid hd
  have D1 := hid BW
  have HB : ShutG (B ^ W < 18446744073709551616) := ⟨hBW⟩
  clear hs hn hd BW hw1 hcap hBW
  go_enter Tryz.func214, Tryz.ntmps214
  go_wp2_with fail
  go_loop [5, 7, 11] (fun a _ c => ∃ (j : Nat) (A : Int), a = .int .u64 A ∧ c = .int .i64 (j : Int) ∧ j ≤ n ∧ Hid (A = Dn.tv B 0 ((xs.map wv).take j))) (fun _ _ c => n - (intOf c).toNat)
  case atStart => exact ⟨0, 0, rfl, rfl, Nat.zero_le _, by simp [Hid, Dn.tv]⟩
  case round =>
    obtain ⟨j, A, rfl, rfl, hj, I⟩ := hrel
    have hn63 : (n : Int) ≤ 63 := by omega
    by_cases hlt : j < n
    · have hji : (j : Int) < (n : Int) := by omega
      obtain ⟨x, hx, X⟩ : ∃ x, w1.cell? ⟨w.heap.size, j, none⟩ = some (.int .u8 x) ∧ Hid (x = xs.getD j 0) := ⟨_, CE.out j (by have := HN.out; omega), rfl⟩
      have hxb := HS.out.atb j
      rw [← X.out] at hxb
      obtain ⟨v, V⟩ : ∃ v, Hid (wv x = v) := ⟨_, rfl⟩
      have WO := hid (worth_any x w1 hxb.1 hxb.2)
      rw [V.out] at WO
      have hv0 : 0 ≤ v := by have := (wv_bd x).1; have := V.out; omega
      have ST := tv_take_succ B (xs.map wv) j (by have := HN.out; simp; omega)
      have e0 : (xs.map wv).getD j 0 = v := by
        rw [← V.out, X.out]
        have : j < xs.length := by have := HN.out; omega
        simp [List.getD, this]
      rw [e0, ← I.out] at ST
      have dig : ∀ d ∈ (xs.map wv), 0 ≤ d ∧ d < B := by
        intro d hd
        obtain ⟨y, hy, rfl⟩ := List.mem_map.1 hd
        obtain ⟨i, hi, rfl⟩ := List.getElem_of_mem hy
        have := HD.out i hi
        simp only [List.getD, List.getElem?_eq_getElem hi, Option.getD_some] at this
        exact ⟨(wv_bd _).1, this⟩
      have hA0 : 0 ≤ A := by rw [I.out]; exact Dn.tv_nonneg (by omega) 0 _ (by omega) (fun d hd => (dig d (List.mem_of_mem_take hd)).1)
      have hlt2 : A * B + v < 18446744073709551616 := by
        rw [← ST]
        have h1 := Dn.tv_lt (show 0 < B by omega) ((xs.map wv).take (j + 1)) (fun d hd => dig d (List.mem_of_mem_take hd))
        have h3 := Pn.pow_mono (show 1 ≤ B by omega) (show ((xs.map wv).take (j + 1)).length ≤ W by simp; omega)
        have h4 := HB.out
        omega
      have hC0 : 0 ≤ A * B := Int.mul_nonneg hA0 (by omega)
      obtain ⟨C, HC⟩ : ∃ C, Hid (A * B = C) := ⟨_, rfl⟩
      rw [HC.out] at hlt2 hC0 ST
      have q1 : IntKind.u64.wrap (A * B) = C := by rw [HC.out, IntKind.wrap_u64]; omega
      have I2 := hid ST.symm
      clear I ST dig e0 hxb
      go_wp2_with fail
      refine WO.out.mono ?_
      rintro e w' ⟨rfl, rfl⟩
      clear WO
      go_wp2_with fail
      go_round
      case rel => exact ⟨j + 1, C + v, rfl, by go_num, by omega, I2.out⟩
      case measure => simp [intOf]; omega
    · obtain rfl : j = n := by omega
      have F : Hid (A = Dn.tv B 0 (xs.map wv)) := by
        have := I.out
        rw [List.take_of_length_le (by have := HN.out; simp; omega)] at this
        exact this
      clear I
      go_wp2_with fail
      go_ret
      exact ⟨by rw [← F.out]; rfl, D1.out⟩
end Go.Proofs.YtjkefcikepnbpaaGreatDoor



namespace Go.Proofs.YtjkefcikepnbpaaGreatDoor
open Go.RowKit Go.Deep

/-- The limbs of one round. -/
theorem ma_step {x m c p l h s k : Int} (hp : l + 18446744073709551616 * h = p) (hl : 0 ≤ l ∧ l < 18446744073709551616) (hh : 0 ≤ h) (hx : 0 ≤ x ∧ x < 18446744073709551616) (hm : 0 ≤ m ∧ m < 18446744073709551616) (hxm : p = x * m)
    (hc : 0 ≤ c ∧ c < 18446744073709551616) (e1 : s = (l + c + 0) % 18446744073709551616) (e2 : k = (l + c + 0) / 18446744073709551616) :
    (0 ≤ s ∧ s < 18446744073709551616) ∧ (0 ≤ h + k ∧ h + k < 18446744073709551616) ∧ s + 18446744073709551616 * (h + k) = x * m + c := by
  have hb : x * m ≤ 18446744073709551615 * 18446744073709551615 := Int.mul_le_mul (by omega) (by omega) (by omega) (by omega)
  rw [← hxm] at hb ⊢
  clear hxm
  omega

set_option maxRecDepth 100000 in
set_option maxHeartbeats 1000000 in
/-- The loop of MulAdd, whatever the size of the answer. -/
theorem mulAdd_any (p : Option Addr) (n cap : Nat) (zs : List Int) (m c : Int) (w : World) (ha : Arg w p n cap zs) (tz : Nm.tsize zs ≤ 4096) (hm0 : 0 ≤ m) (hm1 : m < 18446744073709551616) (hc0 : 0 ≤ c) (hc1 : c < 18446744073709551616) :
    Calls Tryz.prog 213 #[.slice p n cap, .int .u64 m, .int .u64 c] w fun e w' =>
      (Nm.val zs * m + c < Nm.pw 4096 → ∃ r os, e = .returned (.tuple #[.slice r (List.length os) (List.length os), .int .i64 0]) ∧ Ans w.heap.size w' r os (Nm.val zs * m + c)) ∧
      (Nm.pw 4096 ≤ Nm.val zs * m + c → e = .returned (.tuple #[.slice none 0 0, .int .i64 2])) ∧ Below w.heap.size w w' := by
  obtain ⟨a1, a2, a3, a4, a5⟩ := ha
  obtain ⟨N, HN⟩ : ∃ N, Hid (Nm.tsize zs = N) := ⟨_, rfl⟩
  have T1 := limited_ok p n cap zs w a1 a2 (by omega) a4 tz
  rw [HN.out] at T1
  have hN : N ≤ 4096 := by rw [← HN.out]; exact tz
  have L1 := hid ((Nm.trim_length zs).trans HN.out)
  have hmk := make64 (N + 1) (by omega) w
  have em : ((N + 1 : Nat) : Int) = (N : Int) + 1 := by omega
  rw [em] at hmk
  clear em
  have ho : Own (w.alloc (.cells (madeCells #[.int .u64 0] (N + 1)) 22)) w.heap.size (List.replicate (N + 1) 0) := by
    rw [made_zero]; exact Own.alloc w _
  have hb0 : Below w.heap.size w (w.alloc (.cells (madeCells #[.int .u64 0] (N + 1)) 22)) := (Below.refl _ _).alloc (Nat.le_refl _) _
  obtain ⟨W0, hW0⟩ : ∃ W0, w.alloc (.cells (madeCells #[.int .u64 0] (N + 1)) 22) = W0 := ⟨_, rfl⟩
  have HB0 : Hid (Below w.heap.size w W0) := by rw [← hW0]; exact hb0
  have I0 : MaInv w.heap.size (N + 1) W0 (Nm.val ((Nm.trim zs).take 0) * m + c) 0 c (List.replicate (N + 1) 0) W0 := by
    rw [← hW0]
    exact ⟨⟨ho, by simp, Nm.Limbs.replicate _, by simp [Nm.val_replicate, Nm.val, Nm.pw], Below.refl _ _, rfl⟩, ⟨hc0, hc1⟩, fun i _ => getD_replicate _ _⟩
  have A5 := hid a5.trim
  have A4 := hid a4.trim
  have V := hid (Nm.val_trim zs)
  have HT := hid T1
  clear T1 tz ho hb0 a4 a5
  rw [hW0] at hmk
  clear hW0
  have fin : ∀ (os : List Int) (cc : Int) (wr : World), MaInv w.heap.size (N + 1) W0 (Nm.val (Nm.trim zs) * m + c) N cc os wr → Own (wr.setCell ⟨w.heap.size, N, none⟩ (.int .u64 cc)) w.heap.size (os.set N cc) ∧ (os.set N cc).length = N + 1 ∧ Nm.Limbs (os.set N cc) ∧ Nm.val (os.set N cc) = Nm.val zs * m + c ∧ Below w.heap.size w (wr.setCell ⟨w.heap.size, N, none⟩ (.int .u64 cc)) := by
    intro os cc wr I
    obtain ⟨⟨i1, i2, i3, i4, i5, i6⟩, i7, i8⟩ := I
    refine ⟨i1.set _ _, by simpa using i2, i3.set _ i7.1 i7.2, ?_, HB0.out.trans (i5.setCell (Nat.le_refl _) _)⟩
    rw [Nm.val_set _ _ _ (by omega), i8 N (Nat.le_refl _), Int.sub_zero, i4, V.out]
  have FIN := hid fin
  clear fin
  by_cases h0 : N = 0
  · subst h0
    have hx : Nm.trim zs = [] := List.eq_nil_of_length_eq_zero L1.out
    rw [show (Nm.trim zs).take 0 = Nm.trim zs by rw [hx]; rfl] at I0
    have F := FIN.out _ _ _ I0
    obtain ⟨y, hy⟩ : ∃ y, W0.cell? ⟨w.heap.size, 0, none⟩ = some (.int .u64 y) := ⟨_, I0.1.1.cell 0 (by simp)⟩
    have hfr := I0.1.1.free 0
    have HF := hid F
    clear F I0 hx
    have hmk1 : (Instr.makeSlice 96 (.int .i64 1) (.int .i64 1)).run Tryz.prog w = .ok (.slice (some ⟨w.heap.size, 0, none⟩) 1 1) W0 := hmk
    clear hmk
    go_enter Tryz.func213, Tryz.ntmps213
    go_wp2_with fail
    refine HT.out.mono ?_
    rintro e w' ⟨rfl, rfl⟩
    go_wp2_with fail
    refine wp_loop_rounds 1 ?_
    rw [rounds_succ]
    go_wp2_with fail
    obtain ⟨f1, f2, f3, f4, f5⟩ := HF.out
    by_cases hbig : Nm.val zs * m + c < Nm.pw 4096
    · refine (limited_own w'.heap.size (0 + 1) _ _ f2 (by omega) f1 f3 w'.heap.size (Nat.le_refl _) (by rw [f4]; exact hbig)).mono ?_
      rintro e w3 ⟨r, xs, rfl, hans, rfl⟩
      rw [f4] at hans
      have HA := hid hans
      have HB := hid hbig
      clear hans f1 f2 f3 f4 f5 hbig
      go_wp2_with fail
      go_ret2
      exact ⟨fun _ => ⟨r, xs, rfl, HA.out⟩, fun h => by have := HB.out; omega, HF.out.2.2.2.2⟩
    · refine (limited_own_big w'.heap.size (0 + 1) _ _ f2 (by omega) f1 f3 (by rw [f4]; omega)).mono ?_
      rintro e w3 ⟨rfl, rfl⟩
      have HB := hid hbig
      clear f1 f2 f3 f4 f5 hbig
      go_wp2_with fail
      go_ret2
      exact ⟨fun h => by have := HB.out; omega, fun _ => rfl, HF.out.2.2.2.2⟩
  · obtain ⟨b, off, rfl, hbw, HC⟩ := A4.out.at (by rw [L1.out]; omega)
    go_enter Tryz.func213, Tryz.ntmps213
    go_wp2_with fail
    refine HT.out.mono ?_
    rintro e w' ⟨rfl, rfl⟩
    go_wp2_with fail
    go_loopw [10, 31] (fun a i wr => ∃ (j : Nat) (cc : Int) (os : List Int), j ≤ N ∧ i = .int .i64 j ∧ a = .int .u64 cc ∧ MaInv w'.heap.size (N + 1) W0 (Nm.val ((Nm.trim zs).take j) * m + c) j cc os wr) (fun _ i _ => N - (intOf i).toNat)
    case atStart => exact ⟨0, c, _, Nat.zero_le _, rfl, rfl, I0⟩
    case round =>
      clear I0 hmk
      obtain ⟨j, cc, os, hj, rfl, rfl, I⟩ := hrel
      by_cases hlt : j < N
      · obtain ⟨x, hx, X⟩ : ∃ x, wr.cell? ⟨b, off + j, none⟩ = some (.int .u64 x) ∧ Hid (x = (Nm.trim zs).getD j 0) :=
          ⟨_, ((HB0.out.trans I.1.2.2.2.2.1).cell (p := ⟨b, off + j, none⟩) hbw).trans (HC.out j (by rw [L1.out]; exact hlt)), rfl⟩
        have hx0 := A5.out.at j
        rw [← X.out] at hx0
        obtain ⟨hx0, hx1⟩ := hx0
        obtain ⟨y, hyc⟩ : ∃ y, wr.cell? ⟨w'.heap.size, j, none⟩ = some (.int .u64 y) := ⟨_, I.1.1.cell j (by have := I.1.2.1; omega)⟩
        have hfr := I.1.1.free j
        obtain ⟨hcc0, hcc1⟩ := I.2.1
        go_wp2_with fail
        refine (mul64 x m hx0 hx1 hm0 hm1 _).mono ?_
        rintro e w2 ⟨h, l, rfl, ⟨hh0, hh1, hl0, hl1⟩, P1, _, rfl⟩
        obtain ⟨s1, S1⟩ : ∃ s, Hid (s = (l + cc + 0) % 18446744073709551616) := ⟨_, rfl⟩
        obtain ⟨k1, K1⟩ : ∃ c, Hid (c = (l + cc + 0) / 18446744073709551616) := ⟨_, rfl⟩
        have ST := hid (ma_step P1.out ⟨hl0, hl1⟩ hh0 ⟨hx0, hx1⟩ ⟨hm0, hm1⟩ rfl ⟨hcc0, hcc1⟩ S1.out K1.out)
        have hk1 : 0 ≤ k1 := by have := K1.out; omega
        have hkk : h + k1 < 18446744073709551616 := ST.out.2.1.2
        go_wp2_with (simp only [add64' l cc 0 s1 k1 hl0 hcc0 (Int.le_refl 0) (by decide) S1.out K1.out])
        go_roundw
        case rel =>
          have hst := I.step (by omega) (x := x * m) (s := s1) (c' := h + k1) ST.out.1 ST.out.2.1 ST.out.2.2
          refine ⟨j + 1, h + k1, os.set j s1, by omega, by go_num, rfl, ?_⟩
          have e : Nm.val ((Nm.trim zs).take (j + 1)) * m + c = Nm.val ((Nm.trim zs).take j) * m + c + Nm.pw j * (x * m) := by
            rw [Nm.val_take_succ _ j (by rw [L1.out]; exact hlt), ← X.out, Int.add_mul, Int.mul_assoc]
            omega
          rw [e]
          exact hst
        case measure => simp [intOf]; omega
      · have hjN : j = N := by omega
        subst hjN
        rw [List.take_of_length_le (by rw [L1.out]; omega)] at I
        have F := FIN.out _ _ _ I
        obtain ⟨y, hy⟩ : ∃ y, wr.cell? ⟨w'.heap.size, j, none⟩ = some (.int .u64 y) := ⟨_, I.1.1.cell j (by have := I.1.2.1; omega)⟩
        have hfr := I.1.1.free j
        have HF := hid F
        clear F I
        go_wp2_with fail
        obtain ⟨f1, f2, f3, f4, f5⟩ := HF.out
        by_cases hbig : Nm.val zs * m + c < Nm.pw 4096
        · refine (limited_own w'.heap.size (j + 1) _ _ f2 (by omega) f1 f3 w'.heap.size (Nat.le_refl _) (by rw [f4]; exact hbig)).mono ?_
          rintro e w3 ⟨r, xs, rfl, hans, rfl⟩
          rw [f4] at hans
          have HA := hid hans
          have HB := hid hbig
          clear hans f1 f2 f3 f4 f5 hbig
          go_wp2_with fail
          go_ret2
          exact ⟨fun _ => ⟨r, xs, rfl, HA.out⟩, fun h => by have := HB.out; omega, HF.out.2.2.2.2⟩
        · refine (limited_own_big w'.heap.size (j + 1) _ _ f2 (by omega) f1 f3 (by rw [f4]; omega)).mono ?_
          rintro e w3 ⟨rfl, rfl⟩
          have HB := hid hbig
          clear f1 f2 f3 f4 f5 hbig
          go_wp2_with fail
          go_ret2
          exact ⟨fun h => by have := HB.out; omega, fun _ => rfl, HF.out.2.2.2.2⟩

/-- Of an operand that is too big. -/
theorem mulAdd_big (p : Option Addr) (n cap : Nat) (zs : List Int) (m c : Int) (w : World) (ha : Arg w p n cap zs) (tz : 4096 < Nm.tsize zs) :
    Calls Tryz.prog 213 #[.slice p n cap, .int .u64 m, .int .u64 c] w fun e w' => e = .returned (.tuple #[.slice none 0 0, .int .i64 2]) ∧ w' = w := by
  obtain ⟨a1, a2, a3, a4, a5⟩ := ha
  have HT := hid (limited_big p n cap zs w a1 a2 (by omega) a4 tz)
  go_enter Tryz.func213, Tryz.ntmps213
  go_wp2_with fail
  refine HT.out.mono ?_
  rintro e w' ⟨rfl, rfl⟩
  go_wp2_with fail
  go_ret2
  exact ⟨rfl, rfl⟩
end Go.Proofs.YtjkefcikepnbpaaGreatDoor

namespace Go.Proofs.YtjkefcikepnbpaaGreatDoor
open Go.RowKit Go.Deep

/-- The k-th group lies from at on, up to en. -/
structure Grp (r W k at_ en : Nat) : Prop where
  e : en = r + k * W
  z : k = 0 → at_ = 0
  s : ∀ q, k = q + 1 → at_ = r + q * W

theorem Grp.next {r W k a b : Nat} (h : Grp r W k a b) : Grp r W (k + 1) b (b + W) :=
  ⟨by rw [h.e, Nat.add_mul]; omega, fun c => by omega, fun q hq => by obtain rfl : q = k := by omega
                                                                      exact h.e⟩

theorem Grp.le {r W k a b : Nat} (h : Grp r W k a b) (hr : r ≤ W) : a ≤ b ∧ b - a ≤ W ∧ (0 < k → b = a + W) := by
  cases k with
  | zero => have := h.z rfl; have := h.e; omega
  | succ q =>
    have h1 := h.s q rfl
    have h2 := h.e
    rw [Nat.add_mul] at h2
    omega

theorem Grp.in {r W k a b Q m : Nat} (h : Grp r W k a b) (hm : m = r + Q * W) (ha : a < m) : k ≤ Q ∧ b ≤ m := by
  have hk : k ≤ Q := by
    cases k with
    | zero => omega
    | succ q =>
      have h1 := h.s q rfl
      have : q * W < Q * W := by omega
      have := Nat.lt_of_mul_lt_mul_right this
      omega
  refine ⟨hk, ?_⟩
  have := Nat.mul_le_mul_right W hk
  have := h.e
  omega

theorem tv_group (B : Int) (ys : List Int) (a b : Nat) (hab : a ≤ b) : Dn.tv B 0 (ys.take b) = Dn.tv B 0 (ys.take a) * B ^ ((ys.drop a).take (b - a)).length + Dn.tv B 0 ((ys.drop a).take (b - a)) := by
  have e : ys.take b = ys.take a ++ (ys.drop a).take (b - a) := by
    rw [show b = a + (b - a) by omega, List.take_add]
    simp
  rw [e, Dn.tv_append, Dn.tv_acc]

theorem tv_grows {B : Int} (hB : 1 ≤ B) (ys : List Int) (hd : ∀ d ∈ ys, 0 ≤ d) (k : Nat) : Dn.tv B 0 (ys.take k) ≤ Dn.tv B 0 ys := by
  have e : Dn.tv B 0 ys = Dn.tv B 0 (ys.take k) * B ^ (ys.drop k).length + Dn.tv B 0 (ys.drop k) := by
    conv => lhs; rw [← List.take_append_drop k ys]
    rw [Dn.tv_append, Dn.tv_acc]
  have h0 := Dn.tv_nonneg (B := B) (by omega) 0 (ys.take k) (Int.le_refl _) (fun d h => hd d (List.mem_of_mem_take h))
  have h1 := Dn.tv_nonneg (B := B) (by omega) 0 (ys.drop k) (Int.le_refl _) (fun d h => hd d (List.mem_of_mem_drop h))
  have h2 : 1 ≤ B ^ (ys.drop k).length := by have : 0 < B ^ (ys.drop k).length := Int.pow_pos (by omega); omega
  have h3 := Int.mul_le_mul_of_nonneg_left h2 h0
  rw [Int.mul_one] at h3
  omega

theorem tv_zeros (B : Int) : ∀ (j : Nat) (ys : List Int), j ≤ ys.length → (∀ i, i < j → ys.getD i 0 = 0) → Dn.tv B 0 (ys.drop j) = Dn.tv B 0 ys
  | 0, ys, _, _ => by simp
  | j + 1, [], h, _ => by simp at h
  | j + 1, y :: ys, h, hz => by
    have h0 := hz 0 (by omega)
    simp at h0
    subst h0
    have ih := tv_zeros B j ys (by simpa using h) (fun i hi => by have := hz (i + 1) (by omega); simpa using this)
    simpa [Dn.tv] using ih

theorem getD_map_wv (xs : List Int) (i : Nat) (hi : i < xs.length) : (xs.map wv).getD i 0 = wv (xs.getD i 0) := by simp [List.getD, hi]

theorem digs_mem {xs : List Int} {B : Int} (hd : ∀ i, i < xs.length → wv (xs.getD i 0) < B) : ∀ d ∈ xs.map wv, 0 ≤ d ∧ d < B := by
  intro d hm
  obtain ⟨y, hy, rfl⟩ := List.mem_map.1 hm
  obtain ⟨i, hi, rfl⟩ := List.getElem_of_mem hy
  have := hd i hi
  simp only [List.getD, List.getElem?_eq_getElem hi, Option.getD_some] at this
  exact ⟨(wv_bd _).1, this⟩

set_option maxRecDepth 100000 in
set_option maxHeartbeats 4000000 in
theorem natural_any (s : ByteArray) (xs : List Int) (B : Int) (w : World) (hs : Str s xs) (hn : xs.length ≤ 140737488355328) (h2 : 2 ≤ B) (h36 : B ≤ 36) (hd : ∀ i, i < xs.length → wv (xs.getD i 0) < B) :
    Calls Tryz.prog 207 #[.string s, .int .u64 B] w fun e w' => Gives (Dn.tv B 0 (xs.map wv)) w e w' := by
  have ST := hid (strim_any s xs w hs (by omega))
  have GR := hid (group_any B w h2 h36)
  have HD := hid hd
  have HN := hid hn
  obtain ⟨T, HT0⟩ : ∃ T, ShutG (Dn.tv B 0 (xs.map wv) = T) := ⟨_, ⟨rfl⟩⟩
  rw [HT0.out]
  clear hs hd hn
  go_enter Tryz.func207, Tryz.ntmps207
  go_wp2_with fail
  refine ST.out.mono ?_
  rintro e w' ⟨⟨s', j, rfl, BA, -⟩, rfl⟩
  obtain ⟨ys, hys⟩ : ∃ ys, xs.drop j = ys := ⟨_, rfl⟩
  have SY : Hid (Str s' ys) := by rw [← hys]; exact BA.1
  have TV : Hid (Dn.tv B 0 (xs.map wv) = Dn.tv B 0 (ys.map wv)) := by
    show _ = _
    rw [← hys, List.map_drop, tv_zeros B j (xs.map wv) (by simpa using BA.2.1) (fun i hi => by
      rw [getD_map_wv xs i (by have := BA.2.1; omega), BA.2.2 i hi]
      rfl)]
  have DY : Hid (∀ i, i < ys.length → wv (ys.getD i 0) < B) := by
    intro i hi
    rw [← hys] at hi ⊢
    have := HD.out (j + i) (by simp at hi; omega)
    simpa [List.getD] using this
  obtain ⟨m, HM⟩ : ∃ m, Hid (ys.length = m) := ⟨_, rfl⟩
  have hm47 : (m : Int) ≤ 140737488355328 := by have := HM.out; rw [← hys] at this; have := HN.out; simp at *; omega
  have hsz : s'.size = m := by rw [SY.out.size, HM.out]
  have HT : ShutG (Dn.tv B 0 (ys.map wv) = T) := ⟨TV.out.symm.trans HT0.out⟩
  clear HT0 ST BA hys TV HD HN
  go_wp2_with fail
  refine GR.out.mono ?_
  rintro e w' ⟨⟨W, P, rfl, hP, hW1, hW63, hPl⟩, rfl⟩
  have HP := hid hP
  have HPL := hid hPl
  have hP0 : 0 ≤ P := by rw [hP]; exact Int.le_of_lt (Int.pow_pos (by omega))
  obtain ⟨r, HR⟩ : ∃ r, Hid (m % W = r) := ⟨_, rfl⟩
  obtain ⟨Q, HQ⟩ : ∃ Q, Hid (m / W = Q) := ⟨_, rfl⟩
  have MQ : Hid (m = r + Q * W) := by show _ = _; rw [← HR.out, ← HQ.out]; have := Nat.mod_add_div m W; rw [Nat.mul_comm] at this; omega
  have hrW : Hid (r < W) := by show _ < _; rw [← HR.out]; exact Nat.mod_lt _ (by omega)
  have q1 : (m : Int) % (W : Int) = (r : Int) := by rw [← HR.out]; simp
  have q2 : (m : Int).tmod (W : Int) = (r : Int) := by rw [Int.tmod_eq_emod_of_nonneg (by omega)]; exact q1
  have hW0 : ((W : Int) == 0) = false := by rw [beq_eq_false_iff_ne]; omega
  have hWi : (W : Int) ≤ 63 := by omega
  clear GR hP hPl
  go_upto_region 4 with fail
  go_cut [9, 10] from 19 to 22 (fun a b wx => a = .int .i64 0 ∧ b = .int .i64 (r : Int) ∧ Hid (Below w'.heap.size w' wx))
  case first =>
    go_region
    all_goals (go_wp2_with fail; go_meet; exact ⟨rfl, rfl, below_drewN (Below.refl _ _) _⟩)
  case rest =>
    clear q1 q2 HR HQ
    obtain ⟨rfl, rfl, D0⟩ := hcut
    have G0 : Hid (Grp r W 0 0 r) := ⟨by omega, fun _ => rfl, fun q h => by omega⟩
    have A0 : Hid (Ans w'.heap.size wc none [] (Dn.tv B 0 ((ys.map wv).take 0))) := ⟨Lies.nil _ _, Nm.Limbs.nil, rfl, rfl, fun a h => by cases h⟩
    go_wp2_with fail
    go_loopg [8, 9, 10, 11] (Q + 1) (fun x o a b _ wr => ∃ (k at_ en : Nat) (q : Option Addr) (os : List Int), o = .slice q (List.length os) (List.length os) ∧ a = .int .i64 (at_ : Int) ∧ b = .int .i64 (en : Int) ∧ Hid (x + k = Q + 1 ∧ Grp r W k at_ en ∧ at_ ≤ m) ∧ Hid (Ans w'.heap.size wr q os (Dn.tv B 0 ((ys.map wv).take at_)) ∧ Below w'.heap.size w' wr) ∧ ShutG (Dn.tv B 0 ((ys.map wv).take at_) < Nm.pw 4096))
    case atStart => exact ⟨0, 0, r, none, [], rfl, rfl, rfl, ⟨by omega, G0.out, Nat.zero_le _⟩, ⟨A0.out, D0.out⟩, ⟨by simp only [List.take_zero, Dn.tv]; exact Nm.pw_pos 4096⟩⟩
    case round =>
      clear A0 D0 G0
      obtain ⟨k, at_, en, q, os, rfl, rfl, rfl, GK, I, SM⟩ := hrel
      by_cases hlt : at_ < m
      · have hli : (at_ : Int) < (m : Int) := by omega
        have GI := GK.out.2.1.in MQ.out hlt
        have GL := GK.out.2.1.le (Nat.le_of_lt hrW.out)
        have hae : (at_ : Int) ≤ (en : Int) := by omega
        have hem : (en : Int) ≤ (m : Int) := by omega
        obtain ⟨zs, hzs⟩ : ∃ zs, (ys.drop at_).take (en - at_) = zs := ⟨_, rfl⟩
        have SZ : Str (s'.extract at_ en) zs := by rw [← hzs]; exact SY.out.extract at_ en
        have hzl : zs.length = en - at_ := by rw [← hzs]; have := HM.out; simp; omega
        have hzd : ∀ i, i < zs.length → wv (zs.getD i 0) < B := by
          intro i hi
          have := DY.out (at_ + i) (by have := HM.out; omega)
          rw [← hzs]
          simpa [List.getD, List.getElem?_take, show i < en - at_ by omega] using this
        have LB := hid (limb_any (s'.extract at_ en) zs zs.length W B wr SZ rfl (by omega) hW63 h2 h36 (by rw [← HP.out]; exact HPL.out) hzd)
        obtain ⟨v, HVv⟩ : ∃ v, Hid (Dn.tv B 0 (zs.map wv) = v) := ⟨_, rfl⟩
        rw [HVv.out] at LB
        have zdm := digs_mem hzd
        have hv0 : 0 ≤ v := by rw [← HVv.out]; exact Dn.tv_nonneg (by omega) 0 _ (Int.le_refl _) (fun d h => (zdm d h).1)
        have hv1 : v < 18446744073709551616 := by
          rw [← HVv.out]
          have h1 := Dn.tv_lt (show 0 < B by omega) (zs.map wv) zdm
          have h3 := Pn.pow_mono (show 1 ≤ B by omega) (show (zs.map wv).length ≤ W by simp; omega)
          have h4 := HPL.out
          rw [HP.out] at h4
          omega
        obtain ⟨O, HO⟩ : ∃ O, ShutG (Dn.tv B 0 ((ys.map wv).take at_) = O) := ⟨_, ⟨rfl⟩⟩
        have NX : ShutG (O * P + v = Dn.tv B 0 ((ys.map wv).take en)) := by
          refine ⟨?_⟩
          rw [tv_group B (ys.map wv) at_ en (by omega), HO.out]
          have e1 : ((ys.map wv).drop at_).take (en - at_) = zs.map wv := by rw [← hzs, List.map_take, List.map_drop]
          rw [e1, HVv.out]
          rcases Nat.eq_zero_or_pos k with c | c
          · have h0 := GK.out.2.1.z c
            have : O = 0 := by rw [← HO.out, h0]; rfl
            rw [this, Int.zero_mul, Int.zero_mul]
          · rw [HP.out, show (zs.map wv).length = W by rw [List.length_map, hzl]; have := GL.2.2 c; omega]
        rw [HO.out] at I SM
        have ydm := digs_mem DY.out
        have GROW : ShutG (Dn.tv B 0 ((ys.map wv).take en) ≤ T) := ⟨by rw [← HT.out]; exact tv_grows (by omega) _ (fun d h => (ydm d h).1) _⟩
        have D1 := hid I.out.2
        have AR := hid (I.out.1.argT SM.out)
        have TS := hid (I.out.1.tsT SM.out)
        have VO := hid I.out.1.2.2.2.1
        have GN := hid GK.out.2.1.next
        have hen : en ≤ m := by omega
        have hkQ : Hid (k ≤ Q) := GI.1
        have GKx := hid GK.out.1
        clear SZ hzl hzd zdm ydm hzs I GK GI GL
        go_wp2_with fail
        refine LB.out.mono ?_
        rintro e w1 ⟨rfl, d1⟩
        have MA := hid (mulAdd_any q _ _ os P v w1 (AR.out.below d1 (Nat.le_refl _)) TS.out hP0 HPL.out hv0 hv1)
        rw [VO.out, NX.out] at MA
        have D2 := hid (chain D1.out d1 (Nat.le_refl _))
        clear d1 LB D1 AR TS VO
        go_wp2_with fail
        refine MA.out.mono ?_
        rintro e w2 ⟨m1, m2, d2⟩
        have D3 := hid (chain D2.out d2 (Nat.le_refl _))
        by_cases hbig : Nm.pw 4096 ≤ Dn.tv B 0 ((ys.map wv).take en)
        · have e1 := m2 hbig
          subst e1
          have F : Hid (Gives T w' (.returned (.tuple #[.slice none 0 0, .int .i64 2])) w2) := ⟨.inr ⟨Int.le_trans hbig GROW.out, rfl⟩, D3.out⟩
          clear m1 m2 d2 hbig MA
          go_wp2_with fail
          go_ret2
          exact F.out
        · obtain ⟨q2, os2, he, A2⟩ := m1 (Int.not_le.1 hbig)
          subst he
          have SM2 : ShutG (Dn.tv B 0 ((ys.map wv).take en) < Nm.pw 4096) := ⟨Int.not_le.1 hbig⟩
          have A3 : Hid (Ans w'.heap.size w2 q2 os2 (Dn.tv B 0 ((ys.map wv).take en))) := A2.upT (by have := D2.out.size; exact this)
          clear m1 m2 d2 hbig MA A2
          go_wp2_with fail
          go_roundg (gk - 1)
          case measure => have := GKx.out; have := hkQ.out; omega
          case rel => exact ⟨k + 1, en, en + W, q2, os2, rfl, rfl, by go_num, ⟨by have := GKx.out; have := hkQ.out; omega, GN.out, hen⟩, ⟨A3.out, D3.out⟩, SM2⟩
      · have hle : (m : Int) ≤ (at_ : Int) := by omega
        have e1 : Dn.tv B 0 ((ys.map wv).take at_) = T := by rw [List.take_of_length_le (by have := HM.out; simp; omega), HT.out]
        rw [e1] at I SM
        have F : Hid (Gives T w' (.returned (.tuple #[.slice q (List.length os) (List.length os), .int .i64 0])) wr) := ⟨.inl ⟨SM.out, q, os, rfl, I.out.1⟩, I.out.2⟩
        clear I SM e1 GK
        go_wp2_with fail
        go_ret2
        exact F.out
end Go.Proofs.YtjkefcikepnbpaaGreatDoor

namespace Go.Proofs.YtjkefcikepnbpaaGreatDoor
open Go.RowKit Go.Deep

/-- What FromBase tells. -/
inductive FromIs (xs : List Int) (B : Int) (w0 w' : World) : Option Addr → List Int → Int → Int → Prop
  | base : (B < 2 ∨ 36 < B) → FromIs xs B w0 w' none [] 0 32
  | empty : 2 ≤ B → B ≤ 36 → xs = [] → FromIs xs B w0 w' none [] 0 30
  | digit (t : Nat) : 2 ≤ B → B ≤ 36 → t < xs.length → (∀ i, i < t → wv (xs.getD i 0) < B) → B ≤ wv (xs.getD t 0) → FromIs xs B w0 w' none [] (t : Int) 31
  | big : 2 ≤ B → B ≤ 36 → (∀ i, i < xs.length → wv (xs.getD i 0) < B) → xs ≠ [] → Nm.pw 4096 ≤ Dn.tv B 0 (xs.map wv) → FromIs xs B w0 w' none [] 0 2
  | ok (r : Option Addr) (os : List Int) : 2 ≤ B → B ≤ 36 → (∀ i, i < xs.length → wv (xs.getD i 0) < B) → xs ≠ [] → Dn.tv B 0 (xs.map wv) < Nm.pw 4096 → Ans w0.heap.size w' r os (Dn.tv B 0 (xs.map wv)) → FromIs xs B w0 w' r os 0 0

def FromTold (xs : List Int) (B : Int) (w : World) (e : Ending) (w' : World) : Prop :=
  ∃ r os at_ E, e = .returned (.tuple #[.slice r (List.length os) (List.length os), .int .i64 at_, .int .i64 E]) ∧ FromIs xs B w w' r os at_ E ∧ Below w.heap.size w w'

set_option maxRecDepth 100000 in
set_option maxHeartbeats 4000000 in
theorem fromBase_any (s : ByteArray) (xs : List Int) (B : Int) (w : World) (hs : Str s xs) (hn : xs.length ≤ 140737488355328) (hB0 : -9223372036854775808 ≤ B) (hB1 : B ≤ 9223372036854775807) :
    Calls Tryz.prog 201 #[.string s, .int .i64 B] w fun e w' => FromTold xs B w e w' := by
  by_cases h1 : B < 2 ∨ 36 < B
  · have F : Hid (FromTold xs B w (.returned (.tuple #[.slice none 0 0, .int .i64 0, .int .i64 32])) w) := ⟨none, [], _, _, rfl, .base h1, Below.refl _ _⟩
    clear hs hn
    rcases h1 with h1 | h1
    · go_enter Tryz.func201, Tryz.ntmps201
      go_wp2_with fail
      go_ret3
      exact F.out
    · go_enter Tryz.func201, Tryz.ntmps201
      go_wp2_with fail
      go_ret3
      exact F.out
  have h2 : 2 ≤ B := by omega
  have h36 : B ≤ 36 := by omega
  by_cases h3 : xs = []
  · have F : Hid (FromTold xs B w (.returned (.tuple #[.slice none 0 0, .int .i64 0, .int .i64 30])) w) := ⟨none, [], _, _, rfl, .empty h2 h36 h3, Below.refl _ _⟩
    have hs0 : s = ⟨#[]⟩ := hs.inj (by rw [h3]; rfl)
    subst hs0
    clear hs hn h1 h3
    go_enter Tryz.func201, Tryz.ntmps201
    go_wp2_with fail
    go_ret3
    exact F.out
  have e1 : s.toList ≠ [] := by
    intro c
    apply h3
    rw [ByteArray.toList_eq] at c
    rw [← hs, c]
    rfl
  have e2 : (s.toList == []) = false := by rw [beq_eq_false_iff_ne]; exact e1
  have e3 : s.toList.isEmpty = false := by rw [List.isEmpty_eq_false_iff]; exact e1
  have WR := hid (wrong_any s xs xs.length B w hs rfl hn)
  have HS := hid hs
  have HN := hid hn
  have H3 := hid h3
  clear hs hn h1 h3
  go_enter Tryz.func201, Tryz.ntmps201
  go_wp2_with fail
  refine WR.out.mono ?_
  rintro e w' ⟨⟨r, rfl, k⟩, rfl⟩
  clear WR
  cases k with
  | here t a1 a2 a3 =>
    have F : Hid (FromTold xs B w' (.returned (.tuple #[.slice none 0 0, .int .i64 (t : Int), .int .i64 31])) w') := ⟨none, [], _, _, rfl, .digit t h2 h36 a1 a2 a3, Below.refl _ _⟩
    have ht : (0 : Int) ≤ (t : Int) := by omega
    clear a1 a2 a3
    go_wp2_with fail
    go_ret3
    exact F.out
  | none a1 =>
    have NA := hid (natural_any s xs B w' HS.out HN.out h2 h36 a1)
    have HA := hid a1
    clear a1
    go_wp2_with fail
    refine NA.out.mono ?_
    rintro e w1 ⟨h | h, d1⟩
    · obtain ⟨k1, r, os, rfl, A1⟩ := h
      have F : Hid (FromTold xs B w' (.returned (.tuple #[.slice r (List.length os) (List.length os), .int .i64 0, .int .i64 0])) w1) := ⟨r, os, _, _, rfl, .ok r os h2 h36 HA.out H3.out k1 A1, d1⟩
      clear k1 A1 d1 NA
      go_wp2_with fail
      go_ret3
      exact F.out
    · obtain ⟨k1, rfl⟩ := h
      have F : Hid (FromTold xs B w' (.returned (.tuple #[.slice none 0 0, .int .i64 0, .int .i64 2])) w1) := ⟨none, [], _, _, rfl, .big h2 h36 HA.out H3.out k1, d1⟩
      clear k1 d1 NA
      go_wp2_with fail
      go_ret3
      exact F.out
end Go.Proofs.YtjkefcikepnbpaaGreatDoor

namespace Go.Proofs.YtjkefcikepnbpaaGreatDoor
open Go.RowKit Go.Deep

theorem wv_map {xs : List Int} (h : Digs xs) : xs.map wv = xs.map (fun d => d - 48) := List.map_congr_left (fun x hx => wv_dig (h x hx))

set_option maxRecDepth 100000 in
theorem read_any (s : ByteArray) (xs : List Int) (w : World) (hs : Str s xs) (hl : xs.length ≤ 140737488355328) (hd : Digs xs) (h0 : xs ≠ []) (hv : dv xs < Nm.pw 4096) :
    Calls Tryz.prog 198 #[.string s] w fun e w' => ∃ r os, e = .returned (.tuple #[.slice r (List.length os) (List.length os), .int .i64 0, .int .i64 0]) ∧ Ans w.heap.size w' r os (dv xs) ∧ Below w.heap.size w w' := by
  have FB : Hid (Calls Tryz.prog 201 #[.string s, .int .i64 10] w fun e w' => ∃ r os, e = .returned (.tuple #[.slice r (List.length os) (List.length os), .int .i64 0, .int .i64 0]) ∧ Ans w.heap.size w' r os (dv xs) ∧ Below w.heap.size w w') := by
    refine (fromBase_any s xs 10 w hs hl (by omega) (by omega)).mono ?_
    rintro e w' ⟨r, os, at_, E, rfl, h, d⟩
    have ev : Dn.tv 10 0 (xs.map wv) = dv xs := by rw [wv_map hd]; rfl
    cases h with
    | base h => omega
    | empty _ _ h => exact absurd h h0
    | digit t _ _ h1 _ h3 =>
      have := digs_at hd t h1
      rw [wv_dig this] at h3
      omega
    | big _ _ _ _ h =>
      rw [ev] at h
      exact absurd hv (Int.not_lt.2 h)
    | ok r os _ _ _ _ _ h =>
      rw [ev] at h
      exact ⟨r, os, rfl, h, d⟩
  clear hs hl hd h0 hv
  go_enter Tryz.func198, Tryz.ntmps198
  go_wp2_with fail
  refine FB.out.mono ?_
  rintro e w1 ⟨r, os, rfl, A1, d1⟩
  have F := hid (And.intro A1 d1)
  clear A1 d1 FB
  go_wp2_with fail
  go_ret3
  exact ⟨r, os, rfl, F.out⟩

end Go.Proofs.YtjkefcikepnbpaaGreatDoor

namespace Go.Proofs.YtjkefcikepnbpaaGreatDoor
open Go Go.RowKit Go.Deep

theorem dw_tv (l : List Int) : ∀ a : Int, Dn.tv 10 a (l.map (fun d => d - 48)) = l.foldl (fun a d => 10 * a + (d - 48)) a := by
  induction l with
  | nil => intro a; rfl
  | cons x l ih =>
    intro a
    rw [List.map_cons, Dn.tv, List.foldl_cons, ih, Int.mul_comm a 10]
theorem dw_dv (l : List Int) : dv l = dw l := by unfold dv dw; exact dw_tv l 0

theorem dw_split {xs : List Int} (k : Nat) : dw xs = dw (xs.take k) * 10 ^ (xs.length - k) + dw (xs.drop k) := by
  have h := dv_append (xs.take k) (xs.drop k)
  rw [List.take_append_drop, List.length_drop] at h
  rw [dw_dv, dw_dv, dw_dv] at h
  exact h
theorem dw_range {xs : List Int} (h : Dig9 xs) : 0 ≤ dw xs ∧ dw xs < 10 ^ xs.length := by
  have := dw_bd h xs.length (Nat.le_refl _)
  rwa [List.take_length] at this
theorem Dig9.drop {xs : List Int} (h : Dig9 xs) (k : Nat) : Dig9 (xs.drop k) := fun x hx => h x (List.mem_of_mem_drop hx)

theorem dw_pos {xs : List Int} (h : Dig9 xs) (hn : xs ≠ []) (h0 : xs.getD 0 0 ≠ 48) : 0 < dw xs := by
  cases xs with
  | nil => exact absurd rfl hn
  | cons x l =>
    have h1 := dv_cons x l
    rw [dw_dv, dw_dv] at h1
    have h2 := h x (by simp)
    have h3 : x ≠ 48 := h0
    have h4 := (dw_range (xs := l) (fun y hy => h y (by simp [hy]))).1
    have p : (0 : Int) < 10 ^ l.length := Int.pow_pos (by decide)
    have h5 : 1 * 10 ^ l.length ≤ (x - 48) * 10 ^ l.length := Int.mul_le_mul_of_nonneg_right (by omega) (by omega)
    omega

theorem stq_in {v q x : Int} (h : Ie.Stq v q x true) (hv : 0 < v) : -342 ≤ q ∧ q ≤ 308 := by
  rcases h with h | h | h
  · omega
  · exact absurd h.2.2.2 (by simp)
  · exact ⟨h.2.1, h.2.2.1⟩
theorem stq_no {v q x : Int} (h : Ie.Stq v q x false) : x = 0 := by
  rcases h with h | h | ⟨h0, h1, h2, A, B, a, b, h⟩
  · exact absurd h.2.2 (by simp)
  · exact h.2.2.1
  · rcases h with h | h
    · exact absurd h.2.2 (by simp)
    · exact h.2.1

theorem tell_no {xs : List Int} {e x : Int} (h : TellIs xs e x false) : x = 0 := by
  rcases h with ⟨_, ⟨_, _, _, h, _⟩ | ⟨_, h⟩⟩ | ⟨_, x1, s1, _, ⟨_, rfl, _⟩ | ⟨_, x2, s2, _, ⟨_, _, _, h⟩ | ⟨_, rfl, _⟩⟩⟩
  · exact absurd h (by simp)
  · exact stq_no h
  · rfl
  · exact absurd h (by simp)
  · rfl

theorem tell_must {xs : List Int} {e x : Int} (hd : Dig9 xs) (h : TellIs xs e x false) : 15 < xs.length ∨ e < -22 ∨ 22 < e := by
  rcases (show xs.length ≤ 15 ∨ 15 < xs.length by omega) with g | g
  · right
    rcases h with ⟨_, ⟨_, _, _, h, _⟩ | ⟨h, _⟩⟩ | ⟨h, _⟩
    · exact absurd h (by simp)
    · rcases h with h | h
      · exfalso
        have b := (dw_range hd).2
        have h1 := Nat.pow_le_pow_right (show 0 < 10 by decide) g
        have e1 : ((10 ^ xs.length : Nat) : Int) = 10 ^ xs.length := by simp
        have e2 : ((10 ^ 15 : Nat) : Int) = 1000000000000000 := by decide +kernel
        omega
      · exact h
    · omega
  · exact .inl g

theorem tell_zero {x : Int} {s : Bool} (h : TellIs [48] 0 x s) : x = 0 ∧ s = true := by
  have d0 : dw [48] = 0 := by decide
  rcases h with ⟨_, ⟨_, _, _, hs, h⟩ | ⟨h, _⟩⟩ | ⟨h, _⟩
  · rw [d0] at h
    refine ⟨?_, hs⟩
    have h2 : Ie.Rnd 0 1 0 false x := by simpa using h
    exact Ie.Rnd.one (a := 0) (a' := 0) (by decide) (by decide) h2 (Ie.rnd_zero 1 0 false (by decide)) (by omega) rfl
  · rw [d0] at h; omega
  · simp at h

theorem dw_head {xs : List Int} (h : Dig9 xs) (h0 : xs.getD 0 0 ≠ 48) (k : Nat) (hk : 0 < k) (hn : k ≤ xs.length) : 0 < dw (xs.take k) := by
  refine dw_pos (h.take k) ?_ ?_
  · intro c
    have := congrArg List.length c
    rw [List.length_take, List.length_nil] at this
    omega
  · cases xs with
    | nil => simp at hn; omega
    | cons x l =>
      cases k with
      | zero => omega
      | succ k => simpa using h0

theorem tell_e {xs : List Int} {e x : Int} (hd : Dig9 xs) (h0 : xs.getD 0 0 ≠ 48) (hn : xs ≠ []) (h2 : xs.length ≤ 2000) (h : TellIs xs e x true) : -3000 ≤ e ∧ e ≤ 3000 := by
  rcases h with ⟨_, ⟨_, a, b, _, _⟩ | ⟨_, h⟩⟩ | ⟨h19, x1, s1, h1, ⟨_, _, h⟩ | ⟨hs, x2, s2, _, _⟩⟩
  · omega
  · have := stq_in h (dw_pos hd hn h0)
    omega
  · exact absurd h (by simp)
  · subst hs
    have := stq_in h1 (dw_head hd h0 19 (by omega) (by omega))
    omega

theorem tens_add {e q : Int} {r : Nat} (h : q = e + r) : (10 : Int) ^ r * (10 ^ e.toNat * 10 ^ (-q).toNat) = 10 ^ q.toNat * 10 ^ (-e).toNat := by
  rw [← Int.pow_add, ← Int.pow_add, ← Int.pow_add]
  congr 1
  omega

/-- Where Try is sure, it tells the number itself, rounded. -/
theorem tell_true {xs : List Int} {e x y : Int} (hd : Dig9 xs) (h : TellIs xs e x true) (hy : Ie.Rnd (dw xs * 10 ^ e.toNat) (10 ^ (-e).toNat) 0 false y) : x = y := by
  have V0 : 0 ≤ dw xs * 10 ^ e.toNat := Int.mul_nonneg (dw_range hd).1 (Int.le_of_lt (Int.pow_pos (by decide)))
  have D0 : (0 : Int) < 10 ^ (-e).toNat := Int.pow_pos (by decide)
  rcases h with ⟨_, ⟨_, _, _, _, h⟩ | ⟨_, h⟩⟩ | ⟨h19, x1, s1, h1, ⟨_, _, h⟩ | ⟨hs, x2, s2, h2, ⟨hs2, he, hx, _⟩ | ⟨_, _, h⟩⟩⟩
  · exact Ie.Rnd.one (a := 0) (a' := 0) D0 D0 h hy (by omega) rfl
  · exact h.stp.true rfl (dw_range hd).1 V0 D0 hy rfl
  · exact absurd h (by simp)
  · subst hs hs2
    rw [he] at h2
    rw [hx]
    obtain ⟨r, hr⟩ : ∃ r : Nat, xs.length = r + 19 := ⟨xs.length - 19, by omega⟩
    have hq : e + xs.length - 19 = e + r := by omega
    rw [hq] at h1 h2
    have sp := dw_split (xs := xs) 19
    rw [show xs.length - 19 = r by omega] at sp
    have tl := dw_range (hd.drop 19)
    rw [List.length_drop, show xs.length - 19 = r by omega] at tl
    have hv := (dw_range (hd.take 19)).1
    generalize dw (xs.take 19) = v at *
    generalize dw (xs.drop 19) = t at *
    generalize dw xs = D at *
    have ta := tens_add (e := e) (q := e + r) (r := r) rfl
    have pp : (0 : Int) < 10 ^ e.toNat * 10 ^ (-(e + r)).toNat := Int.mul_pos (Int.pow_pos (by decide)) (Int.pow_pos (by decide))
    have le1 : x1 ≤ y := by
      refine h1.stp.le rfl hv D0 hy ?_
      rw [Int.mul_assoc, ← ta, Int.mul_assoc, ← Int.mul_assoc v]
      exact Int.mul_le_mul_of_nonneg_right (by omega) (by omega)
    have ge1 : y ≤ x1 := by
      refine h2.stp.ge rfl (by omega) V0 D0 hy ?_
      rw [Int.mul_assoc (v + 1), ← ta, Int.mul_assoc D, ← Int.mul_assoc (v + 1)]
      refine Int.mul_le_mul_of_nonneg_right ?_ (by omega)
      rw [Int.add_mul, Int.one_mul]
      omega
    omega
  · exact absurd h (by simp)
end Go.Proofs.YtjkefcikepnbpaaGreatDoor
