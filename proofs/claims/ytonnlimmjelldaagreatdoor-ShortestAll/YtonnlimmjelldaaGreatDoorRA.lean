/-
  Texts put together: QTop, QOrder, Len, Div1, BitsA, Bits, QShift, QGuess, Walk2a, SubA, QTake, Bare, QDiv, ShA, BitLenW, BlenIs, Shl.
-/
import Derived.Test.YtonnlimmjelldaaGreatDoorSmallA
import Derived.Test.YtonnlimmjelldaaGreatDoorSmall
import Derived.Test.YtonnlimmjelldaaGreatDoorWalk1
import Derived.Shelf.Strconv.Itoa0
import Derived.Test.YtonnlimmjelldaaGreatDoorNums
import Derived.Lib.ItoaNum
import Derived.Laws.Bits64b
import Derived.Deep.QuietTactic
import Derived.BigQuiet
import Derived.Test.YtonnlimmjelldaaGreatDoorMem
import Derived.Laws.Externs
import Derived.Shelf.Bits.Mul64
import Derived.Shelf.Spec.BitsCarry
import Derived.Test.YtonnlimmjelldaaGreatDoorWalk5a
import Derived.WalkMore
import Derived.Deep.LoopGhost
namespace Go.Proofs.YtonnlimmjelldaaGreatDoor
open Go.RowKit Go.Deep

/-- The number of limbs, as the statements count it. -/
theorem top_any (p : Option Addr) (n cap : Nat) (zs : List Int) (w : World) (hn : zs.length = n) (hm : n ≤ 140737488355328) (h : Lies w p zs) :
    Calls Tryz.prog 131 #[.slice p n cap] w fun e w' => e = .returned (.int .i64 (Nm.tsize zs)) ∧ w' = w := by
  rcases h with rfl | ⟨b, off, rfl, hcell⟩
  · have hn0 : n = 0 := by simpa using hn.symm
    subst hn0
    go_enter Tryz.func131, Tryz.ntmps131
    go_wp2
    refine wp_loop_rounds 1 ?_
    rw [rounds_succ]
    go_wp2
    go_ret
    exact ⟨rfl, rfl⟩
  · have H : Hid (zs.length = n) := hn
    have HC : Hid (∀ i, i < zs.length → w.cell? ⟨b, off + i, none⟩ = some (.int .u64 (zs.getD i 0))) := hcell
    clear hn hcell
    go_enter Tryz.func131, Tryz.ntmps131
    go_wp2
    go_loop [3] (fun t => ∃ k : Nat, k ≤ n ∧ t = .int .i64 k ∧ Hid (∀ j, k ≤ j → zs.getD j 0 = 0)) (fun t => (intOf t).toNat)
    case atStart => exact ⟨n, Nat.le_refl _, rfl, fun j hj => by simp [List.getD, List.getElem?_eq_none (show zs.length ≤ j by have := H.out; omega)]⟩
    case round =>
      obtain ⟨k, hk, rfl, hz⟩ := hrel
      by_cases h0 : k = 0
      · subst h0
        go_wp2
        go_ret
        exact ⟨by rw [Nm.tsize_unique zs 0 hz.out (.inl rfl)]; rfl, rfl⟩
      · obtain ⟨j, rfl⟩ : ∃ j, k = j + 1 := ⟨k - 1, by omega⟩
        obtain ⟨x, hx, X⟩ : ∃ x, w.cell? ⟨b, off + j, none⟩ = some (.int .u64 x) ∧ Hid (x = zs.getD j 0) := ⟨_, HC.out j (by have := H.out; omega), rfl⟩
        by_cases hx0 : x = 0
        · subst hx0
          go_wp2
          go_round
          case rel =>
            refine ⟨j, by omega, rfl, fun i hi => ?_⟩
            by_cases e : i = j
            · subst e; exact X.out.symm
            · exact hz.out i (by omega)
          case measure => simp [intOf]
        · go_wp2
          go_ret
          exact ⟨by rw [Nm.tsize_unique zs (j + 1) hz.out (.inr (by rw [Nat.add_sub_cancel, ← X.out]; exact hx0))]; rfl, rfl⟩
end Go.Proofs.YtonnlimmjelldaaGreatDoor

namespace Go.Proofs.YtonnlimmjelldaaGreatDoor
open Go.RowKit Go.Deep

theorem qcmp_at3 {zs ys : List Int} (hz : Nm.Limbs zs) (hy : Nm.Limbs ys) (hl : (Nm.trim zs).length = (Nm.trim ys).length) (t : Nat) (ht : t < (Nm.trim zs).length) (he : ∀ i, t + 1 ≤ i → (Nm.trim zs).getD i 0 = (Nm.trim ys).getD i 0) {x y : Int}
    (hx : x = (Nm.trim zs).getD t 0) (hy' : y = (Nm.trim ys).getD t 0) : (x < y → cmpI (Nm.val zs) (Nm.val ys) = -1) ∧ (y < x → cmpI (Nm.val zs) (Nm.val ys) = 1) := by
  refine ⟨fun h => ?_, fun h => ?_⟩
  · rw [← cmp_at hz hy hl t ht he hx hy' (by omega)]
    simp [sgn]; omega
  · rw [← cmp_at hz hy hl t ht he hx hy' (by omega)]
    simp [sgn, h]

set_option maxHeartbeats 2000000 in
theorem order_any (p q : Option Addr) (n cap m cap' : Nat) (zs ys : List Int) (w : World) (ha : Arg w p n cap zs) (hb : Arg w q m cap' ys) :
    Calls Tryz.prog 90 #[.slice p n cap, .slice q m cap'] w fun e w' => e = .returned (.int .i64 (cmpI (Nm.val zs) (Nm.val ys))) ∧ Below w.heap.size w w' := by
  obtain ⟨a1, a2, a3, a4, a5⟩ := ha
  obtain ⟨b1, b2, b3, b4, b5⟩ := hb
  have tl := Nm.tsize_le zs
  have tl' := Nm.tsize_le ys
  have S1 := hid (top_any p n cap zs w a1 (by omega) a4)
  have S2 := hid (top_any q m cap' ys w b1 (by omega) b4)
  by_cases h1 : Nm.tsize zs < Nm.tsize ys
  · have E := hid (cmpI_lt (val_lt_of_tsize a5 b5 h1))
    have h1' : (Nm.tsize zs : Int) < (Nm.tsize ys : Int) := by omega
    clear h1
    go_enter Tryz.func90, Tryz.ntmps90
    go_wp2_with fail
    refine S1.out.mono ?_
    rintro e w' ⟨rfl, rfl⟩
    go_wp2_with fail
    refine S2.out.mono ?_
    rintro e w' ⟨rfl, rfl⟩
    go_wp2
    go_ret
    exact ⟨ret_i64 E.out.symm, Below.refl _ _⟩
  by_cases h2 : Nm.tsize ys < Nm.tsize zs
  · have E := hid (cmpI_gt (val_lt_of_tsize b5 a5 h2))
    have h1' : ¬ (Nm.tsize zs : Int) < (Nm.tsize ys : Int) := by omega
    have h2' : (Nm.tsize ys : Int) < (Nm.tsize zs : Int) := by omega
    clear h1 h2
    go_enter Tryz.func90, Tryz.ntmps90
    go_wp2_with fail
    refine S1.out.mono ?_
    rintro e w' ⟨rfl, rfl⟩
    go_wp2_with fail
    refine S2.out.mono ?_
    rintro e w' ⟨rfl, rfl⟩
    go_wp2
    go_ret
    exact ⟨ret_i64 E.out.symm, Below.refl _ _⟩
  obtain ⟨N, HN⟩ : ∃ N, Hid (Nm.tsize zs = N) := ⟨_, rfl⟩
  have HN' : Hid (Nm.tsize ys = N) := by have := HN.out; exact (show Nm.tsize ys = N by omega)
  have T1 := S1.out
  have T2 := S2.out
  rw [HN.out] at T1
  rw [HN'.out] at T2
  have HT1 := hid T1
  have HT2 := hid T2
  have hN : N ≤ 17592186044416 := by have := HN.out; omega
  have L1 := hid (Nm.trim_length zs)
  have L2 := hid (Nm.trim_length ys)
  clear h1 h2 tl tl' T1 T2 S1 S2
  have FIN : Hid (Nm.trim zs = Nm.trim ys → cmpI (Nm.val zs) (Nm.val ys) = 0) := fun h => cmpI_eq (by rw [← Nm.val_trim zs, ← Nm.val_trim ys, h])
  by_cases h0 : N = 0
  · subst h0
    go_enter Tryz.func90, Tryz.ntmps90
    go_wp2_with fail
    refine HT1.out.mono ?_
    rintro e w' ⟨rfl, rfl⟩
    go_wp2_with fail
    refine HT2.out.mono ?_
    rintro e w' ⟨rfl, rfl⟩
    go_wp2_with fail
    refine wp_loop_rounds 1 ?_
    rw [rounds_succ]
    go_wp2
    go_ret
    exact ⟨ret_i64 (FIN.out (by rw [List.eq_nil_of_length_eq_zero (L1.out.trans HN.out), List.eq_nil_of_length_eq_zero (L2.out.trans HN'.out)])).symm, Below.refl _ _⟩
  · obtain ⟨b, off, rfl, hbw, HC⟩ := a4.trim.at (by have := L1.out; have := HN.out; omega)
    obtain ⟨b', off', rfl, hbw', HC'⟩ := b4.trim.at (by have := L2.out; have := HN'.out; omega)
    have hNn : N ≤ n := by have := HN.out; have := Nm.tsize_le zs; omega
    have hNm : N ≤ m := by have := HN'.out; have := Nm.tsize_le ys; omega
    go_enter Tryz.func90, Tryz.ntmps90
    go_wp2_with fail
    refine HT1.out.mono ?_
    rintro e w' ⟨rfl, rfl⟩
    go_wp2_with fail
    refine HT2.out.mono ?_
    rintro e w' ⟨rfl, rfl⟩
    go_wp2_with fail
    go_loopw [7] (fun i wr => ∃ j : Nat, j ≤ N ∧ i = .int .i64 ((j : Int) - 1) ∧ Hid (∀ t, j ≤ t → (Nm.trim zs).getD t 0 = (Nm.trim ys).getD t 0) ∧ Below w'.heap.size w' wr) (fun i _ => (intOf i + 1).toNat)
    case atStart => exact ⟨N, Nat.le_refl _, rfl, fun t ht => by rw [List.getD, List.getElem?_eq_none (by have := L1.out; have := HN.out; omega), List.getD, List.getElem?_eq_none (by have := L2.out; have := HN'.out; omega)], Below.refl _ _⟩
    case round =>
      obtain ⟨j, hj, rfl, hE, hB⟩ := hrel
      by_cases hj0 : j = 0
      · subst hj0
        have HB := hid hB
        clear hB
        go_wp2
        go_ret
        refine ⟨ret_i64 (FIN.out ?_).symm, HB.out⟩
        have e := Nm.drop_eq_of_getD (by rw [L1.out, L2.out, HN.out, HN'.out]) 0 hE.out
        simpa using e
      · obtain ⟨t, rfl⟩ : ∃ t, j = t + 1 := ⟨j - 1, by omega⟩
        obtain ⟨x, hx, X⟩ : ∃ x, wr.cell? ⟨b, off + t, none⟩ = some (.int .u64 x) ∧ Hid (x = (Nm.trim zs).getD t 0) := ⟨_, (hB.cell (p := ⟨b, off + t, none⟩) hbw).trans (HC.out t (by have := L1.out; have := HN.out; omega)), rfl⟩
        obtain ⟨y, hy, Y⟩ : ∃ y, wr.cell? ⟨b', off' + t, none⟩ = some (.int .u64 y) ∧ Hid (y = (Nm.trim ys).getD t 0) := ⟨_, (hB.cell (p := ⟨b', off' + t, none⟩) hbw').trans (HC'.out t (by have := L2.out; have := HN'.out; omega)), rfl⟩
        have HB := hid hB
        have CM := hid (qcmp_at3 a5 b5 (by rw [L1.out, L2.out, HN.out, HN'.out]) t (by rw [L1.out, HN.out]; omega) hE.out X.out Y.out)
        clear hB
        have htn : (t : Int) < (n : Int) := by omega
        have htm : (t : Int) < (m : Int) := by omega
        by_cases hxy : x < y
        · go_wp2_with fail
          go_quiet (fail)
          go_wp2
          go_ret
          exact ⟨ret_i64 (CM.out.1 hxy).symm, below_drewN HB.out _⟩
        · go_wp2_with fail
          go_quiet (fail)
          have hx2 : (wr.drewN nq).cell? ⟨b, off + t, none⟩ = some (.int .u64 x) := hx
          have hy2 : (wr.drewN nq).cell? ⟨b', off' + t, none⟩ = some (.int .u64 y) := hy
          have HB2 := hid (below_drewN HB.out nq)
          clear hx hy HB
          generalize wr.drewN nq = wq at *
          by_cases hyx : y < x
          · go_wp2_with fail
            go_quiet (fail)
            go_wp2
            go_ret
            exact ⟨ret_i64 (CM.out.2 hyx).symm, below_drewN HB2.out _⟩
          · have EQ : Hid (x = y) := by show _ = _; omega
            go_wp2_with fail
            go_quiet (fail)
            go_wp2
            go_roundw
            case rel =>
              refine ⟨t, by omega, by go_num, fun i hi => ?_, below_drewN HB2.out _⟩
              by_cases e : i = t
              · subst e; rw [← X.out, ← Y.out]; exact EQ.out
              · exact hE.out i (by omega)
            case measure => simp [intOf]

theorem order_is (c : Int) (p q : Option Addr) (n cap m cap' : Nat) (zs ys : List Int) (w : World) (ha : Arg w p n cap zs) (hb : Arg w q m cap' ys) (hc : cmpI (Nm.val zs) (Nm.val ys) = c) :
    Calls Tryz.prog 90 #[.slice p n cap, .slice q m cap'] w fun e w' => e = .returned (.int .i64 c) ∧ Below w.heap.size w w' := by
  rw [← hc]
  exact order_any p q n cap m cap' zs ys w ha hb
end Go.Proofs.YtonnlimmjelldaaGreatDoor

namespace Go.Proofs.YtonnlimmjelldaaGreatDoor
open Go.RowKit Go.Deep

/-- The kit's contract for Len64, laid at this program. -/
def lenRen : Go.Shelf.Ren := ⟨fun _ => 140, fun t => if t = 53 then 26 else if t = 46 then 70 else if t = 5 then 5 else if t = 9 then 9 else if t = 4 then 4 else 3, fun g => g⟩
theorem lenLays : Lays.n129 Tryz.prog lenRen where
  mixed := by kernel_rfl
  f129 := by kernel_rfl
  t3 := by kernel_rfl
  a3 := fun _ => by kernel_rfl
  z3 := fun _ => by kernel_rfl
  v3 := fun _ => by kernel_rfl
  t4 := by kernel_rfl
  a4 := fun _ => by kernel_rfl
  z4 := fun _ => by kernel_rfl
  v4 := fun _ => by kernel_rfl
  t5 := by kernel_rfl
  a5 := fun _ => by kernel_rfl
  z5 := fun _ => by kernel_rfl
  v5 := fun _ => by kernel_rfl
  t9 := by kernel_rfl
  a9 := fun _ => by kernel_rfl
  z9 := fun _ => by kernel_rfl
  v9 := fun _ => by kernel_rfl
  t46 := by kernel_rfl
  a46 := fun _ => by kernel_rfl
  z46 := fun _ => by kernel_rfl
  v46 := fun _ => by kernel_rfl
  t53 := by kernel_rfl
  a53 := fun _ => by kernel_rfl
  z53 := fun _ => by kernel_rfl
  v53 := fun _ => by kernel_rfl

theorem len64 (x : Int) (w : World) (h0 : 0 ≤ x) (h1 : x < 18446744073709551616) :
    Calls Tryz.prog 140 #[.int .u64 x] w fun e w' => e = .returned (.int .i64 (Lib.bitLen x.toNat)) ∧ w' = w :=
  Any.bits_Len64 lenLays x w h0 (by omega)

theorem bitLen_small (x : Nat) (h : x < 18446744073709551616) : Lib.bitLen x ≤ 64 := Lib.bitLen_le x 64 (Nat.le_refl _) (by simpa using h)

end Go.Proofs.YtonnlimmjelldaaGreatDoor

namespace Go.Proofs.YtonnlimmjelldaaGreatDoor
open Go.RowKit Go.Deep

theorem lead_any (x : Int) (l : Nat) (w : World) (h0 : 0 ≤ x) (h1 : x < 18446744073709551616) (hl : Lib.bitLen x.toNat = l) :
    Calls Tryz.prog 209 #[.int .u64 x] w fun e w' => e = .returned (.int .i64 (64 - (l : Int))) ∧ w' = w := by
  have L := len64 x w h0 h1
  rw [hl] at L
  have hl64 : l ≤ 64 := by rw [← hl]; exact bitLen_small _ (by omega)
  have HL := hid L
  clear L hl
  go_enter Tryz.func209, Tryz.ntmps209
  go_wp2_with fail
  refine HL.out.mono ?_
  rintro e w' ⟨rfl, rfl⟩
  go_wp2_with fail
  go_ret
  exact ⟨rfl, rfl⟩

set_option maxRecDepth 100000 in
set_option maxHeartbeats 1000000 in
theorem div64_small (lo y : Int) (w : World) (l0 : 0 ≤ lo) (l1 : lo < 18446744073709551616) (y0 : 0 < y) (y1 : y < 18446744073709551616) :
    Calls Tryz.prog 203 #[.int .u64 0, .int .u64 lo, .int .u64 y] w fun e w' => e = .returned (.tuple #[.int .u64 (lo / y), .int .u64 (lo % y)]) ∧ Below w.heap.size w w' := by
  have hy : (y == 0) = false := by rw [beq_eq_false_iff_ne]; omega
  go_enter Tryz.func203, Tryz.ntmps203
  go_wp2_with fail
  go_quiet (fail)
  go_wp2
  go_ret2
  exact ⟨rfl, ⟨rfl, rfl, rfl, Nat.le_refl _, fun _ _ => rfl⟩⟩

/-- The shift that brings a divisor's highest binary digit to the top. -/
theorem shift_facts (y : Int) (l : Nat) (y0 : 0 < y) (y1 : y < 18446744073709551616) (hl : Lib.bitLen y.toNat = l) : ∃ s : Nat, s + l = 64 ∧ s ≤ 63 ∧ 9223372036854775808 ≤ y * 2 ^ s ∧ y * 2 ^ s < 18446744073709551616 ∧ (0 : Int) < 2 ^ s ∧ (0 : Int) < 2 ^ (64 - s) ∧ (2 : Int) ^ s * 2 ^ (64 - s) = 18446744073709551616 := by
  obtain ⟨n, rfl⟩ := Int.eq_ofNat_of_zero_le (show 0 ≤ y by omega)
  rw [Int.toNat_natCast] at hl
  have hb := Lib.bitLenAux_bounds 64 n (by simpa using (show n < 18446744073709551616 by omega)) (by omega)
  rw [show Lib.bitLenAux 64 n = l from hl] at hb
  obtain ⟨b1, b2, b3⟩ := hb
  have hl64 : l ≤ 64 := by rw [← hl]; exact bitLen_small n (by omega)
  refine ⟨64 - l, by omega, by omega, ?_⟩
  have e1 : 2 ^ l * 2 ^ (64 - l) = 18446744073709551616 := by rw [← Nat.pow_add, show l + (64 - l) = 64 by omega]
  have e2 : 2 ^ (l - 1) * 2 ^ (64 - l) = 9223372036854775808 := by rw [← Nat.pow_add, show l - 1 + (64 - l) = 63 by omega]
  have p1 : 0 < 2 ^ (64 - l) := Nat.pow_pos (by omega)
  have p2 : 0 < 2 ^ l := Nat.pow_pos (by omega)
  have c1 : 2 ^ (l - 1) * 2 ^ (64 - l) ≤ n * 2 ^ (64 - l) := Nat.mul_le_mul_right _ b2
  have c2 : n * 2 ^ (64 - l) < 2 ^ l * 2 ^ (64 - l) := Nat.mul_lt_mul_of_pos_right b3 p1
  have hP : ((2 ^ (64 - l) : Nat) : Int) = (2 : Int) ^ (64 - l) := by simp
  have hQ : ((2 ^ (64 - (64 - l)) : Nat) : Int) = (2 : Int) ^ (64 - (64 - l)) := by simp
  rw [← hP, ← hQ, show 64 - (64 - l) = l by omega, ← Int.natCast_mul, ← Int.natCast_mul, Nat.mul_comm (2 ^ (64 - l)) (2 ^ l), e1]
  omega

theorem wrap_small (x : Int) (h0 : 0 ≤ x) (h1 : x < 18446744073709551616) : IntKind.u64.wrap x = x := by rw [IntKind.wrap_u64]; omega
theorem wrap_mod (x : Int) : IntKind.u64.wrap x = x % 18446744073709551616 := by rw [IntKind.wrap_u64]

theorem mask32 (x : Int) (h0 : 0 ≤ x) (h1 : x < 18446744073709551616) : bits .and .u64 x 4294967295 = x % 4294967296 := by
  obtain ⟨n, rfl⟩ := Int.eq_ofNat_of_zero_le h0
  have h := bits_and_u64_nat n 4294967295 (by omega) (by omega)
  have e : n &&& 4294967295 = n % 4294967296 := Nat.and_two_pow_sub_one_eq_mod n 32
  rw [e] at h
  rw [show (4294967295 : Int) = ((4294967295 : Nat) : Int) from rfl, h]
  omega

/-- Digits that don't meet: 'or' is a sum. -/
theorem or_sum (hi c : Int) (s : Nat) (h0 : 0 ≤ hi) (hc0 : 0 ≤ c) (hc : c < 2 ^ s) (h1 : hi * 2 ^ s < 18446744073709551616) (h2 : c < 18446744073709551616) : bits .or .u64 (hi * 2 ^ s) c = hi * 2 ^ s + c := by
  obtain ⟨a, rfl⟩ := Int.eq_ofNat_of_zero_le h0
  obtain ⟨b, rfl⟩ := Int.eq_ofNat_of_zero_le hc0
  have hP : (2 : Int) ^ s = ((2 ^ s : Nat) : Int) := by simp
  rw [hP] at hc h1 ⊢
  have hb : b < 2 ^ s := by omega
  rw [← Int.natCast_mul] at h1 ⊢
  have h := bits_or_u64_nat (a * 2 ^ s) b (by omega) (by omega)
  rw [h, Nat.mul_comm a, ← Nat.two_pow_add_eq_or_of_lt hb a]
  omega

/-- What the operands are, under the names that the walk gives them. -/
structure Ops (hi lo y : Int) (s : Nat) (Y v1 v0 A c U L u1 u0 : Int) : Prop where
  r1 : IntKind.u64.wrap (y * 2 ^ s) = Y
  r2 : Y / 4294967296 = v1
  r3 : bits .and .u64 Y 4294967295 = v0
  r4 : IntKind.u64.wrap (hi * 2 ^ s) = A
  r5 : lo / 2 ^ (64 - s) = c
  r6 : bits .or .u64 A c = U
  r7 : IntKind.u64.wrap (lo * 2 ^ s) = L
  r8 : L / 4294967296 = u1
  r9 : bits .and .u64 L 4294967295 = u0
  nrm : Dv.Nrm Y v1 v0
  bU : 0 ≤ U ∧ U < Y
  bL : 0 ≤ L ∧ L < 18446744073709551616
  eL : L = u1 * 4294967296 + u0
  b1 : 0 ≤ u1 ∧ u1 < 4294967296
  b0 : 0 ≤ u0 ∧ u0 < 4294967296
  bY : Y < 18446744073709551616
  pos : (0 : Int) < 2 ^ s
  eY : Y = y * 2 ^ s
  eN : U * 18446744073709551616 + L = (hi * 18446744073709551616 + lo) * 2 ^ s

theorem ops_of (hi lo y : Int) (l : Nat) (h0 : 0 < hi) (hy : hi < y) (l0 : 0 ≤ lo) (l1 : lo < 18446744073709551616) (y1 : y < 18446744073709551616) (hl : Lib.bitLen y.toNat = l) :
    ∃ (s : Nat) (Y v1 v0 A c U L u1 u0 : Int), s + l = 64 ∧ s ≤ 63 ∧ Ops hi lo y s Y v1 v0 A c U L u1 u0 := by
  obtain ⟨s, hs, hs63, hs1, hs2, hP, hQ, hPQ⟩ := shift_facts y l (by omega) y1 hl
  obtain ⟨m1, m2, m3, m4, m5, m6⟩ := Dv.moved hP hQ hPQ (by omega) hy l0 l1
  have hL : IntKind.u64.wrap (lo * 2 ^ s) = lo % 2 ^ (64 - s) * 2 ^ s := by rw [wrap_mod, m5]
  have hLb : 0 ≤ lo % 2 ^ (64 - s) * 2 ^ s ∧ lo % 2 ^ (64 - s) * 2 ^ s < 18446744073709551616 := by rw [← m5]; omega
  refine ⟨s, y * 2 ^ s, y * 2 ^ s / 4294967296, y * 2 ^ s % 4294967296, hi * 2 ^ s, lo / 2 ^ (64 - s), hi * 2 ^ s + lo / 2 ^ (64 - s), lo % 2 ^ (64 - s) * 2 ^ s, lo % 2 ^ (64 - s) * 2 ^ s / 4294967296, lo % 2 ^ (64 - s) * 2 ^ s % 4294967296, hs, hs63, ?_⟩
  exact {
    r1 := wrap_small _ (by omega) hs2
    r2 := rfl
    r3 := mask32 _ (by omega) hs2
    r4 := wrap_small _ m3 (by omega)
    r5 := rfl
    r6 := or_sum hi _ s (by omega) m1 m2 (by omega) (by omega)
    r7 := hL
    r8 := rfl
    r9 := mask32 _ hLb.1 hLb.2
    nrm := ⟨by omega, by omega, by omega, by omega, by omega⟩
    bU := ⟨by omega, m4⟩
    bL := hLb
    eL := by omega
    b1 := by omega
    b0 := by omega
    bY := hs2
    pos := hP
    eY := rfl
    eN := m6 }

theorem small_mul {q v0 : Int} (h0 : 0 ≤ q) (h : q < 4294967296) (g0 : 0 ≤ v0) (g : v0 < 4294967296) : 0 ≤ q * v0 ∧ q * v0 ≤ 18446744065119617025 :=
  ⟨Int.mul_nonneg h0 g0, Int.mul_le_mul (a := q) (b := v0) (c := 4294967295) (d := 4294967295) (by omega) (by omega) (by omega) (by omega)⟩

/-- The ways of one round. -/
theorem ways {U u Y v1 v0 q r : Int} (hY : Dv.Nrm Y v1 v0) (hUY : U < Y) (hu0 : 0 ≤ u) (hu : u < 4294967296) (h : Dv.Est U u Y v1 q r) :
    (4294967296 ≤ q ∧ 4294967296 ≤ q ∧ 4294967296 ≤ r + v1 ∧ 1 ≤ q ∧ 1 ≤ q ∧ 1 ≤ q ∧ ∃ q1, q - 1 = q1 ∧ Dv.Dig U u Y q1) ∨
    (q < 4294967296 ∧ 4294967296 * r + u < q * v0 ∧ 4294967296 ≤ r + v1 ∧ 1 ≤ q ∧ 0 ≤ q * v0 ∧ q * v0 ≤ 18446744065119617025 ∧ ∃ q1, q - 1 = q1 ∧ Dv.Dig U u Y q1) ∨
    (q < 4294967296 ∧ q * v0 ≤ 4294967296 * r + u ∧ q < 4294967296 ∧ 0 ≤ q ∧ 0 ≤ q * v0 ∧ q * v0 ≤ 18446744065119617025 ∧ ∃ q1, q = q1 ∧ Dv.Dig U u Y q1) ∨
    (4294967296 ≤ q ∧ 4294967296 ≤ q ∧ r + v1 < 4294967296 ∧ 1 ≤ q ∧ Dv.Est U u Y v1 (q - 1) (r + v1)) ∨
    (q < 4294967296 ∧ 4294967296 * r + u < q * v0 ∧ r + v1 < 4294967296 ∧ 1 ≤ q ∧ Dv.Est U u Y v1 (q - 1) (r + v1)) := by
  by_cases h1 : 4294967296 ≤ q
  · by_cases h2 : 4294967296 ≤ r + v1
    · exact .inl ⟨h1, h1, h2, by omega, by omega, by omega, _, rfl, Dv.dig_break hY hUY hu0 hu h (.inl h1) h2⟩
    · exact .inr (.inr (.inr (.inl ⟨h1, h1, by omega, by omega, Dv.est_on hY hUY hu0 hu h (.inl h1) (by omega)⟩)))
  · by_cases h3 : 4294967296 * r + u < q * v0
    · have hq := (Dv.est_down hY hUY hu0 hu h (.inr h3)).1
      by_cases h2 : 4294967296 ≤ r + v1
      · have hm := small_mul h.1 (show q < 4294967296 by omega) hY.2.1 hY.2.2.1
        exact .inr (.inl ⟨by omega, h3, h2, hq, hm.1, hm.2, _, rfl, Dv.dig_break hY hUY hu0 hu h (.inr h3) h2⟩)
      · exact .inr (.inr (.inr (.inr ⟨by omega, h3, by omega, hq, Dv.est_on hY hUY hu0 hu h (.inr h3) (by omega)⟩)))
    · have hm := small_mul h.1 (show q < 4294967296 by omega) hY.2.1 hY.2.2.1
      exact .inr (.inr (.inl ⟨by omega, by omega, by omega, h.1, hm.1, hm.2, _, rfl, Dv.dig_exit hY h (by omega) (by omega)⟩))

theorem est_le {U u Y v1 v0 q r : Int} (hY : Dv.Nrm Y v1 v0) (h : Dv.Est U u Y v1 q r) (hU : U < 18446744073709551616) : q < 18446744073709551616 := by
  have h1 : q * 1 ≤ q * v1 := Int.mul_le_mul_of_nonneg_left (by have := hY.2.2.2.1; omega) h.1
  have := h.2.2.2.1
  have := h.2.1
  omega

/-- What is left behind a digit, reckoned in 64 bits. -/
theorem rest_of {U u Y q : Int} (h : Dv.Dig U u Y q) (hY : Y < 18446744073709551616) :
    ∃ R, IntKind.u64.wrap (IntKind.u64.wrap (IntKind.u64.wrap (U * 4294967296) + u) - IntKind.u64.wrap (q * Y)) = R ∧ (0 ≤ R ∧ R < Y) ∧ R = U * 4294967296 + u - q * Y := by
  obtain ⟨h1, h2, h3, h4⟩ := h
  refine ⟨U * 4294967296 + u - q * Y, ?_, by omega, rfl⟩
  simp only [wrap_mod]
  omega

theorem ret_pair {a b c d : Int} (h1 : a = c) (h2 : b = d) : Ending.returned (.tuple #[.int .u64 a, .int .u64 b]) = .returned (.tuple #[.int .u64 c, .int .u64 d]) := by rw [h1, h2]

set_option maxRecDepth 100000 in
set_option maxHeartbeats 4000000 in
theorem div64_big (hi lo y : Int) (w : World) (h0 : 0 < hi) (hy : hi < y) (l0 : 0 ≤ lo) (l1 : lo < 18446744073709551616) (y1 : y < 18446744073709551616) :
    Calls Tryz.prog 203 #[.int .u64 hi, .int .u64 lo, .int .u64 y] w fun e w' => e = .returned (.tuple #[.int .u64 ((hi * 18446744073709551616 + lo) / y), .int .u64 ((hi * 18446744073709551616 + lo) % y)]) ∧ Below w.heap.size w w' := by
  have hy0 : (y == 0) = false := by rw [beq_eq_false_iff_ne]; omega
  have hh0 : (hi == 0) = false := by rw [beq_eq_false_iff_ne]; omega
  have hyh : decide (y ≤ hi) = false := by simp; omega
  obtain ⟨l, hl⟩ : ∃ l, Lib.bitLen y.toNat = l := ⟨_, rfl⟩
  have LE := hid (lead_any y l w (by omega) y1 hl)
  obtain ⟨s, Y, v1, v0, A, c, U, L, u1, u0, hs, hs63, O⟩ := ops_of hi lo y l h0 hy l0 l1 y1 hl
  have es : (64 - (l : Int)) = (s : Int) := by omega
  rw [es] at LE
  clear hl hs es
  have r1 := O.r1
  have r2 := O.r2
  have r3 := O.r3
  have r4 := O.r4
  have r5 := O.r5
  have r6 := O.r6
  have r7 := O.r7
  have r8 := O.r8
  have r9 := O.r9
  have E0 := Dv.est_first O.nrm O.bU.1 O.b1.1 O.b1.2
  obtain ⟨q, r10⟩ : ∃ q, U / v1 = q := ⟨_, rfl⟩
  rw [r10] at E0
  obtain ⟨r, r11⟩ : ∃ r, U - q * v1 = r := ⟨_, rfl⟩
  rw [r11] at E0
  have bv0 := O.nrm.2.2.2.1
  have bv1 := O.nrm.2.2.2.2
  have bw0 := O.nrm.2.1
  have bw1 := O.nrm.2.2.1
  have bU0 := O.bU.1
  have bU1 : U < 18446744073709551616 := by have := O.bU.2; have := O.bY; omega
  have bu0 := O.b1.1
  have bu1 := O.b1.2
  have bz0 := O.b0.1
  have bz1 := O.b0.2
  have bq0 := E0.1
  have br0 := E0.2.1
  have br1 := E0.2.2.1
  have bqv0 : 0 ≤ q * v1 := Int.mul_nonneg bq0 (by omega)
  have bqv1 : q * v1 ≤ U := by omega
  have HE := hid E0
  have HO := hid O
  clear E0 O
  go_enter Tryz.func203, Tryz.ntmps203
  go_wp2_with fail
  refine LE.out.mono ?_
  rintro e w' ⟨rfl, rfl⟩
  go_wp2_with fail
  have R10 := hid r10
  clear r1 r2 r3 r4 r5 r6 r7 r8 r9 r10 r11 hy0 hh0 hyh LE
  go_loop [15, 16] (fun a b => ∃ q r, a = .int .u64 q ∧ b = .int .u64 r ∧ Dv.Est U u1 Y v1 q r) (fun a _ => (intOf a).toNat)
  case atStart => exact ⟨q, r, by rw [R10.out], rfl, HE.out⟩
  case round =>
    clear bq0 br0 br1 bqv0 bqv1 HE R10
    obtain ⟨q, r, rfl, rfl, E⟩ := hrel
    have br0 := E.2.1
    have br1 := E.2.2.1
    have bq0 := E.1
    have bq1 := est_le HO.out.nrm E bU1
    have W := ways HO.out.nrm HO.out.bU.2 bu0 bu1 E
    clear E
    rcases W with c | c | c | c | c
    rotate_right 2
    · obtain ⟨t1, t2, t3, t4, E⟩ := c
      have HE := hid E
      clear E
      go_wp2
      go_round
      case rel => exact ⟨q - 1, r + v1, rfl, rfl, HE.out⟩
      case measure => simp [intOf]; omega
    · obtain ⟨t1, t2, t3, t4, E⟩ := c
      have HE := hid E
      obtain ⟨k0, k1⟩ := small_mul bq0 t1 bw0 bw1
      clear E
      go_wp2
      go_round
      case rel => exact ⟨q - 1, r + v1, rfl, rfl, HE.out⟩
      case measure => simp [intOf]; omega
    all_goals
      obtain ⟨t1, t2, t3, t4, t5, t6, q1, hq1, D⟩ := c
      try (have hsub : q = q1 := hq1; clear hsub; subst hq1)
      obtain ⟨R, r12, bR, eR⟩ := rest_of D HO.out.bY
      have D1 := hid D
      have BR := hid bR
      have ER := hid eR
      have bq10 := D.1
      have bq11 := D.2.1
      have bR0 := bR.1
      have bR1 : R < 18446744073709551616 := by have := HO.out.bY; omega
      have E0 := Dv.est_first HO.out.nrm bR0 bz0 bz1
      obtain ⟨qb, r13⟩ : ∃ q, R / v1 = q := ⟨_, rfl⟩
      rw [r13] at E0
      obtain ⟨rb, r14⟩ : ∃ r, R - qb * v1 = r := ⟨_, rfl⟩
      rw [r14] at E0
      have bqb0 := E0.1
      have brb0 := E0.2.1
      have brb1 := E0.2.2.1
      have bqvb0 : 0 ≤ qb * v1 := Int.mul_nonneg bqb0 (by omega)
      have bqvb1 : qb * v1 ≤ R := by omega
      have HE := hid E0
      clear E0 D eR bR
      go_wp2
      have R13 := hid r13
      clear r12 r13 r14
      clear t1 t2 t3 t4 t5 t6
      go_loop [18, 16] (fun a b => ∃ q r, a = .int .u64 q ∧ b = .int .u64 r ∧ Dv.Est R u0 Y v1 q r) (fun a _ => (intOf a).toNat)
      case atStart => exact ⟨qb, rb, by first | rfl | rw [R13.out], rfl, HE.out⟩
      case round =>
        clear bqb0 brb0 brb1 bqvb0 bqvb1 HE R13 br0 br1 bq0 bq1
        obtain ⟨q, r, rfl, rfl, E⟩ := hrel
        have br0 := E.2.1
        have br1 := E.2.2.1
        have bq0 := E.1
        have bq1 := est_le HO.out.nrm E bR1
        have W := ways HO.out.nrm BR.out.2 bz0 bz1 E
        clear E
        rcases W with c | c | c | c | c
        rotate_right 2
        · obtain ⟨t1, t2, t3, t4, E⟩ := c
          have HE := hid E
          clear E
          go_wp2
          go_round
          case rel => exact ⟨q - 1, r + v1, rfl, rfl, HE.out⟩
          case measure => simp [intOf]; omega
        · obtain ⟨t1, t2, t3, t4, E⟩ := c
          have HE := hid E
          obtain ⟨k0, k1⟩ := small_mul bq0 t1 bw0 bw1
          clear E
          go_wp2
          go_round
          case rel => exact ⟨q - 1, r + v1, rfl, rfl, HE.out⟩
          case measure => simp [intOf]; omega
        all_goals
          obtain ⟨t1, t2, t3, t4, t5, t6, q0, hq0, D⟩ := c
          try (have hsub : q = q0 := hq0; clear hsub; subst hq0)
          obtain ⟨R0, r15, bR0', eR0⟩ := rest_of D HO.out.bY
          have FIN := hid (Dv.whole HO.out.pos HO.out.eY HO.out.eN HO.out.eL ER.out eR0 bR0'.1 bR0'.2 (by omega))
          have bq00 := D.1
          have bq01 := D.2.1
          have bR00 := bR0'.1
          clear D eR0 bR0'
          go_wp2
          go_ret2
          exact ⟨ret_pair FIN.out.1.symm FIN.out.2.symm, Below.refl _ _⟩

/-- Div64: two limbs by one, the higher one below the divisor. -/
theorem div64 (hi lo y : Int) (w : World) (h0 : 0 ≤ hi) (hy : hi < y) (l0 : 0 ≤ lo) (l1 : lo < 18446744073709551616) (y1 : y < 18446744073709551616) :
    Calls Tryz.prog 203 #[.int .u64 hi, .int .u64 lo, .int .u64 y] w fun e w' => ∃ q r : Int, e = .returned (.tuple #[.int .u64 q, .int .u64 r]) ∧ (0 ≤ q ∧ q < 18446744073709551616 ∧ 0 ≤ r ∧ r < y) ∧ Hid (q * y + r = hi * 18446744073709551616 + lo) ∧ Below w.heap.size w w' := by
  obtain ⟨N, hN⟩ : ∃ N, N = hi * 18446744073709551616 + lo := ⟨_, rfl⟩
  have d1 := Int.emod_add_mul_ediv N y
  have d2 := Int.emod_nonneg N (show y ≠ 0 by omega)
  have d3 := Int.emod_lt_of_pos N (show 0 < y by omega)
  have d4 : 0 ≤ N / y := Int.ediv_nonneg (by omega) (by omega)
  have d5 : N / y < 18446744073709551616 := by
    rw [Int.ediv_lt_iff_lt_mul (by omega)]
    omega
  rw [Int.mul_comm] at d1
  have fin : ∀ (e : Ending) (w' : World), e = .returned (.tuple #[.int .u64 (N / y), .int .u64 (N % y)]) ∧ Below w.heap.size w w' → ∃ q r : Int, e = .returned (.tuple #[.int .u64 q, .int .u64 r]) ∧ (0 ≤ q ∧ q < 18446744073709551616 ∧ 0 ≤ r ∧ r < y) ∧ Hid (q * y + r = hi * 18446744073709551616 + lo) ∧ Below w.heap.size w w' :=
    fun e w' h => ⟨N / y, N % y, h.1, ⟨d4, d5, d2, d3⟩, show _ = _ by omega, h.2⟩
  by_cases hz : hi = 0
  · subst hz
    have : N = lo := by omega
    rw [this] at fin
    exact (div64_small lo y w l0 l1 (by omega) y1).mono fin
  · rw [hN] at fin
    exact (div64_big hi lo y w (by omega) hy l0 l1 y1).mono fin
end Go.Proofs.YtonnlimmjelldaaGreatDoor

namespace Go.Proofs.YtonnlimmjelldaaGreatDoor
open Go.RowKit Go.Deep

theorem add64 (x y c : Int) (hx : 0 ≤ x) (hy : 0 ≤ y) (hc0 : 0 ≤ c) (hc : c ≤ 1) (w : World) :
    (callFunc 145 #[.int .u64 x, .int .u64 y, .int .u64 c]).run Tryz.prog w = .ok (.value (.tuple #[.int .u64 ((x + y + c) % 18446744073709551616), .int .u64 ((x + y + c) / 18446744073709551616)])) w := by
  rw [run_callFunc_extern Tryz.func145 (by kernel_rfl) (by kernel_rfl) (by kernel_rfl) (e := add64Entry) (by kernel_rfl), run_add64 x y c hx hy hc0 hc]
  rfl

/-- Its two answers under names. -/
theorem add64' (x y c s c' : Int) (hx : 0 ≤ x) (hy : 0 ≤ y) (hc0 : 0 ≤ c) (hc : c ≤ 1) (hs : s = (x + y + c) % 18446744073709551616) (hc' : c' = (x + y + c) / 18446744073709551616) (w : World) :
    (callFunc 145 #[.int .u64 x, .int .u64 y, .int .u64 c]).run Tryz.prog w = .ok (.value (.tuple #[.int .u64 s, .int .u64 c'])) w := by
  rw [hs, hc']
  exact add64 x y c hx hy hc0 hc w
end Go.Proofs.YtonnlimmjelldaaGreatDoor

namespace Go.Proofs.YtonnlimmjelldaaGreatDoor
open Go.RowKit Go.Deep

/-- The kit's contract for Mul64, laid at this program. -/
def mulRen : Go.Shelf.Ren := ⟨fun _ => 144, fun t => if t = 53 then 26 else 70, fun g => g⟩
theorem mulLays : Lays.n264 Tryz.prog mulRen where
  mixed := by kernel_rfl
  f264 := by kernel_rfl
  t46 := by kernel_rfl
  a46 := fun _ => by kernel_rfl
  z46 := fun _ => by kernel_rfl
  v46 := fun _ => by kernel_rfl
  t53 := by kernel_rfl
  a53 := fun _ => by kernel_rfl
  z53 := fun _ => by kernel_rfl
  v53 := fun _ => by kernel_rfl

theorem mul64_nat (x y : Nat) (hx : x < 18446744073709551616) (hy : y < 18446744073709551616) (w : World) :
    Calls Tryz.prog 144 #[.int .u64 x, .int .u64 y] w fun e w' => e = .returned (.tuple #[.int .u64 ((x * y / 18446744073709551616 : Nat) : Int), .int .u64 ((x * y % 18446744073709551616 : Nat) : Int)]) ∧ w' = w :=
  Any.bits_Mul64 mulLays x y hx hy w

/-- Mul64: the two limbs of the product, under names. -/
theorem mul64 (x y : Int) (hx : 0 ≤ x) (hx' : x < 18446744073709551616) (hy : 0 ≤ y) (hy' : y < 18446744073709551616) (w : World) :
    Calls Tryz.prog 144 #[.int .u64 x, .int .u64 y] w fun e w' => ∃ h l : Int, e = .returned (.tuple #[.int .u64 h, .int .u64 l]) ∧ (0 ≤ h ∧ h ≤ 18446744073709551614 ∧ 0 ≤ l ∧ l < 18446744073709551616) ∧ Hid (l + 18446744073709551616 * h = x * y) ∧ Hid (h = x * y / 18446744073709551616) ∧ w' = w := by
  obtain ⟨x, rfl⟩ := Int.eq_ofNat_of_zero_le hx
  obtain ⟨y, rfl⟩ := Int.eq_ofNat_of_zero_le hy
  refine (mul64_nat x y (by omega) (by omega) w).mono ?_
  rintro e w' ⟨rfl, rfl⟩
  have hb : x * y ≤ 18446744073709551615 * 18446744073709551615 := Nat.mul_le_mul (by omega) (by omega)
  have hc : ((x * y : Nat) : Int) = (x : Int) * (y : Int) := Int.natCast_mul x y
  rw [← hc]
  refine ⟨_, _, rfl, ?_, ?_, ?_, rfl⟩
  · generalize x * y = t at hb
    omega
  · show _ = _
    generalize x * y = t
    omega
  · show _ = _
    generalize x * y = t
    omega
end Go.Proofs.YtonnlimmjelldaaGreatDoor

namespace Go.Proofs.YtonnlimmjelldaaGreatDoor
open Go.RowKit Go.Deep

/-- Two limbs moved up, as one: digits that don't meet. -/
theorem shift_or (x y : Int) (t u : Nat) (htu : t + u = 64) (_x0 : 0 ≤ x) (y0 : 0 ≤ y) (y1 : y < 18446744073709551616) :
    ∃ A C s : Int, IntKind.u64.wrap (x * 2 ^ t) = A ∧ y / 2 ^ u = C ∧ bits .or .u64 A C = s ∧ Hid (s = x % 2 ^ u * 2 ^ t + y / 2 ^ u) := by
  have hP : (0 : Int) < 2 ^ t := Int.pow_pos (by omega)
  have hQ : (0 : Int) < 2 ^ u := Int.pow_pos (by omega)
  have hPQ : (2 : Int) ^ t * 2 ^ u = 18446744073709551616 := by rw [← Int.pow_add, htu]; rfl
  have h1 := Qd.part_bd (z := x) hP hQ hPQ
  have h2 : 0 ≤ y / 2 ^ u := Int.ediv_nonneg y0 (by omega)
  have h3 : y / 2 ^ u < 2 ^ t := by rw [Int.ediv_lt_iff_lt_mul hQ, hPQ]; exact y1
  have h4 := Int.emod_add_mul_ediv x (2 ^ u)
  have hA : IntKind.u64.wrap (x * 2 ^ t) = x % 2 ^ u * 2 ^ t := by
    have e : x * 2 ^ t = x % 2 ^ u * 2 ^ t + 18446744073709551616 * (x / 2 ^ u) := by
      have : (x % 2 ^ u + 2 ^ u * (x / 2 ^ u)) * 2 ^ t = x * 2 ^ t := by rw [h4]
      rw [Int.add_mul, Int.mul_right_comm, Int.mul_comm (2 ^ u) (2 ^ t), hPQ] at this
      omega
    rw [wrap_mod, e]
    omega
  exact ⟨_, _, _, hA, rfl, rfl, or_sum (x % 2 ^ u) (y / 2 ^ u) t (Int.emod_nonneg x (by omega)) h2 h3 (by omega) (by omega)⟩

theorem ret_u64 {a b : Int} (h : a = b) : Ending.returned (.int .u64 a) = .returned (.int .u64 b) := by rw [h]

set_option maxRecDepth 100000 in
set_option maxHeartbeats 1000000 in
/-- Limb i of the number moved up by t binary digits. -/
theorem shifted_any (p : Option Addr) (n cap : Nat) (zs : List Int) (i t : Nat) (ii tt v : Int) (w : World) (hn : zs.length = n) (hc : n ≤ cap) (hm : cap ≤ 140737488355328) (h : Lies w p zs) (hz : Nm.Limbs zs) (hi : i < n) (ht : t ≤ 63) (hii : ii = (i : Int)) (htt : tt = (t : Int)) (hv : Qd.limb zs (2 ^ t) (2 ^ (64 - t)) i = v) :
    Calls Tryz.prog 210 #[.slice p n cap, .int .i64 ii, .int .i64 tt] w fun e w' => e = .returned (.int .u64 v) ∧ Below w.heap.size w w' := by
  subst hv
  subst hii
  subst htt
  obtain ⟨b, off, rfl, hbw, HC⟩ := h.at (by omega)
  obtain ⟨u, hu⟩ : ∃ u, 64 - t = u := ⟨_, rfl⟩
  rw [hu]
  cases i with
  | zero =>
    obtain ⟨x, hx, X⟩ : ∃ x, w.cell? ⟨b, off, none⟩ = some (.int .u64 x) ∧ Hid (x = zs.getD 0 0) := ⟨_, HC.out 0 (by omega), rfl⟩
    have hx0 := hz.at 0
    rw [← X.out] at hx0
    obtain ⟨A, C, s, r1, r2, r3, R⟩ := shift_or x 0 t u (by omega) hx0.1 (Int.le_refl 0) (by omega)
    have FIN : Hid (A = Qd.limb zs (2 ^ t) (2 ^ u) 0) := by
      show _ = _
      rw [Int.zero_ediv] at r2 R
      subst r2
      have e := Qd.part_bd (z := x) (T := 2 ^ t) (U := 2 ^ u) (Int.pow_pos (by omega)) (Int.pow_pos (by omega)) (by rw [← Int.pow_add, show t + u = 64 by omega]; rfl)
      have o := or_sum (x % 2 ^ u) 0 t (Int.emod_nonneg x (by have : (0 : Int) < 2 ^ u := Int.pow_pos (by omega); omega)) (Int.le_refl 0) (Int.pow_pos (by omega)) (by have : (0 : Int) < 2 ^ t := Int.pow_pos (by omega); omega) (by omega)
      have hA : A = x % 2 ^ u * 2 ^ t := by
        rw [← r1, wrap_mod]
        have h4 := Int.emod_add_mul_ediv x (2 ^ u)
        have hPQ : (2 : Int) ^ t * 2 ^ u = 18446744073709551616 := by rw [← Int.pow_add, show t + u = 64 by omega]; rfl
        have e2 : x * 2 ^ t = x % 2 ^ u * 2 ^ t + 18446744073709551616 * (x / 2 ^ u) := by
          have : (x % 2 ^ u + 2 ^ u * (x / 2 ^ u)) * 2 ^ t = x * 2 ^ t := by rw [h4]
          rw [Int.add_mul, Int.mul_right_comm, Int.mul_comm (2 ^ u) (2 ^ t), hPQ] at this
          omega
        have : (0 : Int) < 2 ^ t := Int.pow_pos (by omega)
        rw [e2]
        omega
      rw [hA, Qd.limb, ← X.out]
      show _ = _ + 0
      omega
    clear r2 r3 R X
    go_enter Tryz.func210, Tryz.ntmps210
    go_wp2
    go_ret
    exact ⟨ret_u64 FIN.out, Below.refl _ _⟩
  | succ j =>
    obtain ⟨x, hx, X⟩ : ∃ x, w.cell? ⟨b, off + (j + 1), none⟩ = some (.int .u64 x) ∧ Hid (x = zs.getD (j + 1) 0) := ⟨_, HC.out (j + 1) (by omega), rfl⟩
    obtain ⟨y, hy, Y⟩ : ∃ y, w.cell? ⟨b, off + j, none⟩ = some (.int .u64 y) ∧ Hid (y = zs.getD j 0) := ⟨_, HC.out j (by omega), rfl⟩
    have hx0 := hz.at (j + 1)
    rw [← X.out] at hx0
    have hy0 := hz.at j
    rw [← Y.out] at hy0
    obtain ⟨hx0, hx1⟩ := hx0
    obtain ⟨hy0, hy1⟩ := hy0
    obtain ⟨A, C, s, r1, r2, r3, R⟩ := shift_or x y t u (by omega) hx0 hy0 hy1
    have r4 : 64 - (t : Int) = (u : Int) := by omega
    have FIN : Hid (s = Qd.limb zs (2 ^ t) (2 ^ u) (j + 1)) := by
      show _ = _
      rw [R.out, Qd.limb, ← X.out, Y.out]
      rfl
    have hij : ((j : Int) + 1 == 0) = false := by rw [beq_eq_false_iff_ne]; omega
    obtain ⟨k, HK⟩ : ∃ k, Hid (k = j + 1) := ⟨_, rfl⟩
    have ek : (((j + 1 : Nat) : Int)) = (k : Int) := by rw [HK.out]
    have ek1 : (k : Int) - 1 = (j : Int) := by rw [HK.out]; omega
    have hk0 : ((k : Int) == 0) = false := by rw [beq_eq_false_iff_ne]; omega
    have hkn : (k : Int) < (n : Int) := by rw [HK.out]; omega
    have hjn : (j : Int) < (n : Int) := by omega
    have hx2 : w.cell? ⟨b, off + k, none⟩ = some (.int .u64 x) := by rw [HK.out]; exact hx
    rw [ek]
    clear R hx hij ek hi hu
    go_enter Tryz.func210, Tryz.ntmps210
    go_wp2_with fail
    go_quiet (fail)
    go_wp2
    go_ret
    exact ⟨ret_u64 FIN.out, below_drewN (Below.refl _ _) _⟩

set_option maxRecDepth 100000 in
set_option maxHeartbeats 1000000 in
/-- The guess made less. -/
theorem lessened_any (Q : Int → Prop) (f s h m l d left : Int) (w : World) (hQ : ∀ q, Q q → Qd.Fits q f s h m l) (f0 : 0 ≤ f) (f1 : f < 18446744073709551616) (s0 : 0 ≤ s) (s1 : s < 18446744073709551616) (l0 : 0 ≤ l) (l1 : l < 18446744073709551616)
    (H : Qd.Over Q f (h * 18446744073709551616 + m) d left) :
    Calls Tryz.prog 211 #[.int .u64 d, .int .u64 left, .int .u64 l, .int .u64 f, .int .u64 s] w fun e w' => ∃ g, e = .returned (.int .u64 g) ∧ (0 ≤ g ∧ g < 18446744073709551616) ∧ Hid (∀ q, Q q → q ≤ g) ∧ w' = w := by
  have HH := hid H
  have HQ := hid hQ
  clear H hQ
  go_enter Tryz.func211, Tryz.ntmps211
  go_wp2_with fail
  go_loop [0, 1] (fun a b => ∃ d left, a = .int .u64 d ∧ b = .int .u64 left ∧ Hid (Qd.Over Q f (h * 18446744073709551616 + m) d left)) (fun a _ => (intOf a).toNat)
  case atStart => exact ⟨d, left, rfl, rfl, HH.out⟩
  case round =>
    clear HH
    obtain ⟨d, left, rfl, rfl, H⟩ := hrel
    obtain ⟨d0, d1⟩ := H.out.1
    obtain ⟨left0, left1⟩ := H.out.2.1
    go_wp2_with fail
    refine (mul64 d s d0 d1 s0 s1 _).mono ?_
    rintro e w' ⟨hh, ll, rfl, ⟨hh0, hh1, ll0, ll1⟩, E, _, rfl⟩
    rcases (show hh < left ∨ (hh = left ∧ ll ≤ l) ∨ (left < hh) ∨ (hh = left ∧ l < ll) by omega) with c | c | c | c
    · go_wp2
      go_ret
      exact ⟨d, rfl, ⟨d0, d1⟩, H.out.2.2.2, rfl⟩
    · obtain ⟨rfl, c⟩ := c
      go_wp2
      go_ret
      exact ⟨d, rfl, ⟨d0, d1⟩, H.out.2.2.2, rfl⟩
    all_goals
      have hc : left * 18446744073709551616 + l < d * s := by
        have := E.out
        omega
      obtain ⟨g1, g2, g3⟩ := Qd.over_down HQ.out l0 f0 H.out hc
      have G3 := hid g3
      have G2 := hid g2
      clear g2 g3
      by_cases hr : left + f < 18446744073709551616
      · have ON := hid (Qd.over_on HQ.out l0 f0 H.out hc hr)
        clear hc
        try (obtain ⟨rfl, c⟩ := c)
        go_wp2
        go_round
        case rel => exact ⟨d - 1, _, rfl, rfl, ON.out⟩
        case measure => simp [intOf]; omega
      · have r1 : IntKind.u64.wrap (left + f) = left + f - 18446744073709551616 := by rw [wrap_mod]; omega
        clear hc
        try (obtain ⟨rfl, c⟩ := c)
        go_wp2
        go_ret
        exact ⟨d - 1, rfl, by omega, G3.out, rfl⟩
end Go.Proofs.YtonnlimmjelldaaGreatDoor

namespace Go.Proofs.YtonnlimmjelldaaGreatDoor
open Go.RowKit Go.Deep

/-- Both lists lie where they lay. -/
def Both (w : World) (p q : Option Addr) (ps bs : List Int) : Prop := Lies w p ps ∧ Lies w q bs

theorem Both.below {w w' : World} {p q : Option Addr} {ps bs : List Int} (h : Both w p q ps bs) (hb : Below w.heap.size w w') : Both w' p q ps bs :=
  ⟨h.1.below hb (Nat.le_refl _), h.2.below hb (Nat.le_refl _)⟩

/-- Moved up till its highest binary digit is at the top, the divisor keeps its limbs. -/
theorem room_up {bs : List Int} (hz : Nm.Limbs bs) {k : Nat} (lb : bs.length = k + 2) {T U y : Int} (hT : 0 < T) (hTU : T * U = 18446744073709551616) (hy : bs.getD (k + 1) 0 = y) (hyT : y * T < 18446744073709551616) : Nm.val bs * T < Nm.pw (k + 2) := by
  have h1 := Nm.val_take_succ bs (k + 1) (by omega)
  rw [List.take_of_length_le (by omega), hy] at h1
  have h2 := (Nm.val_bd _ (hz.take (k + 1))).2
  rw [List.length_take, Nat.min_eq_left (by omega)] at h2
  have hyU : y + 1 ≤ U := by
    rcases (show y + 1 ≤ U ∨ U ≤ y by omega) with c | c
    · exact c
    · exfalso
      have : U * T ≤ y * T := Int.mul_le_mul_of_nonneg_right c (by omega)
      rw [Int.mul_comm U T, hTU] at this
      omega
  have h3 : (y + 1) * T ≤ U * T := Int.mul_le_mul_of_nonneg_right hyU (by omega)
  rw [Int.mul_comm U T, hTU] at h3
  have hp := Nm.pw_pos (k + 1)
  have h4 : Nm.pw (k + 1) * ((y + 1) * T) ≤ Nm.pw (k + 1) * 18446744073709551616 := Int.mul_le_mul_of_nonneg_left h3 (by omega)
  have h5 : Nm.val bs < Nm.pw (k + 1) * (y + 1) := by rw [Int.mul_add, Int.mul_one]; omega
  have h6 := Int.mul_lt_mul_of_pos_right h5 hT
  rw [Int.mul_assoc] at h6
  rw [show k + 2 = k + 1 + 1 from rfl, Nm.pw_succ]
  omega

set_option maxRecDepth 100000 in
set_option maxHeartbeats 1000000 in
theorem guess_any (p q : Option Addr) (k n n1 cap cap' : Nat) (ps bs : List Int) (w : World) (hn : n = k + 2) (hn1 : n1 = k + 3) (lb : bs.length = n) (lp : ps.length = n1) (hc : n1 ≤ cap) (hc' : n ≤ cap') (hm : cap ≤ 140737488355328) (hm' : cap' ≤ 140737488355328)
    (hp : Lies w p ps) (hb : Lies w q bs) (hlp : Nm.Limbs ps) (hlb : Nm.Limbs bs) (htop : bs.getD (k + 1) 0 ≠ 0) (hpb : Nm.val ps < Nm.val bs * 18446744073709551616) :
    Calls Tryz.prog 204 #[.slice p n1 cap, .slice q n cap'] w fun e w' => ∃ g, e = .returned (.int .u64 g) ∧ (0 ≤ g ∧ g < 18446744073709551616) ∧ Hid (∀ x, 0 ≤ x → x * Nm.val bs ≤ Nm.val ps → x ≤ g) ∧ Below w.heap.size w w' := by
  obtain ⟨b, off, rfl, hbw, HC⟩ := hb.at (by omega)
  obtain ⟨t1, HT1⟩ : ∃ t1, Hid (t1 = k + 1) := ⟨_, rfl⟩
  have e1 : (n : Int) - 1 = (t1 : Int) := by rw [HT1.out]; omega
  obtain ⟨y, hy, Y⟩ : ∃ y, w.cell? ⟨b, off + t1, none⟩ = some (.int .u64 y) ∧ Hid (y = bs.getD t1 0) := ⟨_, HC.out t1 (by rw [HT1.out]; omega), rfl⟩
  have hy0 := hlb.at t1
  rw [← Y.out] at hy0
  obtain ⟨hy0, hy1⟩ := hy0
  have hyp : 0 < y := by
    have := Y.out
    rw [HT1.out] at this
    omega
  obtain ⟨l, hl⟩ : ∃ l, Lib.bitLen y.toNat = l := ⟨_, rfl⟩
  obtain ⟨t, ht, ht63, _, hyT, hT, hU, hTU⟩ := shift_facts y l hyp hy1 hl
  have LE := lead_any y l w hy0 hy1 hl
  rw [show 64 - (l : Int) = (t : Int) by omega] at LE
  have F := Qd.fits hlb hlp hT hU hTU (k := k) (by omega) (by omega) (room_up hlb (by omega) hT hTU (by rw [← HT1.out]; exact Y.out.symm) hyT) hpb
  have Bf := Qd.limb_bd hlb hT hU hTU (k + 1)
  have Bs := Qd.limb_bd hlb hT hU hTU k
  have Bh := Qd.limb_bd hlp hT hU hTU (k + 2)
  have Bm := Qd.limb_bd hlp hT hU hTU (k + 1)
  have Bl := Qd.limb_bd hlp hT hU hTU k
  obtain ⟨f, hf⟩ : ∃ f, Qd.limb bs (2 ^ t) (2 ^ (64 - t)) (k + 1) = f := ⟨_, rfl⟩
  obtain ⟨s, hs⟩ : ∃ f, Qd.limb bs (2 ^ t) (2 ^ (64 - t)) k = f := ⟨_, rfl⟩
  obtain ⟨h, hh⟩ : ∃ f, Qd.limb ps (2 ^ t) (2 ^ (64 - t)) (k + 2) = f := ⟨_, rfl⟩
  obtain ⟨m, hmm⟩ : ∃ f, Qd.limb ps (2 ^ t) (2 ^ (64 - t)) (k + 1) = f := ⟨_, rfl⟩
  obtain ⟨lo, hlo⟩ : ∃ f, Qd.limb ps (2 ^ t) (2 ^ (64 - t)) k = f := ⟨_, rfl⟩
  rw [hf, hs, hh, hmm, hlo] at F
  rw [hf] at Bf
  rw [hs] at Bs
  rw [hh] at Bh
  rw [hmm] at Bm
  rw [hlo] at Bl
  obtain ⟨f0, f1⟩ := Bf
  obtain ⟨s0, s1⟩ := Bs
  obtain ⟨h0, h1⟩ := Bh
  obtain ⟨m0, m1⟩ := Bm
  obtain ⟨lo0, lo1⟩ := Bl
  obtain ⟨hhf, hfit⟩ := F
  have HQ : Hid (∀ x, (fun x => 0 ≤ x ∧ x * Nm.val bs ≤ Nm.val ps) x → Qd.Fits x f s h m lo) := fun x hx => hfit x hx.1 hx.2
  have HLE := hid LE
  have HBO : Hid (Both w p (some ⟨b, off, none⟩) ps bs) := ⟨hp, hb⟩
  have HF := hid hf
  have HS := hid hs
  have HH := hid hh
  have HM := hid hmm
  have HL := hid hlo
  have hLP := hid hlp
  have hLB := hid hlb
  have HN := hid hn
  have HN1 := hid hn1
  have HLP := hid lp
  have HLB := hid lb
  have hnn1 : (n : Int) < (n1 : Int) := by omega
  clear LE hf hs hh hmm hlo hfit hlp hlb hn hn1 lp lb hp hb hl ht htop hpb hyT hT hU hTU
  have fin : ∀ (g : Int), (∀ x, (fun x => 0 ≤ x ∧ x * Nm.val bs ≤ Nm.val ps) x → x ≤ g) → Hid (∀ x, 0 ≤ x → x * Nm.val bs ≤ Nm.val ps → x ≤ g) := fun g hg x x0 hx => hg x ⟨x0, hx⟩
  have FIN := hid fin
  clear fin
  go_enter Tryz.func204, Tryz.ntmps204
  go_wp2_with fail
  refine HLE.out.mono ?_
  rintro e w' ⟨rfl, rfl⟩
  clear HLE hy
  go_wp2_with fail
  refine (shifted_any _ n cap' bs (k + 1) t _ _ f _ HLB.out hc' hm' HBO.out.2 hLB.out (by have := HN.out; omega) ht63 (by have := HT1.out; omega) rfl HF.out).mono ?_
  rintro e w1 ⟨rfl, hb1⟩
  have HB1 := hid hb1
  have HBO1 := hid (HBO.out.below hb1)
  clear hb1
  go_wp2_with fail
  refine (shifted_any _ n cap' bs k t _ _ s _ HLB.out hc' hm' HBO1.out.2 hLB.out (by have := HN.out; omega) ht63 (by have := HT1.out; omega) rfl HS.out).mono ?_
  rintro e w2 ⟨rfl, hb2⟩
  have HB2 := hid (chain HB1.out hb2 (Nat.le_refl _))
  have HBO2 := hid (HBO1.out.below hb2)
  clear hb2
  go_wp2_with fail
  refine (shifted_any _ n1 cap ps (k + 2) t _ _ h _ HLP.out hc hm HBO2.out.1 hLP.out (by have := HN1.out; omega) ht63 (by have := HT1.out; omega) rfl HH.out).mono ?_
  rintro e w3 ⟨rfl, hb3⟩
  have HB3 := hid (chain HB2.out hb3 (Nat.le_refl _))
  have HBO3 := hid (HBO2.out.below hb3)
  clear hb3
  go_wp2_with fail
  refine (shifted_any _ n1 cap ps (k + 1) t _ _ m _ HLP.out hc hm HBO3.out.1 hLP.out (by have := HN1.out; omega) ht63 (by have := HT1.out; omega) rfl HM.out).mono ?_
  rintro e w4 ⟨rfl, hb4⟩
  have HB4 := hid (chain HB3.out hb4 (Nat.le_refl _))
  have HBO4 := hid (HBO3.out.below hb4)
  clear hb4
  go_wp2_with fail
  refine (shifted_any _ n1 cap ps k t _ _ lo _ HLP.out hc hm HBO4.out.1 hLP.out (by have := HN1.out; omega) ht63 (by have := HT1.out; omega) rfl HL.out).mono ?_
  rintro e w5 ⟨rfl, hb5⟩
  have HB5 := hid (chain HB4.out hb5 (Nat.le_refl _))
  clear hb5 HB1 HB2 HB3 HB4 HBO HBO1 HBO2 HBO3 HBO4
  by_cases hhe : h = f
  · have hhe' : (h == f) = true := by simp [hhe]
    obtain ⟨s1', S1⟩ : ∃ s, Hid (s = (m + f + 0) % 18446744073709551616) := ⟨_, rfl⟩
    obtain ⟨k1, K1⟩ : ∃ c, Hid (c = (m + f + 0) / 18446744073709551616) := ⟨_, rfl⟩
    by_cases hov : m + f < 18446744073709551616
    · have ek : k1 = 0 := by have := K1.out; omega
      have es : s1' = m + f := by have := S1.out; omega
      subst ek
      subst es
      have OV := hid (Qd.over_even HQ.out hhe (by omega) hov)
      go_wp2_with (simp only [add64' m f 0 _ _ m0 f0 (Int.le_refl 0) (by decide) S1.out K1.out])
      refine (lessened_any _ f s h m lo _ _ _ HQ.out f0 f1 s0 s1 lo0 lo1 OV.out).mono ?_
      rintro e w6 ⟨g, rfl, G, GQ, rfl⟩
      have HG := hid G
      clear G
      go_wp2_with fail
      go_ret
      exact ⟨g, rfl, HG.out, FIN.out g GQ.out, HB5.out⟩
    · have ek : k1 = 1 := by have := K1.out; omega
      subst ek
      have OV := hid (Qd.over_most HQ.out)
      go_wp2_with (simp only [add64' m f 0 _ _ m0 f0 (Int.le_refl 0) (by decide) S1.out K1.out])
      go_ret
      exact ⟨_, rfl, by omega, FIN.out _ OV.out, HB5.out⟩
  · have hhe' : (h == f) = false := by rw [beq_eq_false_iff_ne]; exact hhe
    have hlt : h < f := by omega
    go_wp2_with fail
    refine (div64 h m f _ h0 hlt m0 m1 f1).mono ?_
    rintro e w6 ⟨d, r, rfl, ⟨d0, d1, r0, r1⟩, E, hb6⟩
    have HB6 := hid (chain HB5.out hb6 (Nat.le_refl _))
    have OV := hid (Qd.over_first HQ.out s0 lo1 ⟨d0, d1⟩ r0 r1 f1 E.out)
    clear hb6 E
    go_wp2_with fail
    refine (lessened_any _ f s h m lo _ _ _ HQ.out f0 f1 s0 s1 lo0 lo1 OV.out).mono ?_
    rintro e w7 ⟨g, rfl, G, GQ, rfl⟩
    have HG := hid G
    clear G
    go_wp2_with fail
    go_ret
    exact ⟨g, rfl, HG.out, FIN.out g GQ.out, HB6.out⟩
end Go.Proofs.YtonnlimmjelldaaGreatDoor

namespace Go.Proofs.YtonnlimmjelldaaGreatDoor
open Go.RowKit Go.Deep

theorem Ans.small {B : Nat} {w : World} {p : Option Addr} {ys : List Int} {n : Int} (h : Ans B w p ys n) (hn : n < Nm.pw 4096) : ys.length ≤ 4096 := by
  have h1 := (Nm.tsize_le_iff h.2.1 4096).2 (by rw [h.2.2.2.1]; exact hn)
  have h2 := h.2.2.1
  omega

theorem Arg.small {w : World} {p : Option Addr} {n cap : Nat} {zs : List Int} (h : Arg w p n cap zs) (hn : Nm.val zs < Nm.pw 4096) : Nm.tsize zs ≤ 4096 := (Nm.tsize_le_iff h.2.2.2.2 4096).2 hn

/-- Behind j limbs of a sum: what is in the block, and the carry beyond it, is T. -/
def AddInv (g k : Nat) (w : World) (T : Int) (j : Nat) (c : Int) (os : List Int) (wr : World) : Prop :=
  Own wr g os ∧ os.length = k ∧ Nm.Limbs os ∧ Nm.val os + Nm.pw j * c = T ∧ Below g w wr ∧ wr.heap.size = w.heap.size

theorem AddInv.step {g k : Nat} {w : World} {T : Int} {j : Nat} {c : Int} {os : List Int} {wr : World} (h : AddInv g k w T j c os wr) (hj : j < k) {x s c' : Int}
    (hs : s = (os.getD j 0 + x + c) % 18446744073709551616) (hc : c' = (os.getD j 0 + x + c) / 18446744073709551616) :
    AddInv g k w (T + Nm.pw j * x) (j + 1) c' (os.set j s) (wr.setCell ⟨g, j, none⟩ (.int .u64 s)) := by
  obtain ⟨h1, h2, h3, h4, h5, h6⟩ := h
  refine ⟨h1.set j s, by simpa using h2, h3.set j (by omega) (by omega), Nm.add_step (by omega) (by omega) h4, h5.setCell (Nat.le_refl _) _, by simpa [World.setCell] using h6⟩

theorem AddInv.end {g k : Nat} {w : World} {T : Int} {j : Nat} {c : Int} {os : List Int} {wr : World} (h : AddInv g k w T j c os wr) (hT : T < Nm.pw k) (hc : 1 ≤ c) : j < k := by
  obtain ⟨h1, h2, h3, h4, h5, h6⟩ := h
  rcases Nat.lt_or_ge j k with hj | hj
  · exact hj
  · have e1 := Nm.pw_mono hj
    have e2 := (Nm.val_bd os h3).1
    have e3 := Nm.pw_pos j
    have e4 : Nm.pw j * 1 ≤ Nm.pw j * c := Int.mul_le_mul_of_nonneg_left hc (by omega)
    omega

/-- Block g holds k limbs of the number T; below g nothing has turned. -/
def Wrote (g k : Nat) (T : Int) (w w' : World) : Prop := ∃ os, Own w' g os ∧ os.length = k ∧ Nm.Limbs os ∧ Nm.val os = T ∧ Below g w w' ∧ w'.heap.size = w.heap.size

/-- Behind j limbs of a product added in, from limb o on: what is in the block, and the carry beyond, is T; behind limb 'top' nothing has turned. -/
def MulInv (g k top : Nat) (w : World) (zs : List Int) (T : Int) (j : Nat) (c : Int) (os : List Int) (wr : World) : Prop :=
  AddInv g k w T j c os wr ∧ (0 ≤ c ∧ c < 18446744073709551616) ∧ ∀ i, top ≤ i → os.getD i 0 = zs.getD i 0

/-- One limb: s + 2^64 c' = out[j] + x m + c. -/
theorem MulInv.step {g k top : Nat} {w : World} {zs : List Int} {T : Int} {j : Nat} {c : Int} {os : List Int} {wr : World} (h : MulInv g k top w zs T j c os wr) (hj : j < k) (ht : j < top) {x s c' : Int}
    (hs0 : 0 ≤ s ∧ s < 18446744073709551616) (hc0 : 0 ≤ c' ∧ c' < 18446744073709551616) (hs : s + 18446744073709551616 * c' = os.getD j 0 + x + c) :
    MulInv g k top w zs (T + Nm.pw j * x) (j + 1) c' (os.set j s) (wr.setCell ⟨g, j, none⟩ (.int .u64 s)) := by
  obtain ⟨⟨h1, h2, h3, h4, h5, h6⟩, h7, h8⟩ := h
  refine ⟨⟨h1.set j s, by simpa using h2, h3.set j hs0.1 hs0.2, Nm.add_step (by omega) hs h4, h5.setCell (Nat.le_refl _) _, by simpa [World.setCell] using h6⟩, hc0, fun i hi => ?_⟩
  rw [Nm.getD_set _ _ _ _ (by omega), if_neg (by omega)]
  exact h8 i hi

/-- The limbs of one round of addTimes. -/
theorem times_step {x m y c p l h : Int} {s1 k1 s2 k2 : Int} (hp : l + 18446744073709551616 * h = p) (hl : 0 ≤ l ∧ l < 18446744073709551616) (hh : 0 ≤ h) (hx : 0 ≤ x ∧ x < 18446744073709551616) (hm : 0 ≤ m ∧ m < 18446744073709551616) (hxm : p = x * m)
    (hy : 0 ≤ y ∧ y < 18446744073709551616) (hc : 0 ≤ c ∧ c < 18446744073709551616)
    (e1 : s1 = (l + y + 0) % 18446744073709551616) (e2 : k1 = (l + y + 0) / 18446744073709551616) (e3 : s2 = (s1 + c + 0) % 18446744073709551616) (e4 : k2 = (s1 + c + 0) / 18446744073709551616) :
    (0 ≤ s2 ∧ s2 < 18446744073709551616) ∧ (0 ≤ h + k1 + k2 ∧ h + k1 + k2 < 18446744073709551616) ∧ s2 + 18446744073709551616 * (h + k1 + k2) = y + x * m + c := by
  have hb : x * m ≤ 18446744073709551615 * 18446744073709551615 := Int.mul_le_mul (by omega) (by omega) (by omega) (by omega)
  rw [← hxm] at hb ⊢
  clear hxm
  omega

set_option maxHeartbeats 1000000 in
theorem addTimes_any (g k o n cap : Nat) (zs : List Int) (q : Option Addr) (cap' : Nat) (ys : List Int) (m : Int) (w : World) (hk : zs.length = k) (hkm : k ≤ 35184372088832) (ho : Own w g zs) (hl : Nm.Limbs zs)
    (hn : ys.length = n) (hon : o + n ≤ k) (hy : Lies w q ys) (hly : Nm.Limbs ys) (hq : 0 < ys.length → ∀ a, q = some a → a.block < g) (hm0 : 0 ≤ m) (hm1 : m < 18446744073709551616) :
    Calls Tryz.prog 105 #[.slice (some ⟨g, o, none⟩) n cap, .slice q n cap', .int .u64 m] w fun e w' => ∃ (c : Int) (os : List Int), e = .returned (.int .u64 c) ∧
      MulInv g k (o + n) w zs (Nm.val zs + Nm.pw o * (Nm.val ys * m)) (o + n) c os w' := by
  rcases hy with rfl | ⟨b, off, rfl, hcell⟩
  · have hn0 : n = 0 := by simpa using hn.symm
    subst hn0
    have E : MulInv g k (o + 0) w zs (Nm.val zs + Nm.pw o * (Nm.val [] * m)) (o + 0) 0 zs w := ⟨⟨ho, hk, hl, by simp [Nm.val], Below.refl _ _, rfl⟩, by omega, fun _ _ => rfl⟩
    clear ho hl hq hn hk
    go_enter Tryz.func105, Tryz.ntmps105
    go_wp2
    refine wp_loop_rounds 1 ?_
    rw [rounds_succ]
    go_wp2
    go_ret
    exact ⟨0, zs, rfl, E⟩
  · have hbg : 0 < ys.length → b < g := fun h => hq h _ rfl
    have I0 : MulInv g k (o + n) w zs (Nm.val zs + Nm.pw o * (Nm.val (ys.take 0) * m)) (o + 0) 0 zs w := ⟨⟨ho, hk, hl, by simp [Nm.val], Below.refl _ _, rfl⟩, by omega, fun _ _ => rfl⟩
    have HC : Hid (∀ i, i < ys.length → w.cell? ⟨b, off + i, none⟩ = some (.int .u64 (ys.getD i 0))) := hcell
    have HM : Hid (ys.length = n) := hn
    have HY : Hid (Nm.Limbs ys) := hly
    clear hcell hn hly hq ho hk hl
    go_enter Tryz.func105, Tryz.ntmps105
    go_wp2
    go_loopw [7, 15] (fun c i wr => ∃ (j : Nat) (cc : Int) (os : List Int), j ≤ n ∧ i = .int .i64 j ∧ c = .int .u64 cc ∧ MulInv g k (o + n) w zs (Nm.val zs + Nm.pw o * (Nm.val (ys.take j) * m)) (o + j) cc os wr) (fun _ i _ => n - (intOf i).toNat)
    case atStart => exact ⟨0, 0, zs, Nat.zero_le _, rfl, rfl, I0⟩
    case round =>
      clear I0
      obtain ⟨j, cc, os, hj, rfl, rfl, I⟩ := hrel
      by_cases hlt : j < n
      · obtain ⟨x, hx, X⟩ : ∃ x, wr.cell? ⟨b, off + j, none⟩ = some (.int .u64 x) ∧ Hid (x = ys.getD j 0) :=
          ⟨_, (I.1.2.2.2.2.1.cell (p := ⟨b, off + j, none⟩) (hbg (by have := HM.out; omega))).trans (HC.out j (by have := HM.out; omega)), rfl⟩
        obtain ⟨y, hyc, Y⟩ : ∃ y, wr.cell? ⟨g, o + j, none⟩ = some (.int .u64 y) ∧ Hid (y = os.getD (o + j) 0) := ⟨_, I.1.1.cell (o + j) (by have := I.1.2.1; omega), rfl⟩
        have hfr := I.1.1.free (o + j)
        have hx0 : 0 ≤ x ∧ x < 18446744073709551616 := by have := HY.out.at j; have := X.out; omega
        have hy0 : 0 ≤ y ∧ y < 18446744073709551616 := by have := I.1.2.2.1.at (o + j); have := Y.out; omega
        have hcc := I.2.1
        obtain ⟨hx0, hx1⟩ := hx0
        obtain ⟨hy0, hy1⟩ := hy0
        obtain ⟨hcc0, hcc1⟩ := hcc
        go_wp2_with fail
        refine (mul64 x m hx0 hx1 hm0 hm1 _).mono ?_
        rintro e w' ⟨h, l, rfl, ⟨hh0, hh1, hl0, hl1⟩, P1, _, rfl⟩
        obtain ⟨s1, S1⟩ : ∃ s, Hid (s = (l + y + 0) % 18446744073709551616) := ⟨_, rfl⟩
        obtain ⟨k1, K1⟩ : ∃ c, Hid (c = (l + y + 0) / 18446744073709551616) := ⟨_, rfl⟩
        obtain ⟨s2, S2⟩ : ∃ s, Hid (s = (s1 + cc + 0) % 18446744073709551616) := ⟨_, rfl⟩
        obtain ⟨k2, K2⟩ : ∃ c, Hid (c = (s1 + cc + 0) / 18446744073709551616) := ⟨_, rfl⟩
        have hs1 : 0 ≤ s1 := by have := S1.out; omega
        have ST := hid (times_step P1.out ⟨hl0, hl1⟩ hh0 ⟨hx0, hx1⟩ ⟨hm0, hm1⟩ rfl ⟨hy0, hy1⟩ ⟨hcc0, hcc1⟩ S1.out K1.out S2.out K2.out)
        have hk1 : 0 ≤ k1 := by have := K1.out; omega
        have hk2 : 0 ≤ k2 := by have := K2.out; omega
        have hkk : h + k1 + k2 < 18446744073709551616 := ST.out.2.1.2
        go_wp2_with (first | simp only [add64' l y 0 s1 k1 hl0 hy0 (Int.le_refl 0) (by decide) S1.out K1.out] | simp only [add64' s1 cc 0 s2 k2 hs1 hcc0 (Int.le_refl 0) (by decide) S2.out K2.out])
        go_roundw
        case rel =>
          have hst := I.step (by omega) (by omega) (x := x * m) (s := s2) (c' := h + k1 + k2) ST.out.1 ST.out.2.1 (by rw [← Y.out]; exact ST.out.2.2)
          refine ⟨j + 1, h + k1 + k2, os.set (o + j) s2, by omega, by go_num, rfl, ?_⟩
          have e : Nm.val zs + Nm.pw o * (Nm.val (ys.take (j + 1)) * m) = Nm.val zs + Nm.pw o * (Nm.val (ys.take j) * m) + Nm.pw (o + j) * (x * m) := by
            rw [Nm.val_take_succ ys j (by have := HM.out; omega), ← X.out, Nm.pw_add, Int.add_mul, Int.mul_add, Int.mul_assoc, Int.mul_assoc]
            omega
          rw [e]
          exact hst
        case measure => simp [intOf]; omega
      · have hjn : j = n := by omega
        subst hjn
        rw [List.take_of_length_le (by have := HM.out; omega)] at I
        go_wp2
        go_ret
        exact ⟨cc, os, rfl, I⟩
end Go.Proofs.YtonnlimmjelldaaGreatDoor

namespace Go.Proofs.YtonnlimmjelldaaGreatDoor
open Go.RowKit Go.Deep

/-- Sub64: the limb of a difference, and the borrow, under names. -/
theorem sub64' (x y b s b' : Int) (hx : 0 ≤ x) (hx1 : x < 18446744073709551616) (hy : 0 ≤ y) (hy1 : y < 18446744073709551616) (hb0 : 0 ≤ b) (hb : b ≤ 1) (hs : 0 ≤ s ∧ s < 18446744073709551616) (hb' : 0 ≤ b' ∧ b' ≤ 1) (he : s + 18446744073709551616 * (-b') = x + (-y) + (-b)) (w : World) :
    (callFunc 212 #[.int .u64 x, .int .u64 y, .int .u64 b]).run Tryz.prog w = .ok (.value (.tuple #[.int .u64 s, .int .u64 b'])) w := by
  obtain ⟨x, rfl⟩ := Int.eq_ofNat_of_zero_le hx
  obtain ⟨y, rfl⟩ := Int.eq_ofNat_of_zero_le hy
  obtain ⟨b, rfl⟩ := Int.eq_ofNat_of_zero_le hb0
  rw [run_callFunc_extern Tryz.func212 (by kernel_rfl) (by kernel_rfl) (by kernel_rfl) (e := sub64Entry) (by kernel_rfl), run_sub64 x y b (by omega)]
  have e1 : (((x + 18446744073709551616 - y - b) % 18446744073709551616 : Nat) : Int) = s := by omega
  have e2 : ((if x < y + b then 1 else 0 : Nat) : Int) = b' := by split <;> omega
  rw [e1, e2]
  rfl

theorem sub_names (x y b : Int) (hx : 0 ≤ x) (hx1 : x < 18446744073709551616) (hy : 0 ≤ y) (hy1 : y < 18446744073709551616) (hb0 : 0 ≤ b) (hb : b ≤ 1) : ∃ s b' : Int, (0 ≤ s ∧ s < 18446744073709551616) ∧ (0 ≤ b' ∧ b' ≤ 1) ∧ Hid (s + 18446744073709551616 * (-b') = x + (-y) + (-b)) :=
  ⟨(x - y - b) % 18446744073709551616, -((x - y - b) / 18446744073709551616), by omega, by omega, show _ = _ by omega⟩

theorem AddInv.down {g k : Nat} {w : World} {T : Int} {j : Nat} {c : Int} {os : List Int} {wr : World} (h : AddInv g k w T j c os wr) (hj : j < k) {x s c' : Int} (hs0 : 0 ≤ s ∧ s < 18446744073709551616) (hs : s + 18446744073709551616 * c' = os.getD j 0 + x + c) :
    AddInv g k w (T + Nm.pw j * x) (j + 1) c' (os.set j s) (wr.setCell ⟨g, j, none⟩ (.int .u64 s)) := by
  obtain ⟨h1, h2, h3, h4, h5, h6⟩ := h
  exact ⟨h1.set j s, by simpa using h2, h3.set j hs0.1 hs0.2, Nm.add_step (by omega) hs h4, h5.setCell (Nat.le_refl _) _, by simpa [World.setCell] using h6⟩

theorem AddInv.stop {g k : Nat} {w : World} {T : Int} {j : Nat} {b : Int} {os : List Int} {wr : World} (h : AddInv g k w T j (-b) os wr) (hT : 0 ≤ T) (hb : 1 ≤ b) : j < k := by
  obtain ⟨h1, h2, h3, h4, h5, h6⟩ := h
  rcases Nat.lt_or_ge j k with hj | hj
  · exact hj
  · have e1 := Nm.pw_mono hj
    have e2 := (Nm.val_bd os h3).2
    rw [h2] at e2
    have e3 := Nm.pw_pos j
    have e4 : Nm.pw j * 1 ≤ Nm.pw j * b := Int.mul_le_mul_of_nonneg_left hb (by omega)
    rw [Int.mul_neg] at h4
    omega
end Go.Proofs.YtonnlimmjelldaaGreatDoor

namespace Go.Proofs.YtonnlimmjelldaaGreatDoor
open Go.RowKit Go.Deep

/-- As AddInv; from limb 'top' on the block is as it was, and so is every other block. -/
def PartInv (g k top : Nat) (w : World) (zs : List Int) (T : Int) (j : Nat) (c : Int) (os : List Int) (wr : World) : Prop :=
  AddInv g k w T j c os wr ∧ (∀ i, top ≤ i → os.getD i 0 = zs.getD i 0) ∧ ∀ b, b ≠ g → wr.heap[b]? = w.heap[b]?

theorem PartInv.step {g k top : Nat} {w : World} {zs : List Int} {T : Int} {j : Nat} {c : Int} {os : List Int} {wr : World} (h : PartInv g k top w zs T j c os wr) (hj : j < k) (ht : j < top) {x s c' : Int}
    (hs0 : 0 ≤ s ∧ s < 18446744073709551616) (hs : s + 18446744073709551616 * c' = os.getD j 0 + x + c) :
    PartInv g k top w zs (T + Nm.pw j * x) (j + 1) c' (os.set j s) (wr.setCell ⟨g, j, none⟩ (.int .u64 s)) := by
  obtain ⟨h1, h2, h3⟩ := h
  refine ⟨h1.down hj hs0 hs, fun i hi => ?_, fun b hb => ?_⟩
  · rw [Nm.getD_set _ _ _ _ (by have := h1.2.1; omega), if_neg (by omega)]
    exact h2 i hi
  · rw [← h3 b hb]
    simp only [World.setCell, Array.getElem?_modify]
    rw [if_neg (by omega)]

theorem PartInv.own {g k top : Nat} {w : World} {zs : List Int} {T : Int} {j : Nat} {c : Int} {os : List Int} {wr : World} (h : PartInv g k top w zs T j c os wr) {b : Nat} {xs : List Int} (ho : Own w b xs) (hb : b ≠ g) : Own wr b xs := by
  simp only [Own] at ho ⊢
  rw [h.2.2 b hb]
  exact ho

/-- The limbs of one round of takeTimes. -/
theorem take_step {x m y c p l h s1 k1 s2 b : Int} (hp : l + 18446744073709551616 * h = p) (hl : 0 ≤ l ∧ l < 18446744073709551616) (hh : 0 ≤ h) (hx : 0 ≤ x ∧ x < 18446744073709551616) (hm : 0 ≤ m ∧ m < 18446744073709551616) (hxm : p = x * m)
    (hy : 0 ≤ y ∧ y < 18446744073709551616) (hc : 0 ≤ c ∧ c < 18446744073709551616) (e1 : s1 = (l + c + 0) % 18446744073709551616) (e2 : k1 = (l + c + 0) / 18446744073709551616)
    (hs : 0 ≤ s2 ∧ s2 < 18446744073709551616) (_hb : 0 ≤ b ∧ b ≤ 1) (e3 : s2 + 18446744073709551616 * (-b) = y + (-s1) + (-0)) :
    (0 ≤ h + k1 + b ∧ h + k1 + b < 18446744073709551616) ∧ s2 + 18446744073709551616 * (-(h + k1 + b)) = y + (-(x * m)) + (-c) := by
  have hbd : x * m ≤ 18446744073709551615 * 18446744073709551615 := Int.mul_le_mul (by omega) (by omega) (by omega) (by omega)
  rw [← hxm] at hbd ⊢
  clear hxm
  omega

set_option maxRecDepth 100000 in
set_option maxHeartbeats 1000000 in
theorem takeTimes_any (g k o n n1 cap : Nat) (zs : List Int) (q : Option Addr) (cap' : Nat) (ys : List Int) (m : Int) (w : World) (hk : zs.length = k) (hkm : k ≤ 35184372088832) (ho : Own w g zs) (hl : Nm.Limbs zs)
    (hn : ys.length = n) (hn0 : 0 < n) (hn1 : n < n1) (hon : o + n < k) (hy : Lies w q ys) (hly : Nm.Limbs ys) (hq : ∀ a, q = some a → a.block < g) (hm0 : 0 ≤ m) (hm1 : m < 18446744073709551616) :
    Calls Tryz.prog 205 #[.slice (some ⟨g, o, none⟩) n1 cap, .slice q n cap', .int .u64 m] w fun e w' => ∃ (c : Int) (os : List Int), e = .returned (.int .u64 c) ∧ (0 ≤ c ∧ c ≤ 1) ∧
      Hid (PartInv g k (o + n + 1) w zs (Nm.val zs + Nm.pw o * (-(Nm.val ys * m))) (o + n + 1) (-c) os w') := by
  obtain ⟨b, off, rfl, hbw, HC⟩ := hy.at (by omega)
  have hbg : b < g := hq _ rfl
  have I0 : PartInv g k (o + n + 1) w zs (Nm.val zs + Nm.pw o * (-(Nm.val (ys.take 0) * m))) (o + 0) (-0) zs w := ⟨⟨ho, hk, hl, by simp [Nm.val], Below.refl _ _, rfl⟩, fun _ _ => rfl, fun _ _ => rfl⟩
  have HM : Hid (ys.length = n) := hn
  have HY : Hid (Nm.Limbs ys) := hly
  clear hn hly hq ho hk hl hy
  go_enter Tryz.func205, Tryz.ntmps205
  go_wp2
  go_loopw [7, 19] (fun c i wr => ∃ (j : Nat) (cc : Int) (os : List Int), j ≤ n ∧ i = .int .i64 j ∧ c = .int .u64 cc ∧ (0 ≤ cc ∧ cc < 18446744073709551616) ∧ PartInv g k (o + n + 1) w zs (Nm.val zs + Nm.pw o * (-(Nm.val (ys.take j) * m))) (o + j) (-cc) os wr) (fun _ i _ => n - (intOf i).toNat)
  case atStart => exact ⟨0, 0, zs, Nat.zero_le _, rfl, rfl, by omega, I0⟩
  case round =>
    clear I0
    obtain ⟨j, cc, os, hj, rfl, rfl, ⟨hcc0, hcc1⟩, I⟩ := hrel
    by_cases hlt : j < n
    · obtain ⟨x, hx, X⟩ : ∃ x, wr.cell? ⟨b, off + j, none⟩ = some (.int .u64 x) ∧ Hid (x = ys.getD j 0) :=
        ⟨_, (I.1.2.2.2.2.1.cell (p := ⟨b, off + j, none⟩) hbg).trans (HC.out j (by have := HM.out; omega)), rfl⟩
      obtain ⟨y, hyc, Y⟩ : ∃ y, wr.cell? ⟨g, o + j, none⟩ = some (.int .u64 y) ∧ Hid (y = os.getD (o + j) 0) := ⟨_, I.1.1.cell (o + j) (by have := I.1.2.1; omega), rfl⟩
      have hfr := I.1.1.free (o + j)
      have hx0 : 0 ≤ x ∧ x < 18446744073709551616 := by have := HY.out.at j; have := X.out; omega
      have hy0 : 0 ≤ y ∧ y < 18446744073709551616 := by have := I.1.2.2.1.at (o + j); have := Y.out; omega
      obtain ⟨hx0, hx1⟩ := hx0
      obtain ⟨hy0, hy1⟩ := hy0
      have hjn1 : (j : Int) < (n1 : Int) := by omega
      go_wp2_with fail
      refine (mul64 x m hx0 hx1 hm0 hm1 _).mono ?_
      rintro e w' ⟨h, l, rfl, ⟨hh0, hh1, hl0, hl1⟩, P1, _, rfl⟩
      obtain ⟨s1, S1⟩ : ∃ s, Hid (s = (l + cc + 0) % 18446744073709551616) := ⟨_, rfl⟩
      obtain ⟨k1, K1⟩ : ∃ c, Hid (c = (l + cc + 0) / 18446744073709551616) := ⟨_, rfl⟩
      have hs1 : 0 ≤ s1 := by have := S1.out; omega
      have hs2 : s1 < 18446744073709551616 := by have := S1.out; omega
      obtain ⟨s2, b2, ⟨t0, t1⟩, ⟨t2, t3⟩, S2⟩ := sub_names y s1 0 hy0 hy1 hs1 hs2 (Int.le_refl 0) (by decide)
      have ST := hid (take_step P1.out ⟨hl0, hl1⟩ hh0 ⟨hx0, hx1⟩ ⟨hm0, hm1⟩ rfl ⟨hy0, hy1⟩ ⟨hcc0, hcc1⟩ S1.out K1.out ⟨t0, t1⟩ ⟨t2, t3⟩ S2.out)
      have hk1 : 0 ≤ k1 := by have := K1.out; omega
      have hkk : h + k1 + b2 < 18446744073709551616 := ST.out.1.2
      go_wp2_with (first | simp only [add64' l cc 0 s1 k1 hl0 hcc0 (Int.le_refl 0) (by decide) S1.out K1.out] | simp only [sub64' y s1 0 s2 b2 hy0 hy1 hs1 hs2 (Int.le_refl 0) (by decide) ⟨t0, t1⟩ ⟨t2, t3⟩ S2.out])
      go_roundw
      case rel =>
        have hst := I.step (by omega) (by omega) (x := -(x * m)) (s := s2) (c' := -(h + k1 + b2)) ⟨t0, t1⟩ (by rw [← Y.out]; exact ST.out.2)
        refine ⟨j + 1, h + k1 + b2, os.set (o + j) s2, by omega, by go_num, rfl, ST.out.1, ?_⟩
        have e : Nm.val zs + Nm.pw o * (-(Nm.val (ys.take (j + 1)) * m)) = Nm.val zs + Nm.pw o * (-(Nm.val (ys.take j) * m)) + Nm.pw (o + j) * (-(x * m)) := by
          rw [Nm.val_take_succ ys j (by have := HM.out; omega), ← X.out, Nm.pw_add, Int.add_mul, Int.mul_neg, Int.mul_neg, Int.mul_neg, Int.mul_add, Int.mul_assoc, Int.mul_assoc]
          omega
        rw [e]
        exact hst
      case measure => simp [intOf]; omega
    · have hjn : j = n := by omega
      subst hjn
      rw [List.take_of_length_le (by have := HM.out; omega)] at I
      obtain ⟨y, hyc, Y⟩ : ∃ y, wr.cell? ⟨g, o + j, none⟩ = some (.int .u64 y) ∧ Hid (y = os.getD (o + j) 0) := ⟨_, I.1.1.cell (o + j) (by have := I.1.2.1; omega), rfl⟩
      have hfr := I.1.1.free (o + j)
      have hy0 : 0 ≤ y ∧ y < 18446744073709551616 := by have := I.1.2.2.1.at (o + j); have := Y.out; omega
      obtain ⟨hy0, hy1⟩ := hy0
      obtain ⟨s2, b2, ⟨t0, t1⟩, ⟨t2, t3⟩, S2⟩ := sub_names y cc 0 hy0 hy1 hcc0 hcc1 (Int.le_refl 0) (by decide)
      have hst := I.step (by omega) (by omega) (x := 0) (s := s2) (c' := -b2) ⟨t0, t1⟩ (by rw [← Y.out]; have := S2.out; omega)
      rw [Int.mul_zero, Int.add_zero] at hst
      have HS := hid hst
      clear hst I
      go_wp2_with (simp only [sub64' y cc 0 s2 b2 hy0 hy1 hcc0 hcc1 (Int.le_refl 0) (by decide) ⟨t0, t1⟩ ⟨t2, t3⟩ S2.out])
      go_ret
      exact ⟨b2, os.set (o + j) s2, rfl, ⟨t2, t3⟩, HS.out⟩

set_option maxRecDepth 100000 in
set_option maxHeartbeats 1000000 in
theorem giveBack_any (g k o n n1 cap : Nat) (zs : List Int) (q : Option Addr) (cap' : Nat) (ys : List Int) (w : World) (hk : zs.length = k) (hkm : k ≤ 35184372088832) (ho : Own w g zs) (hl : Nm.Limbs zs)
    (hn : ys.length = n) (hn0 : 0 < n) (hn1 : n < n1) (hon : o + n < k) (hy : Lies w q ys) (hly : Nm.Limbs ys) (hq : ∀ a, q = some a → a.block < g) :
    Calls Tryz.prog 206 #[.slice (some ⟨g, o, none⟩) n1 cap, .slice q n cap'] w fun e w' => ∃ (c : Int) (os : List Int), e = .returned (.int .u64 c) ∧ (0 ≤ c ∧ c ≤ 1) ∧
      Hid (PartInv g k (o + n + 1) w zs (Nm.val zs + Nm.pw o * Nm.val ys) (o + n + 1) c os w') := by
  obtain ⟨b, off, rfl, hbw, HC⟩ := hy.at (by omega)
  have hbg : b < g := hq _ rfl
  have I0 : PartInv g k (o + n + 1) w zs (Nm.val zs + Nm.pw o * Nm.val (ys.take 0)) (o + 0) 0 zs w := ⟨⟨ho, hk, hl, by simp [Nm.val], Below.refl _ _, rfl⟩, fun _ _ => rfl, fun _ _ => rfl⟩
  have HM : Hid (ys.length = n) := hn
  have HY : Hid (Nm.Limbs ys) := hly
  clear hn hly hq ho hk hl hy
  go_enter Tryz.func206, Tryz.ntmps206
  go_wp2
  go_loopw [5, 10] (fun c i wr => ∃ (j : Nat) (cc : Int) (os : List Int), j ≤ n ∧ i = .int .i64 j ∧ c = .int .u64 cc ∧ (0 ≤ cc ∧ cc ≤ 1) ∧ PartInv g k (o + n + 1) w zs (Nm.val zs + Nm.pw o * Nm.val (ys.take j)) (o + j) cc os wr) (fun _ i _ => n - (intOf i).toNat)
  case atStart => exact ⟨0, 0, zs, Nat.zero_le _, rfl, rfl, by omega, I0⟩
  case round =>
    clear I0
    obtain ⟨j, cc, os, hj, rfl, rfl, ⟨hcc0, hcc1⟩, I⟩ := hrel
    by_cases hlt : j < n
    · obtain ⟨x, hx, X⟩ : ∃ x, wr.cell? ⟨b, off + j, none⟩ = some (.int .u64 x) ∧ Hid (x = ys.getD j 0) :=
        ⟨_, (I.1.2.2.2.2.1.cell (p := ⟨b, off + j, none⟩) hbg).trans (HC.out j (by have := HM.out; omega)), rfl⟩
      obtain ⟨y, hyc, Y⟩ : ∃ y, wr.cell? ⟨g, o + j, none⟩ = some (.int .u64 y) ∧ Hid (y = os.getD (o + j) 0) := ⟨_, I.1.1.cell (o + j) (by have := I.1.2.1; omega), rfl⟩
      have hfr := I.1.1.free (o + j)
      have hx0 : 0 ≤ x ∧ x < 18446744073709551616 := by have := HY.out.at j; have := X.out; omega
      have hy0 : 0 ≤ y ∧ y < 18446744073709551616 := by have := I.1.2.2.1.at (o + j); have := Y.out; omega
      obtain ⟨hx0, hx1⟩ := hx0
      obtain ⟨hy0, hy1⟩ := hy0
      have hjn1 : (j : Int) < (n1 : Int) := by omega
      obtain ⟨s, S⟩ : ∃ s, Hid (s = (y + x + cc) % 18446744073709551616) := ⟨_, rfl⟩
      obtain ⟨c', C⟩ : ∃ c', Hid (c' = (y + x + cc) / 18446744073709551616) := ⟨_, rfl⟩
      have hs0 : 0 ≤ s ∧ s < 18446744073709551616 := by have := S.out; omega
      have hc0 : 0 ≤ c' ∧ c' ≤ 1 := by have := C.out; omega
      have SE : Hid (s + 18446744073709551616 * c' = y + x + cc) := by show _ = _; have := S.out; have := C.out; omega
      go_wp2_with (simp only [add64' y x cc s c' hy0 hx0 hcc0 hcc1 S.out C.out])
      go_roundw
      case rel =>
        have hst := I.step (by omega) (by omega) (x := x) (s := s) (c' := c') hs0 (by rw [← Y.out]; exact SE.out)
        refine ⟨j + 1, c', os.set (o + j) s, by omega, by go_num, rfl, hc0, ?_⟩
        have e : Nm.val zs + Nm.pw o * Nm.val (ys.take (j + 1)) = Nm.val zs + Nm.pw o * Nm.val (ys.take j) + Nm.pw (o + j) * x := by
          rw [Nm.val_take_succ ys j (by have := HM.out; omega), ← X.out, Nm.pw_add, Int.mul_add, Int.mul_assoc]
          omega
        rw [e]
        exact hst
      case measure => simp [intOf]; omega
    · have hjn : j = n := by omega
      subst hjn
      rw [List.take_of_length_le (by have := HM.out; omega)] at I
      obtain ⟨y, hyc, Y⟩ : ∃ y, wr.cell? ⟨g, o + j, none⟩ = some (.int .u64 y) ∧ Hid (y = os.getD (o + j) 0) := ⟨_, I.1.1.cell (o + j) (by have := I.1.2.1; omega), rfl⟩
      have hfr := I.1.1.free (o + j)
      have hy0 : 0 ≤ y ∧ y < 18446744073709551616 := by have := I.1.2.2.1.at (o + j); have := Y.out; omega
      obtain ⟨hy0, hy1⟩ := hy0
      obtain ⟨s, S⟩ : ∃ s, Hid (s = (y + 0 + cc) % 18446744073709551616) := ⟨_, rfl⟩
      obtain ⟨c', C⟩ : ∃ c', Hid (c' = (y + 0 + cc) / 18446744073709551616) := ⟨_, rfl⟩
      have hs0 : 0 ≤ s ∧ s < 18446744073709551616 := by have := S.out; omega
      have hc0 : 0 ≤ c' ∧ c' ≤ 1 := by have := C.out; omega
      have hst := I.step (by omega) (by omega) (x := 0) (s := s) (c' := c') hs0 (by rw [← Y.out]; have := S.out; have := C.out; omega)
      rw [Int.mul_zero, Int.add_zero] at hst
      have HS := hid hst
      clear hst I
      go_wp2_with (simp only [add64' y 0 cc s c' hy0 (Int.le_refl 0) hcc0 hcc1 S.out C.out])
      go_ret
      exact ⟨c', os.set (o + j) s, rfl, hc0, HS.out⟩
end Go.Proofs.YtonnlimmjelldaaGreatDoor

namespace Go.Proofs.YtonnlimmjelldaaGreatDoor
open Go.RowKit Go.Deep

/-- Behind j limbs of a * m + c: what is in the block, and the carry beyond, is T; from limb j on the block is 0. -/
def MaInv (g k : Nat) (w : World) (T : Int) (j : Nat) (c : Int) (os : List Int) (wr : World) : Prop :=
  AddInv g k w T j c os wr ∧ (0 ≤ c ∧ c < 18446744073709551616) ∧ ∀ i, j ≤ i → os.getD i 0 = 0

theorem MaInv.step {g k : Nat} {w : World} {T : Int} {j : Nat} {c : Int} {os : List Int} {wr : World} (h : MaInv g k w T j c os wr) (hj : j < k) {x s c' : Int}
    (hs0 : 0 ≤ s ∧ s < 18446744073709551616) (hc0 : 0 ≤ c' ∧ c' < 18446744073709551616) (hs : s + 18446744073709551616 * c' = x + c) :
    MaInv g k w (T + Nm.pw j * x) (j + 1) c' (os.set j s) (wr.setCell ⟨g, j, none⟩ (.int .u64 s)) := by
  obtain ⟨⟨h1, h2, h3, h4, h5, h6⟩, h7, h8⟩ := h
  have hz := h8 j (Nat.le_refl _)
  refine ⟨⟨h1.set j s, by simpa using h2, h3.set j hs0.1 hs0.2, Nm.add_step (by omega) (by omega) h4, h5.setCell (Nat.le_refl _) _, by simpa [World.setCell] using h6⟩, hc0, fun i hi => ?_⟩
  rw [Nm.getD_set _ _ _ _ (by omega), if_neg (by omega)]
  exact h8 i (by omega)

theorem getD_replicate (n i : Nat) : (List.replicate n (0 : Int)).getD i 0 = 0 := by
  simp only [List.getD, List.getElem?_replicate]
  split <;> rfl

/-- Below block g nothing has turned, and block g holds k limbs of T. -/
def Made (g k : Nat) (T : Int) (w w' : World) : Prop := ∃ os, Own w' g os ∧ os.length = k ∧ Nm.Limbs os ∧ Nm.val os = T ∧ Below g w w'

end Go.Proofs.YtonnlimmjelldaaGreatDoor

namespace Go.Proofs.YtonnlimmjelldaaGreatDoor
open Go.RowKit Go.Deep

theorem Lies.low {g : Nat} {w w' : World} {p : Option Addr} {zs : List Int} (h : Lies w p zs) (hb : Below g w w') (hp : ∀ a, p = some a → a.block < g) : Lies w' p zs := by
  rcases h with rfl | ⟨b, off, e, h⟩
  · exact .inl rfl
  · refine .inr ⟨b, off, e, fun i hi => ?_⟩
    rw [hb.cell (p := ⟨b, off + i, none⟩) (hp ⟨b, off, none⟩ e)]
    exact h i hi

theorem Own.other {w : World} {g g' : Nat} {zs : List Int} (h : Own w g zs) (hg : g' ≠ g) (i : Nat) (v : Value) : Own (w.setCell ⟨g', i, none⟩ v) g zs := by
  simp only [Own] at h ⊢
  simp only [World.setCell, Array.getElem?_modify]
  rw [if_neg hg]
  exact h

namespace Qd
open Go.Proofs.YtonnlimmjelldaaGreatDoor.Nm

/-- The part that a digit is told from. -/
def part (rs : List Int) (t n1 : Nat) : List Int := (rs.drop t).take n1

theorem part_length {rs : List Int} {t n1 : Nat} (h : t + n1 ≤ rs.length) : (part rs t n1).length = n1 := by
  simp [part]; omega

theorem part_lies {w : World} {g : Nat} {rs : List Int} (h : Own w g rs) {t n1 : Nat} (hl : t + n1 ≤ rs.length) : Lies w (some ⟨g, t, none⟩) (part rs t n1) := by
  refine .inr ⟨g, t, rfl, fun i hi => ?_⟩
  rw [part_length hl] at hi
  rw [h.cell (t + i) (by omega)]
  have e : (part rs t n1).getD i 0 = rs.getD (t + i) 0 := by
    rw [part, getD_take, if_pos hi]
    simp [List.getD, List.getElem?_drop]
  rw [e]

theorem part_val {rs : List Int} (hr : Limbs rs) {t n1 : Nat} (hl : t + n1 ≤ rs.length) (hv : val rs < pw (t + n1)) : val rs = val (rs.take t) + pw t * val (part rs t n1) := by
  have h1 := val_drop rs t (by omega)
  have h2 : val (part rs t n1) = val (rs.drop t) := by
    refine val_take_of_zero _ _ (fun j hj => ?_)
    have := zero_of_lt hr hv (t + j) (by omega)
    simpa [List.getD, List.getElem?_drop] using this
  rw [h2]
  exact h1

theorem part_facts {rs : List Int} (hr : Limbs rs) {t m : Nat} (hl : t + (m + 1) ≤ rs.length) {b : Int} (hb : b < pw m) (hv : val rs < pw (t + 1) * b) :
    val (part rs t (m + 1)) < b * 18446744073709551616 ∧ val rs < pw (t + m + 1) ∧ ∀ x, 0 ≤ x → x * (pw t * b) ≤ val rs → x * b ≤ val (part rs t (m + 1)) := by
  have hp := pw_pos t
  have hq := pw_pos (t + 1)
  have h0 : val rs < pw (t + m + 1) := by
    have : pw (t + 1) * b ≤ pw (t + 1) * pw m := Int.mul_le_mul_of_nonneg_left (by omega) (by omega)
    rw [← pw_add, show t + 1 + m = t + m + 1 by omega] at this
    omega
  have h1 := part_val hr hl h0
  have h2 := val_bd _ (hr.take t)
  rw [List.length_take, Nat.min_eq_left (by omega)] at h2
  refine ⟨?_, h0, fun x x0 hx => ?_⟩
  · rcases (show val (part rs t (m + 1)) < b * 18446744073709551616 ∨ b * 18446744073709551616 ≤ val (part rs t (m + 1)) by omega) with c | c
    · exact c
    · exfalso
      have := Int.mul_le_mul_of_nonneg_left c (show 0 ≤ pw t by omega)
      rw [pw_succ] at hv
      have e : pw t * (b * 18446744073709551616) = 18446744073709551616 * pw t * b := by rw [Int.mul_left_comm, Int.mul_comm b, Int.mul_comm (pw t)]
      omega
  · rcases (show x * b ≤ val (part rs t (m + 1)) ∨ val (part rs t (m + 1)) + 1 ≤ x * b by omega) with c | c
    · exact c
    · exfalso
      have := Int.mul_le_mul_of_nonneg_left c (show 0 ≤ pw t by omega)
      rw [Int.mul_add, Int.mul_one] at this
      have e : x * (pw t * b) = pw t * (x * b) := Int.mul_left_comm _ _ _
      omega
end Qd

/-- Ahead of limb j - 1 of the quotient. -/
structure DivI (w : World) (g g2 R K : Nat) (A b : Int) (j : Nat) (os rs : List Int) (wr : World) : Prop where
  own : Own wr g rs
  len : rs.length = R
  lim : Nm.Limbs rs
  own2 : Own wr g2 os
  len2 : os.length = K
  lim2 : Nm.Limbs os
  zero : ∀ i, i < j → os.getD i 0 = 0
  eq : Nm.val os * b + Nm.val rs = A
  lt : Nm.val rs < Nm.pw j * b
  low : Below g w wr

/-- A digit d at limb t, which may be too great: what is owed is beyond limb 'top'. -/
structure Digit (w : World) (g g2 R t top : Nat) (os : List Int) (R0 b d owed : Int) (rs : List Int) (wr : World) : Prop where
  own : Own wr g rs
  len : rs.length = R
  lim : Nm.Limbs rs
  own2 : Own wr g2 (os.set t d)
  dbd : 0 ≤ d ∧ d < 18446744073709551616
  obd : 0 ≤ owed ∧ owed ≤ 1
  eq : Nm.val rs + Nm.pw t * (b * d) = R0 + Nm.pw top * owed
  high : ∀ i, top ≤ i → rs.getD i 0 = 0
  least : ∀ x, 0 ≤ x → x * (Nm.pw t * b) ≤ R0 → x ≤ d
  low : Below g w wr

theorem Digit.lt {w : World} {g g2 R t top : Nat} {os : List Int} {R0 b d owed : Int} {rs : List Int} {wr : World} (h : Digit w g g2 R t top os R0 b d owed rs wr) : Nm.val rs < Nm.pw top := by
  have h1 := Nm.val_take_of_zero rs top h.high
  have h2 := (Nm.val_bd _ (h.lim.take top)).2
  have h3 : (rs.take top).length ≤ top := by simp; omega
  have h4 := Nm.pw_mono h3
  omega

/-- The digit is too great. -/
theorem Digit.great {w : World} {g g2 R t top : Nat} {os : List Int} {R0 b d : Int} {rs : List Int} {wr : World} (h : Digit w g g2 R t top os R0 b d 1 rs wr) (hR : 0 ≤ R0) (hb : 0 ≤ b) : 1 ≤ d ∧ ∀ x, 0 ≤ x → x * (Nm.pw t * b) ≤ R0 → x ≤ d - 1 := by
  have h1 := h.lt
  have h2 := h.eq
  rw [Int.mul_one] at h2
  have hd := h.dbd
  have hp := Nm.pw_pos t
  have h3 : 1 ≤ d := by
    rcases (show d = 0 ∨ 1 ≤ d by omega) with c | c
    · rw [c, Int.mul_zero, Int.mul_zero] at h2; omega
    · exact c
  refine ⟨h3, fun x x0 hx => ?_⟩
  rcases (show x ≤ d - 1 ∨ d ≤ x by omega) with c | c
  · exact c
  · exfalso
    have e1 : d * (Nm.pw t * b) ≤ x * (Nm.pw t * b) := Int.mul_le_mul_of_nonneg_right c (Int.mul_nonneg (by omega) hb)
    have e2 : d * (Nm.pw t * b) = Nm.pw t * (b * d) := by rw [Int.mul_left_comm, Int.mul_comm d b]
    omega

/-- The digit is right: the next one. -/
theorem Digit.done {w : World} {g g2 R K t top : Nat} {os rs0 : List Int} {A b d : Int} {rs : List Int} {wr wr0 : World} (h : Digit w g g2 R t top os (Nm.val rs0) b d 0 rs wr) (I : DivI w g g2 R K A b (t + 1) os rs0 wr0) (ht : t < K) :
    DivI w g g2 R K A b t (os.set t d) rs wr := by
  have h2 := h.eq
  rw [Int.mul_zero, Int.add_zero] at h2
  refine ⟨h.own, h.len, h.lim, h.own2, by simpa using I.len2, I.lim2.set t h.dbd.1 h.dbd.2, fun i hi => ?_, ?_, ?_, h.low⟩
  · rw [Nm.getD_set _ _ _ _ (by have := I.len2; omega), if_neg (by omega)]
    exact I.zero i (by omega)
  · rw [Nm.val_set _ _ _ (by have := I.len2; omega), I.zero t (by omega), Int.sub_zero, Int.add_mul, Int.mul_assoc, Int.mul_comm d b]
    have := I.eq
    omega
  · rcases (show Nm.val rs < Nm.pw t * b ∨ Nm.pw t * b ≤ Nm.val rs by omega) with c | c
    · exact c
    · exfalso
      have := h.least (d + 1) (by have := h.dbd; omega) (by rw [Int.add_mul, Int.one_mul, Int.mul_left_comm, Int.mul_comm d b]; omega)
      omega

/-- Behind takeTimes. -/
theorem digit_first {w wr0 w2 w' : World} {g g2 R K t m : Nat} {os rs0 rs : List Int} {A b d c : Int} (I : DivI w g g2 R K A b (t + 1) os rs0 wr0) (hg : g2 ≠ g) (h2 : Own w2 g2 (os.set t d)) (hb2 : Below g w w2) (hd : 0 ≤ d ∧ d < 18446744073709551616) (hc : 0 ≤ c ∧ c ≤ 1)
    (hlt : Nm.val rs0 < Nm.pw (t + m + 1)) (hle : ∀ x, 0 ≤ x → x * (Nm.pw t * b) ≤ Nm.val rs0 → x ≤ d)
    (P : PartInv g R (t + m + 1) w2 rs0 (Nm.val rs0 + Nm.pw t * (-(b * d))) (t + m + 1) (-c) rs w') : Digit w g g2 R t (t + m + 1) os (Nm.val rs0) b d c rs w' := by
  have hP := P
  obtain ⟨⟨p1, p2, p3, p4, p5, p6⟩, p7, p8⟩ := P
  refine ⟨p1, p2, p3, hP.own h2 hg, hd, hc, ?_, fun i hi => ?_, hle, hb2.trans p5⟩
  · rw [Int.mul_neg, Int.mul_neg] at p4
    omega
  · rw [p7 i hi]
    exact Nm.zero_of_lt I.lim hlt i hi

/-- Behind giveBack. -/
theorem digit_next {w wr w2 w' : World} {g g2 R t top : Nat} {os rs rs' : List Int} {R0 b d c : Int} (D : Digit w g g2 R t top os R0 b d 1 rs wr) (hR : 0 ≤ R0) (hb : 0 ≤ b) (hg : g2 ≠ g) (h2 : Own w2 g2 (os.set t (d - 1))) (hb2 : Below g w w2) (hc : 0 ≤ c ∧ c ≤ 1)
    (P : PartInv g R top w2 rs (Nm.val rs + Nm.pw t * b) top c rs' w') : Digit w g g2 R t top os R0 b (d - 1) (1 - c) rs' w' := by
  have hP := P
  obtain ⟨⟨p1, p2, p3, p4, p5, p6⟩, p7, p8⟩ := P
  have hgr := D.great hR hb
  have hd := D.dbd
  have he := D.eq
  refine ⟨p1, p2, p3, hP.own h2 hg, by omega, by omega, ?_, fun i hi => by rw [p7 i hi]; exact D.high i hi, hgr.2, hb2.trans p5⟩
  rw [Int.mul_sub, Int.mul_one, Int.mul_sub, Int.mul_sub, Int.mul_one]
  rw [Int.mul_one] at he
  omega

set_option maxRecDepth 100000 in
set_option maxHeartbeats 2000000 in
theorem divide_any (g R K k m cap' : Nat) (rs0 : List Int) (q : Option Addr) (bs : List Int) (w : World) (ho : Own w g rs0) (hR : rs0.length = R) (hRm : R ≤ 35184372088832) (hl : Nm.Limbs rs0) (hm : m = k + 2) (hK : R = K + m) (lb : bs.length = m) (hc' : m ≤ cap') (hm' : cap' ≤ 140737488355328)
    (hy : Lies w q bs) (hlb : Nm.Limbs bs) (hq : ∀ a, q = some a → a.block < g) (htop : bs.getD (k + 1) 0 ≠ 0) (hlt : Nm.val rs0 < Nm.pw K * Nm.val bs) :
    Calls Tryz.prog 195 #[.slice (some ⟨g, 0, none⟩) R R, .slice q m cap'] w fun e w' => ∃ os rs, e = .returned (.slice (some ⟨w.heap.size, 0, none⟩) K K) ∧ Hid (DivI w g w.heap.size R K (Nm.val rs0) (Nm.val bs) 0 os rs w') := by
  have hgw := ho.lt
  have r1 : (R : Int) - (m : Int) = (K : Int) := by omega
  have hmk := make64 K (by omega) w
  have hb0 : Below g w (w.alloc (.cells (madeCells #[.int .u64 0] K) 26)) := (Below.refl _ _).alloc (by omega) _
  have hbw : Below w.heap.size w (w.alloc (.cells (madeCells #[.int .u64 0] K) 26)) := (Below.refl _ _).alloc (Nat.le_refl _) _
  have ho2 : Own (w.alloc (.cells (madeCells #[.int .u64 0] K) 26)) w.heap.size (List.replicate K 0) := by
    rw [made_zero]; exact Own.alloc w _
  obtain ⟨W0, hW0⟩ : ∃ W0, w.alloc (.cells (madeCells #[.int .u64 0] K) 26) = W0 := ⟨_, rfl⟩
  rw [hW0] at hmk hb0 hbw ho2
  clear hW0
  have I0 : DivI w g w.heap.size R K (Nm.val rs0) (Nm.val bs) K (List.replicate K 0) rs0 W0 :=
    ⟨ho.below hbw hgw, hR, hl, ho2, by simp, Nm.Limbs.replicate _, fun i _ => getD_replicate _ _, by rw [Nm.val_replicate, Int.zero_mul, Int.zero_add], hlt, hb0⟩
  have B0 := (Nm.val_bd bs hlb).1
  have B1 := (Nm.val_bd bs hlb).2
  rw [lb] at B1
  have HI0 := hid I0
  have HB0 := hid B0
  have HB1 := hid B1
  have HY := hid hy
  have HLB := hid hlb
  have HQ := hid hq
  have HT := hid htop
  have HM := hid hm
  have HKK := hid hK
  have HL := hid lb
  obtain ⟨g2, hg2⟩ : ∃ g2, w.heap.size = g2 := ⟨_, rfl⟩
  rw [hg2] at HI0 hmk hgw ⊢
  have hgg : g2 ≠ g := by omega
  clear I0 B0 B1 hy hlb hq htop hm hK lb ho hR hl hlt hb0 hbw ho2 hg2
  go_enter Tryz.func195, Tryz.ntmps195
  go_wp2_with fail
  go_step3
  go_wp2_with fail
  go_step3
  go_wp2_with fail
  go_loopg [6] K (fun j i wr => ∃ (os rs : List Int), j ≤ K ∧ i = .int .i64 ((j : Int) - 1) ∧ Hid (DivI w g g2 R K (Nm.val rs0) (Nm.val bs) j os rs wr))
  case atStart => exact ⟨_, _, Nat.le_refl _, rfl, HI0.out⟩
  case round =>
    clear HI0 hmk
    obtain ⟨os, rs, hj, rfl, I⟩ := hrel
    cases gk with
    | zero =>
      go_wp2
      try rw [Exit.noGoto_ret]
      go_ret
      exact ⟨os, rs, rfl, I.out⟩
    | succ t =>
      have LR : Hid (t + (m + 1) ≤ rs.length) := by show _ ≤ _; have := I.out.len; have := HKK.out; omega
      obtain ⟨f1, f2, f3⟩ := Qd.part_facts I.out.lim LR.out HB1.out I.out.lt
      have htK : (t : Int) < (K : Int) := by omega
      have htR : t + m + 1 ≤ R := by have := HKK.out; omega
      have GU := guess_any (some ⟨g, t, none⟩) q k m (m + 1) (R - t) cap' (Qd.part rs t (m + 1)) bs wr HM.out (by rw [HM.out]) HL.out (Qd.part_length LR.out) (by omega) hc' (by omega) hm' (Qd.part_lies I.out.own LR.out) (HY.out.low I.out.low HQ.out) ((I.out.lim.drop t).take _) HLB.out HT.out f1
      have F2 := hid f2
      have F3 := hid f3
      have HGU := hid GU
      clear f1 f2 f3 GU
      go_wp2_with fail
      rw [show t + m + 1 - t = m + 1 by omega]
      refine HGU.out.mono ?_
      rintro e w1 ⟨d, rfl, ⟨d0, d1⟩, DL, hb1⟩
      have o1 := I.out.own.below hb1 I.out.own.lt
      have o2 := I.out.own2.below hb1 I.out.own2.lt
      have HB2 := hid (I.out.low.trans (hb1.mono (Nat.le_of_lt I.out.own.lt)))
      obtain ⟨y, hyc⟩ : ∃ y, w1.cell? ⟨g2, t, none⟩ = some (.int .u64 y) := ⟨_, o2.cell t (by have := I.out.len2; omega)⟩
      have hfr := o2.free t
      have O1 := hid (o1.other hgg t (.int .u64 d))
      have O2 := hid (o2.set t d)
      have HB3 := hid (HB2.out.setCell (p := ⟨g2, t, none⟩) (by show g ≤ g2; omega) (.int .u64 d))
      have LEAST : Hid (∀ x, 0 ≤ x → x * (Nm.pw t * Nm.val bs) ≤ Nm.val rs → x ≤ d) := fun x x0 hx => DL.out x x0 (F3.out x x0 hx)
      have hcell : (w1.setCell ⟨g2, t, none⟩ (.int .u64 d)).cell? ⟨g2, t, none⟩ = some (.int .u64 d) := by
        rw [O2.out.cell t (by have := I.out.len2; simp; omega), Nm.getD_set _ _ _ _ (by have := I.out.len2; omega), if_pos rfl]
      clear hb1 o1 o2 HGU DL
      go_wp2_with fail
      refine (takeTimes_any g R t m (m + 1) _ rs q _ bs d _ I.out.len hRm O1.out I.out.lim HL.out (by have := HM.out; omega) (by omega) (by omega) (HY.out.low HB3.out HQ.out) HLB.out HQ.out d0 d1).mono ?_
      rintro e w2 ⟨c, rs1, rfl, ⟨c0, c1⟩, P⟩
      have DG := hid (digit_first I.out hgg O2.out HB3.out ⟨d0, d1⟩ ⟨c0, c1⟩ F2.out LEAST.out P.out)
      clear P hcell hyc hfr O1 O2 HB2 HB3 LEAST
      go_wp2_with fail
      go_loopg [8] d.toNat (fun x c wr => ∃ (d owed : Int) (rs1 : List Int), c = .int .u64 owed ∧ Hid (x = d.toNat) ∧ Hid (Digit w g g2 R t (t + m + 1) os (Nm.val rs) (Nm.val bs) d owed rs1 wr))
      case atStart => exact ⟨d, c, rs1, rfl, rfl, DG.out⟩
      case round =>
        clear DG c0 c1 d0 d1
        obtain ⟨d, owed, rs1, rfl, GK, D⟩ := hrel
        have ob := D.out.obd
        rcases (show owed = 0 ∨ owed = 1 by omega) with rfl | rfl
        · have DN := hid (D.out.done I.out (by omega))
          clear ob
          go_wp2
          go_roundg t
          case measure => omega
          case rel => exact ⟨_, _, by omega, by go_num, DN.out⟩
        · clear ob
          have hV := (Nm.val_bd rs I.out.lim).1
          obtain ⟨g1, _⟩ := D.out.great hV HB0.out
          have db := D.out.dbd.2
          have hlen : t < (os.set t d).length := by have := I.out.len2; simp; omega
          obtain ⟨y, hyc, Y⟩ : ∃ y, wr.cell? ⟨g2, t, none⟩ = some (.int .u64 y) ∧ Hid (y = d) := ⟨_, D.out.own2.cell t hlen, by show _ = _; rw [Nm.getD_set _ _ _ _ (by simpa using hlen), if_pos rfl]⟩
          have hyd := Y.out
          subst hyd
          have hfr := D.out.own2.free t
          have o2 := D.out.own2.set t (y - 1)
          rw [List.set_set] at o2
          have O1 := hid (D.out.own.other hgg t (.int .u64 (y - 1)))
          have O2 := hid o2
          have HB3 := hid (D.out.low.setCell (p := ⟨g2, t, none⟩) (by show g ≤ g2; omega) (.int .u64 (y - 1)))
          have HV := hid hV
          clear o2 hlen hV
          go_wp2_with fail
          refine (giveBack_any g R t m (m + 1) _ rs1 q _ bs _ D.out.len hRm O1.out D.out.lim HL.out (by have := HM.out; omega) (by omega) (by omega) (HY.out.low HB3.out HQ.out) HLB.out HQ.out).mono ?_
          rintro e w2 ⟨c, rs2, rfl, ⟨c0, c1⟩, P⟩
          have DN := hid (digit_next D.out HV.out HB0.out hgg O2.out HB3.out ⟨c0, c1⟩ P.out)
          clear P hyc hfr O1 O2 HB3
          go_wp2_with fail
          go_roundg (y - 1).toNat
          case measure => have := GK.out; omega
          case rel => exact ⟨y - 1, 1 - c, rs2, rfl, rfl, DN.out⟩
end Go.Proofs.YtonnlimmjelldaaGreatDoor

namespace Go.Proofs.YtonnlimmjelldaaGreatDoor
open Go.RowKit Go.Deep

namespace Sh
theorem wrap_mod (x : Int) : IntKind.u64.wrap x = x % 18446744073709551616 := by rw [IntKind.wrap_u64]

/-- Digits that don't meet: 'or' is a sum. -/
theorem or_sum (hi c : Int) (s : Nat) (h0 : 0 ≤ hi) (hc0 : 0 ≤ c) (hc : c < 2 ^ s) (h1 : hi * 2 ^ s < 18446744073709551616) (h2 : c < 18446744073709551616) : bits .or .u64 (hi * 2 ^ s) c = hi * 2 ^ s + c := by
  obtain ⟨a, rfl⟩ := Int.eq_ofNat_of_zero_le h0
  obtain ⟨b, rfl⟩ := Int.eq_ofNat_of_zero_le hc0
  have hP : (2 : Int) ^ s = ((2 ^ s : Nat) : Int) := by simp
  rw [hP] at hc h1 ⊢
  have hb : b < 2 ^ s := by omega
  rw [← Int.natCast_mul] at h1 ⊢
  have h := bits_or_u64_nat (a * 2 ^ s) b (by omega) (by omega)
  rw [h, Nat.mul_comm a, ← Nat.two_pow_add_eq_or_of_lt hb a]
  omega

theorem split64 (r : Nat) (hr : r ≤ 63) : (2 : Int) ^ r * 2 ^ (64 - r) = 18446744073709551616 := by
  rw [← Nm.two_add, show r + (64 - r) = 64 by omega, Nm.two_64]

/-- One limb moved up by r binary digits, with what came up from below: the limb s, and what goes on. -/
theorem up (x sp : Int) (r : Nat) (hr : r ≤ 63) (x0 : 0 ≤ x) (x1 : x < 18446744073709551616) (s0 : 0 ≤ sp) (s1 : sp < 2 ^ r) :
    ∃ A s sp', IntKind.u64.wrap (x * 2 ^ r) = A ∧ bits .or .u64 A sp = s ∧ x / 2 ^ (64 - r) = sp' ∧ (0 ≤ s ∧ s < 18446744073709551616) ∧ (0 ≤ sp' ∧ sp' < 2 ^ r) ∧ Hid (s + 18446744073709551616 * sp' = x * 2 ^ r + sp) := by
  have hP := Nm.two_pos r
  have hQ := Nm.two_pos (64 - r)
  have hPQ := split64 r hr
  obtain ⟨P, hPe⟩ : ∃ P : Int, 2 ^ r = P := ⟨_, rfl⟩
  obtain ⟨Q, hQe⟩ : ∃ Q : Int, 2 ^ (64 - r) = Q := ⟨_, rfl⟩
  have d1 := Int.emod_add_mul_ediv x Q
  have d2 := Int.emod_nonneg x (show Q ≠ 0 by omega)
  have d3 := Int.emod_lt_of_pos x (show 0 < Q by omega)
  have a0 : 0 ≤ x / Q := Int.ediv_nonneg x0 (by omega)
  rw [hPe] at hP s1 hPQ
  rw [hQe] at hQ hPQ
  have a1 : x / Q < P := by
    rw [Int.ediv_lt_iff_lt_mul hQ, hPQ]
    exact x1
  have a4 : x * P = x % Q * P + 18446744073709551616 * (x / Q) := by
    have : (x % Q + Q * (x / Q)) * P = x * P := by rw [d1]
    rw [Int.add_mul, Int.mul_right_comm, Int.mul_comm Q P, hPQ] at this
    omega
  have a5 : (x % Q + 1) * P ≤ Q * P := Int.mul_le_mul_of_nonneg_right (by omega) (by omega)
  rw [Int.add_mul, Int.one_mul, Int.mul_comm Q P, hPQ] at a5
  have a6 : 0 ≤ x % Q * P := Int.mul_nonneg d2 (by omega)
  have hA : IntKind.u64.wrap (x * P) = x % Q * P := by rw [wrap_mod]; omega
  have hO := or_sum (x % Q) sp r d2 s0 (by rw [hPe]; exact s1) (by rw [hPe]; omega) (by omega)
  rw [hPe] at hO
  rw [hPe, hQe]
  exact ⟨_, _, _, hA, hO, rfl, by omega, ⟨a0, a1⟩, show _ = _ by omega⟩
end Sh
end Go.Proofs.YtonnlimmjelldaaGreatDoor

namespace Go.Proofs.YtonnlimmjelldaaGreatDoor
open Go.RowKit Go.Deep

/-- The number of binary digits. -/
def blen (zs : List Int) : Int := if Nm.tsize zs = 0 then 0 else ((Nm.tsize zs : Int) - 1) * 64 + Lib.bitLen (zs.getD (Nm.tsize zs - 1) 0).toNat

theorem blen_trim (zs : List Int) (t : Nat) (ht : Nm.tsize zs = t + 1) : blen zs = (t : Int) * 64 + Lib.bitLen ((Nm.trim zs).getD t 0).toNat := by
  have e : (Nm.trim zs).getD t 0 = zs.getD t 0 := by rw [Nm.trim, Nm.getD_take, if_pos (by omega)]
  rw [blen, if_neg (by omega), e, ht]
  simp

theorem retI {a b : Int} (h : a = b) : Ending.returned (.int .i64 a) = .returned (.int .i64 b) := by rw [h]

set_option maxRecDepth 100000 in
set_option maxHeartbeats 1000000 in
theorem bitLen_any (p : Option Addr) (n cap : Nat) (zs : List Int) (w : World) (ha : Arg w p n cap zs) :
    Calls Tryz.prog 101 #[.slice p n cap] w fun e w' => e = .returned (.int .i64 (blen zs)) ∧ w' = w := by
  obtain ⟨a1, a2, a3, a4, a5⟩ := ha
  have tl := Nm.tsize_le zs
  by_cases h0 : Nm.tsize zs = 0
  · have h0' : ((Nm.tsize zs : Int) == 0) = true := by simp [h0]
    have E : Hid (blen zs = 0) := by rw [Hid, blen, if_pos h0]
    clear h0 tl
    go_enter Tryz.func101, Tryz.ntmps101
    go_wp2_with fail
    refine (trimmed_any p n cap zs _ a1 a2 (by omega) a4).mono ?_
    rintro e w' ⟨rfl, rfl⟩
    go_wp2_with fail
    go_ret
    exact ⟨retI E.out.symm, rfl⟩
  · obtain ⟨t, ht⟩ : ∃ t, Nm.tsize zs = t + 1 := ⟨Nm.tsize zs - 1, by omega⟩
    have T1 := trimmed_any p n cap zs w a1 a2 (by omega) a4
    rw [ht] at T1
    have h0' : ((t : Int) + 1 == 0) = false := by rw [beq_eq_false_iff_ne]; omega
    have E := hid (blen_trim zs t ht)
    have L := hid ((Nm.trim_length zs).trans ht)
    obtain ⟨b, off, rfl, hc⟩ : ∃ b off, p = some ⟨b, off, none⟩ ∧ w.cell? ⟨b, off + t, none⟩ = some (.int .u64 ((Nm.trim zs).getD t 0)) := by
      have l := L.out
      rcases a4.trim with h | ⟨b, off, hp, h⟩
      · rw [h] at l
        simp at l
      · exact ⟨b, off, hp, h t (by omega)⟩
    obtain ⟨x, X⟩ : ∃ x, Hid (x = (Nm.trim zs).getD t 0) := ⟨_, rfl⟩
    rw [← X.out] at hc
    have hx0 := a5.trim.at t
    rw [← X.out] at hx0
    obtain ⟨hx0, hx1⟩ := hx0
    have E2 : Hid (blen zs = (t : Int) * 64 + Lib.bitLen x.toNat) := by rw [Hid, X.out]; exact E.out
    obtain ⟨l, hl⟩ : ∃ l, Lib.bitLen x.toNat = l := ⟨_, rfl⟩
    have hl64 : l ≤ 64 := by rw [← hl]; exact bitLen_small _ (by omega)
    have hl64' : (l : Int) ≤ 64 := by omega
    have L64 := len64 x w hx0 hx1
    rw [hl] at L64 E2
    have HT := hid T1
    have HL := hid L64
    have ht44 : (t : Int) < 17592186044416 := by omega
    clear T1 L64 hl E X h0 ht tl a1 a2 a4 a5 L
    go_enter Tryz.func101, Tryz.ntmps101
    go_wp2_with fail
    refine HT.out.mono ?_
    rintro e w' ⟨rfl, rfl⟩
    go_wp2_with fail
    refine HL.out.mono ?_
    rintro e w' ⟨rfl, rfl⟩
    go_wp2_with fail
    go_ret
    exact ⟨retI E2.out.symm, rfl⟩
end Go.Proofs.YtonnlimmjelldaaGreatDoor

namespace Go.Proofs.YtonnlimmjelldaaGreatDoor
open Go.RowKit Go.Deep

/-- What BitLen tells. -/
theorem blen_is (zs : List Int) (hz : Nm.Limbs zs) : ∃ L : Nat, blen zs = (L : Int) ∧ Nm.BLen (Nm.val zs) L ∧ L ≤ 64 * Nm.tsize zs ∧ (0 < Nm.tsize zs → 64 * Nm.tsize zs < L + 64) := by
  by_cases h0 : Nm.tsize zs = 0
  · have hv := (Nm.tsize_zero_iff hz).1 h0
    exact ⟨0, by rw [blen, if_pos h0]; rfl, ⟨by rw [hv]; decide, fun _ => rfl, fun h => by omega⟩, by omega, fun h => by omega⟩
  · obtain ⟨t, ht⟩ : ∃ t, Nm.tsize zs = t + 1 := ⟨Nm.tsize zs - 1, by omega⟩
    have hx := hz.at t
    have hx0 := Nm.tsize_top zs (by omega)
    rw [show Nm.tsize zs - 1 = t by omega] at hx0
    obtain ⟨n, hn⟩ := Int.eq_ofNat_of_zero_le hx.1
    have hb := Lib.bitLenAux_bounds 64 n (by simpa using (show n < 18446744073709551616 by omega)) (by omega)
    rw [show Lib.bitLenAux 64 n = Lib.bitLen n from rfl] at hb
    have hs := bitLen_small n (by omega)
    obtain ⟨l, hl⟩ : ∃ l, Lib.bitLen n = l := ⟨_, rfl⟩
    rw [hl] at hb hs
    have e1 : ((2 ^ (l - 1) : Nat) : Int) = (2 : Int) ^ (l - 1) := by simp
    have e2 : ((2 ^ l : Nat) : Int) = (2 : Int) ^ l := by simp
    refine ⟨64 * t + l, ?_, Nm.blen_at zs t l hz ht hb.1 (by omega) (by omega), by omega, fun _ => by omega⟩
    rw [blen, if_neg h0, show Nm.tsize zs - 1 = t by omega, hn, Int.toNat_natCast, hl, ht]
    omega
end Go.Proofs.YtonnlimmjelldaaGreatDoor

namespace Go.Proofs.YtonnlimmjelldaaGreatDoor
open Go.RowKit Go.Deep

theorem ret_two {p : Option Addr} {a b : Nat} (h : a = b) : Ending.returned (.tuple #[.slice p a a, .int .i64 0]) = .returned (.tuple #[.slice p b b, .int .i64 0]) := by rw [h]

theorem lshift_ok (p : Option Addr) (n cap : Nat) (zs : List Int) (k : Int) (w : World) (ha : Arg w p n cap zs) (tz : Nm.tsize zs ≤ 4096) (hk : 0 ≤ k) :
    Calls Tryz.prog 100 #[.slice p n cap, .int .i64 k] w fun e w' => e = .returned (.tuple #[.slice p (Nm.tsize zs) (Nm.tsize zs), .int .i64 0]) ∧ w' = w := by
  obtain ⟨a1, a2, a3, a4, a5⟩ := ha
  have HT := hid (limited_ok p n cap zs w a1 a2 (by omega) a4 tz)
  go_enter Tryz.func100, Tryz.ntmps100
  go_wp2_with fail
  refine HT.out.mono ?_
  rintro e w' ⟨rfl, rfl⟩
  go_wp2_with fail
  go_ret2
  exact ⟨rfl, rfl⟩

theorem lshift_neg (p : Option Addr) (n cap : Nat) (zs : List Int) (k : Int) (w : World) (ha : Arg w p n cap zs) (tz : Nm.tsize zs ≤ 4096) (hk : k < 0) :
    Calls Tryz.prog 100 #[.slice p n cap, .int .i64 k] w fun e w' => e = .returned (.tuple #[.slice none 0 0, .int .i64 1]) ∧ w' = w := by
  obtain ⟨a1, a2, a3, a4, a5⟩ := ha
  have HT := hid (limited_ok p n cap zs w a1 a2 (by omega) a4 tz)
  go_enter Tryz.func100, Tryz.ntmps100
  go_wp2_with fail
  refine HT.out.mono ?_
  rintro e w' ⟨rfl, rfl⟩
  go_wp2_with fail
  go_ret2
  exact ⟨rfl, rfl⟩

theorem bitLen_n (L : Nat) (p : Option Addr) (n cap : Nat) (zs : List Int) (w : World) (ha : Arg w p n cap zs) (hb : blen zs = (L : Int)) :
    Calls Tryz.prog 101 #[.slice p n cap] w fun e w' => e = .returned (.int .i64 (L : Int)) ∧ w' = w := by
  rw [← hb]
  exact bitLen_any p n cap zs w ha

theorem Arg.trim' {w : World} {p : Option Addr} {n cap : Nat} {zs : List Int} (h : Arg w p n cap zs) : Arg w p (Nm.tsize zs) (Nm.tsize zs) (Nm.trim zs) :=
  ⟨Nm.trim_length zs, Nat.le_refl _, by have := h.tl; have := h.2.1; have := h.2.2.1; omega, h.2.2.2.1.trim, h.2.2.2.2.trim⟩

theorem shl_neg (p : Option Addr) (n cap : Nat) (zs : List Int) (k : Int) (w : World) (ha : Arg w p n cap zs) (tz : Nm.tsize zs ≤ 4096) (hk : k < 0) :
    Calls Tryz.prog 74 #[.slice p n cap, .int .i64 k] w fun e w' => e = .returned (.tuple #[.slice none 0 0, .int .i64 1]) ∧ w' = w := by
  have HT := hid (lshift_neg p n cap zs k w ha tz hk)
  go_enter Tryz.func74, Tryz.ntmps74
  go_wp2_with fail
  refine HT.out.mono ?_
  rintro e w' ⟨rfl, rfl⟩
  go_wp2_with fail
  go_ret2
  exact ⟨rfl, rfl⟩

set_option maxRecDepth 100000 in
set_option maxHeartbeats 1000000 in
/-- What is too big anyway isn't worked out. -/
theorem shl_big (p : Option Addr) (n cap : Nat) (zs : List Int) (k : Int) (L : Nat) (w : World) (ha : Arg w p n cap zs) (tz : Nm.tsize zs ≤ 4096) (hk : 0 ≤ k) (hk1 : k ≤ 9223372036854775807) (hz : 0 < Nm.tsize zs) (hL : blen (Nm.trim zs) = (L : Int)) (hb : 262144 < (L : Int) + k) :
    Calls Tryz.prog 74 #[.slice p n cap, .int .i64 k] w fun e w' => e = .returned (.tuple #[.slice none 0 0, .int .i64 2]) ∧ w' = w := by
  have HT := hid (lshift_ok p n cap zs k w ha tz hk)
  have HB := hid (bitLen_n L p _ _ (Nm.trim zs) w ha.trim' hL)
  have hz' : ((Nm.tsize zs : Int) == 0) = false := by rw [beq_eq_false_iff_ne]; omega
  have hb' : 262144 - k < (L : Int) := by omega
  clear hL ha hb
  go_enter Tryz.func74, Tryz.ntmps74
  go_wp2_with fail
  refine HT.out.mono ?_
  rintro e w' ⟨rfl, rfl⟩
  go_wp2_with fail
  refine HB.out.mono ?_
  rintro e w' ⟨rfl, rfl⟩
  go_wp2_with fail
  go_ret2
  exact ⟨rfl, rfl⟩

theorem shl_zero (p : Option Addr) (n cap : Nat) (zs : List Int) (k : Int) (w : World) (ha : Arg w p n cap zs) (hk : 0 ≤ k) (hz : Nm.tsize zs = 0) :
    Calls Tryz.prog 74 #[.slice p n cap, .int .i64 k] w fun e w' => e = .returned (.tuple #[.slice none 0 0, .int .i64 0]) ∧ w' = w := by
  have HT := lshift_ok p n cap zs k w ha (by omega) hk
  rw [hz] at HT
  have H := hid HT
  clear HT hz ha
  go_enter Tryz.func74, Tryz.ntmps74
  go_wp2_with fail
  refine H.out.mono ?_
  rintro e w' ⟨rfl, rfl⟩
  go_wp2_with fail
  go_ret2
  exact ⟨rfl, rfl⟩

set_option maxRecDepth 100000 in
set_option maxHeartbeats 1000000 in
theorem shl_ok (p : Option Addr) (n cap : Nat) (zs : List Int) (kk : Int) (k : Nat) (L : Nat) (w : World) (ha : Arg w p n cap zs) (tz : Nm.tsize zs ≤ 4096) (hkk : kk = (k : Int)) (hz : 0 < Nm.tsize zs) (hL : blen (Nm.trim zs) = (L : Int)) (hb : L + k ≤ 262144) :
    Calls Tryz.prog 74 #[.slice p n cap, .int .i64 kk] w fun e w' => ∃ r os, e = .returned (.tuple #[.slice r (List.length os) (List.length os), .int .i64 0]) ∧ Ans w.heap.size w' r os (Nm.val zs * 2 ^ k) ∧ Below w.heap.size w w' := by
  have hk0 : 0 ≤ kk := by omega
  have T1 := lshift_ok p n cap zs kk w ha tz hk0
  have B1 := bitLen_n L p _ _ (Nm.trim zs) w ha.trim' hL
  obtain ⟨N, HN⟩ : ∃ N, Hid (Nm.tsize zs = N) := ⟨_, rfl⟩
  rw [HN.out] at T1 B1
  have HT := hid T1
  have HB := hid B1
  have hN0 : 0 < N := by rw [← HN.out]; exact hz
  have hN1 : N ≤ 4096 := by rw [← HN.out]; exact tz
  have hz' : ((N : Int) == 0) = false := by rw [beq_eq_false_iff_ne]; omega
  have hb1 : ¬ 262144 - kk < (L : Int) := by omega
  have hkb : kk ≤ 262144 := by omega
  obtain ⟨sk, hsk⟩ : ∃ sk, k / 64 = sk := ⟨_, rfl⟩
  obtain ⟨r, hr⟩ : ∃ r, k % 64 = r := ⟨_, rfl⟩
  have r1 : kk / 64 = (sk : Int) := by omega
  have r2 : kk % 64 = (r : Int) := by omega
  have hr63 : r ≤ 63 := by omega
  have hskb : sk ≤ 4096 := by omega
  have KE : Hid (k = 64 * sk + r) := by show _ = _; omega
  have L1 := hid ((Nm.trim_length zs).trans HN.out)
  have A5 := hid ha.2.2.2.2.trim
  obtain ⟨b, off, rfl, hbw, HC⟩ := ha.2.2.2.1.trim.at (by rw [L1.out]; exact hN0)
  have V := hid (Nm.val_trim zs)
  clear T1 B1 ha tz hz hL hkk hsk hr
  have hmk := make64 (sk + N + 1) (by omega) w
  have em : ((sk + N + 1 : Nat) : Int) = (sk : Int) + (N : Int) + 1 := by omega
  rw [em] at hmk
  clear em
  have ho : Own (w.alloc (.cells (madeCells #[.int .u64 0] (sk + N + 1)) 26)) w.heap.size (List.replicate (sk + N + 1) 0) := by
    rw [made_zero]; exact Own.alloc w _
  have hb0 : Below w.heap.size w (w.alloc (.cells (madeCells #[.int .u64 0] (sk + N + 1)) 26)) := (Below.refl _ _).alloc (Nat.le_refl _) _
  obtain ⟨W0, hW0⟩ : ∃ W0, w.alloc (.cells (madeCells #[.int .u64 0] (sk + N + 1)) 26) = W0 := ⟨_, rfl⟩
  have HB0 : Hid (Below w.heap.size w W0) := by rw [← hW0]; exact hb0
  have I0 : MaInv w.heap.size (sk + N + 1) W0 (Nm.pw sk * (Nm.val ((Nm.trim zs).take 0) * 2 ^ r)) (sk + 0) 0 (List.replicate (sk + N + 1) 0) W0 := by
    rw [← hW0]
    exact ⟨⟨ho, by simp, Nm.Limbs.replicate _, by simp [Nm.val_replicate, Nm.val], Below.refl _ _, rfl⟩, by omega, fun i _ => getD_replicate _ _⟩
  have P0 := Nm.two_pos r
  have HP0 := hid P0
  clear ho hb0 P0
  rw [hW0] at hmk
  clear hW0
  go_enter Tryz.func74, Tryz.ntmps74
  go_wp2_with fail
  refine HT.out.mono ?_
  rintro e w' ⟨rfl, rfl⟩
  go_wp2_with fail
  refine HB.out.mono ?_
  rintro e w' ⟨rfl, rfl⟩
  go_wp2_with fail
  go_loopw [10, 43] (fun a i wr => ∃ (j : Nat) (sp : Int) (os : List Int), j ≤ N ∧ i = .int .i64 j ∧ a = .int .u64 sp ∧ Hid (sp < 2 ^ r) ∧ MaInv w'.heap.size (sk + N + 1) W0 (Nm.pw sk * (Nm.val ((Nm.trim zs).take j) * 2 ^ r)) (sk + j) sp os wr) (fun _ i _ => N - (intOf i).toNat)
  case atStart => exact ⟨0, 0, _, Nat.zero_le _, rfl, rfl, HP0.out, I0⟩
  case round =>
    clear I0 hmk
    obtain ⟨j, sp, os, hj, rfl, rfl, SP, I⟩ := hrel
    by_cases hlt : j < N
    · obtain ⟨x, hx, X⟩ : ∃ x, wr.cell? ⟨b, off + j, none⟩ = some (.int .u64 x) ∧ Hid (x = (Nm.trim zs).getD j 0) :=
        ⟨_, ((HB0.out.trans I.1.2.2.2.2.1).cell (p := ⟨b, off + j, none⟩) hbw).trans (HC.out j (by rw [L1.out]; exact hlt)), rfl⟩
      have hx0 := A5.out.at j
      rw [← X.out] at hx0
      obtain ⟨hx0, hx1⟩ := hx0
      obtain ⟨y, hyc⟩ : ∃ y, wr.cell? ⟨w'.heap.size, sk + j, none⟩ = some (.int .u64 y) := ⟨_, I.1.1.cell (sk + j) (by have := I.1.2.1; omega)⟩
      have hfr := I.1.1.free (sk + j)
      obtain ⟨hs0, hs1⟩ := I.2.1
      obtain ⟨A, s, sp', u1, u2, u3, us, usp, E⟩ := Sh.up x sp r hr63 hx0 hx1 hs0 SP.out
      have usp1 := hid usp
      have hP64 : (2 : Int) ^ r ≤ 18446744073709551616 := by rw [← Nm.two_64]; exact Nm.two_mono (by omega)
      have I2 := I.step (by omega) (x := x * 2 ^ r) (s := s) (c' := sp') us ⟨usp.1, by omega⟩ E.out
      have T2 : Nm.pw sk * (Nm.val ((Nm.trim zs).take j) * 2 ^ r) + Nm.pw (sk + j) * (x * 2 ^ r) = Nm.pw sk * (Nm.val ((Nm.trim zs).take (j + 1)) * 2 ^ r) := by
        rw [Nm.val_take_succ _ j (by rw [L1.out]; exact hlt), ← X.out, Nm.pw_add, Int.add_mul, Int.mul_add, Int.mul_assoc, Int.mul_assoc]
      rw [T2] at I2
      clear I T2 hP64 us usp E
      go_wp2
      go_roundw
      case rel => exact ⟨j + 1, sp', _, by omega, by go_num, rfl, usp1.out.2, I2⟩
      case measure => simp [intOf]; omega
    · have hjN : j = N := by omega
      subst hjN
      rw [List.take_of_length_le (by rw [L1.out]; omega)] at I
      obtain ⟨⟨i1, i2, i3, i4, i5, i6⟩, i7, i8⟩ := I
      have O1 := hid (i1.set (sk + j) sp)
      have O2 : Hid ((os.set (sk + j) sp).length = sk + j + 1) := by rw [Hid]; simpa using i2
      have O3 := hid (i3.set (sk + j) i7.1 i7.2)
      have O4 : Hid (Nm.val (os.set (sk + j) sp) = Nm.val zs * 2 ^ k) := by
        rw [Hid, Nm.val_set _ _ _ (by omega), i8 (sk + j) (Nat.le_refl _), Int.sub_zero, i4, V.out, Nm.pw_two, Int.mul_left_comm, ← Nm.two_add, ← KE.out]
      have O5 := hid (HB0.out.trans (i5.setCell (p := ⟨w'.heap.size, sk + j, none⟩) (Nat.le_refl _) (.int .u64 sp)))
      obtain ⟨y, hy⟩ : ∃ y, wr.cell? ⟨w'.heap.size, sk + j, none⟩ = some (.int .u64 y) := ⟨_, i1.cell (sk + j) (by omega)⟩
      have hfr := i1.free (sk + j)
      clear i1 i2 i3 i4 i5 i6 i7 i8
      go_wp2_with fail
      refine (trimmed_any _ (sk + j + 1) (sk + j + 1) (os.set (sk + j) sp) _ O2.out (Nat.le_refl _) (by omega) O1.out.lies).mono ?_
      rintro e w3 ⟨rfl, rfl⟩
      go_wp2_with fail
      go_ret2
      refine ⟨some ⟨w'.heap.size, 0, none⟩, Nm.trim (os.set (sk + j) sp), ret_two (Nm.trim_length _).symm, ⟨O1.out.lies.trim, O3.out.trim, ?_, ?_, ?_⟩, O5.out⟩
      · rw [Nm.trim_trim, Nm.trim_length]
      · rw [Nm.val_trim, O4.out]
      · intro a h
        cases h
        exact Nat.le_refl _
end Go.Proofs.YtonnlimmjelldaaGreatDoor
