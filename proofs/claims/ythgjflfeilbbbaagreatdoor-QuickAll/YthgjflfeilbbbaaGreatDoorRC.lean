/-
  Texts put together: Walk6, QDivMod, QDivOk, KRow, KStep, ZPlus, ZPut, ZRef17.
-/
import Derived.Test.YthgjflfeilbbbaaGreatDoorBare
import Derived.Test.YthgjflfeilbbbaaGreatDoorRB
import Derived.Test.YthgjflfeilbbbaaGreatDoorRA
import Derived.Test.YthgjflfeilbbbaaGreatDoorShr
import Derived.Test.YthgjflfeilbbbaaGreatDoorZRef3
import Derived.Test.YthgjflfeilbbbaaGreatDoorIWalk1C
import Derived.Test.YthgjflfeilbbbaaGreatDoorZRef7
import Derived.Test.YthgjflfeilbbbaaGreatDoorBitW
namespace Go.Proofs.YthgjflfeilbbbaaGreatDoor
open Go.RowKit Go.Deep

theorem ret_div {p : Option Addr} {a b : Nat} {r : Int} (h : a = b) : Ending.returned (.tuple #[.slice p a a, .int .u64 r, .int .i64 0]) = .returned (.tuple #[.slice p b b, .int .u64 r, .int .i64 0]) := by rw [h]

/-- Behind the limbs from k on: quotient digits are in, below k the block is 0. -/
def DivInv (g n : Nat) (w : World) (xs : List Int) (d : Int) (k : Nat) (r : Int) (os : List Int) (wr : World) : Prop :=
  Own wr g os ∧ os.length = n ∧ Nm.Limbs os ∧ Nm.val os * d + Nm.pw k * r + Nm.val (xs.take k) = Nm.val xs ∧ (∀ i, i < k → os.getD i 0 = 0) ∧ (0 ≤ r ∧ r < d) ∧ Below g w wr

theorem DivInv.step {g n : Nat} {w : World} {xs : List Int} {d : Int} {t : Nat} {r : Int} {os : List Int} {wr w' : World} (h : DivInv g n w xs d (t + 1) r os wr) (hx : t < xs.length) (ht : t < n) (hb : Below wr.heap.size wr w') {q r' x : Int}
    (hxe : x = xs.getD t 0) (hq : q * d + r' = r * 18446744073709551616 + x) (hq0 : 0 ≤ q ∧ q < 18446744073709551616) (hr : 0 ≤ r' ∧ r' < d) :
    DivInv g n w xs d t r' (os.set t q) (w'.setCell ⟨g, t, none⟩ (.int .u64 q)) := by
  obtain ⟨h1, h2, h3, h4, h5, h6, h7⟩ := h
  have hlt := h1.lt
  refine ⟨(h1.below hb hlt).set t q, by simpa using h2, h3.set t hq0.1 hq0.2, ?_, ?_, hr, ?_⟩
  · rw [Nm.val_set _ _ _ (by omega), h5 t (by omega), Int.sub_zero, Int.add_mul, Int.mul_assoc]
    rw [Nm.val_take_succ xs t hx, ← hxe, Nm.pw_succ] at h4
    have e : Nm.pw t * (q * d + r') = Nm.pw t * (r * 18446744073709551616 + x) := by rw [hq]
    rw [Int.mul_add, Int.mul_add] at e
    have e2 : 18446744073709551616 * Nm.pw t * r = Nm.pw t * (r * 18446744073709551616) := by rw [Int.mul_assoc, Int.mul_left_comm, Int.mul_comm 18446744073709551616 r]
    omega
  · intro i hi
    rw [Nm.getD_set _ _ _ _ (by omega), if_neg (by omega)]
    exact h5 i (by omega)
  · exact h7.trans ((hb.mono (Nat.le_of_lt hlt)).setCell (p := ⟨g, t, none⟩) (Nat.le_refl _) _)

set_option maxRecDepth 100000 in
set_option maxHeartbeats 1000000 in
theorem divSmall_ok (p : Option Addr) (n cap : Nat) (zs : List Int) (d : Int) (w : World) (ha : Arg w p n cap zs) (tz : Nm.tsize zs ≤ 4096) (hd0 : 0 < d) (hd1 : d < 18446744073709551616) :
    Calls Tryz.prog 104 #[.slice p n cap, .int .u64 d] w fun e w' =>
      ∃ r os rest, e = .returned (.tuple #[.slice r (List.length os) (List.length os), .int .u64 rest, .int .i64 0]) ∧ Ans w.heap.size w' r os (Nm.val os) ∧ (0 ≤ rest ∧ rest < d) ∧ Hid (Nm.val os * d + rest = Nm.val zs) ∧ Below w.heap.size w w' := by
  obtain ⟨a1, a2, a3, a4, a5⟩ := ha
  obtain ⟨N, HN⟩ : ∃ N, Hid (Nm.tsize zs = N) := ⟨_, rfl⟩
  have T1 := limited_ok p n cap zs w a1 a2 (by omega) a4 tz
  rw [HN.out] at T1
  have hN : N ≤ 4096 := by rw [← HN.out]; exact tz
  have L1 := hid ((Nm.trim_length zs).trans HN.out)
  have hmk := make64 N (by omega) w
  have ho : Own (w.alloc (.cells (madeCells #[.int .u64 0] N) 25)) w.heap.size (List.replicate N 0) := by
    rw [made_zero]; exact Own.alloc w _
  have hb0 : Below w.heap.size w (w.alloc (.cells (madeCells #[.int .u64 0] N) 25)) := (Below.refl _ _).alloc (Nat.le_refl _) _
  obtain ⟨W0, hW0⟩ : ∃ W0, w.alloc (.cells (madeCells #[.int .u64 0] N) 25) = W0 := ⟨_, rfl⟩
  have HB0 : Hid (Below w.heap.size w W0) := by rw [← hW0]; exact hb0
  have I0 : DivInv w.heap.size N w (Nm.trim zs) d N 0 (List.replicate N 0) W0 := by
    rw [← hW0]
    exact ⟨ho, by simp, Nm.Limbs.replicate _, by rw [Nm.val_replicate, Int.zero_mul, Int.mul_zero, List.take_of_length_le (by rw [L1.out]; omega)]; omega, fun i _ => getD_replicate _ _, ⟨by omega, hd0⟩, hb0⟩
  have hd : (d == 0) = false := by rw [beq_eq_false_iff_ne]; omega
  have A5 := hid a5.trim
  have A4 := hid a4.trim
  have V := hid (Nm.val_trim zs)
  have HT := hid T1
  clear T1 tz ho hb0 a4 a5
  rw [hW0] at hmk
  clear hW0
  have fin : ∀ (os : List Int) (r : Int) (wr : World), DivInv w.heap.size N w (Nm.trim zs) d 0 r os wr →
      Ans w.heap.size wr (some ⟨w.heap.size, 0, none⟩) (Nm.trim os) (Nm.val (Nm.trim os)) ∧ (0 ≤ r ∧ r < d) ∧ Hid (Nm.val (Nm.trim os) * d + r = Nm.val zs) ∧ Below w.heap.size w wr ∧ (Nm.trim os).length = Nm.tsize os := by
    intro os r wr I
    obtain ⟨i1, i2, i3, i4, i5, i6, i7⟩ := I
    refine ⟨⟨i1.lies.trim, i3.trim, by rw [Nm.trim_trim, Nm.trim_length], rfl, fun a h => by cases h; exact Nat.le_refl _⟩, i6, ?_, i7, Nm.trim_length os⟩
    show _ = _
    rw [Nm.val_trim, ← V.out, ← i4]
    simp [Nm.pw, Nm.val]
  have FIN := hid fin
  clear fin
  by_cases h0 : N = 0
  · subst h0
    have hmk1 : (Instr.makeSlice 32 (.int .i64 0) (.int .i64 0)).run Tryz.prog w = .ok (.slice (some ⟨w.heap.size, 0, none⟩) 0 0) W0 := hmk
    clear hmk
    go_enter Tryz.func104, Tryz.ntmps104
    go_wp2_with fail
    refine HT.out.mono ?_
    rintro e w' ⟨rfl, rfl⟩
    go_wp2_with fail
    refine wp_loop_rounds 1 ?_
    rw [rounds_succ]
    go_wp2_with fail
    refine (trimmed_any (some ⟨w'.heap.size, 0, none⟩) 0 0 (List.replicate 0 0) _ rfl (Nat.le_refl _) (by omega) (Lies.nil _ _)).mono ?_
    rintro e w3 ⟨rfl, rfl⟩
    have F := FIN.out _ _ _ I0
    have HF := hid F
    clear F I0
    go_wp2_with fail
    go_ret3
    exact ⟨_, _, _, rfl, HF.out.1, HF.out.2.1, HF.out.2.2.1, HF.out.2.2.2.1⟩
  · obtain ⟨b, off, rfl, hbw, HC⟩ := A4.out.at (by rw [L1.out]; omega)
    go_enter Tryz.func104, Tryz.ntmps104
    go_wp2_with fail
    refine HT.out.mono ?_
    rintro e w' ⟨rfl, rfl⟩
    go_wp2_with fail
    go_loopw [9, 10] (fun a i wr => ∃ (j : Nat) (rr : Int) (os : List Int), j ≤ N ∧ i = .int .i64 ((j : Int) - 1) ∧ a = .int .u64 rr ∧ DivInv w'.heap.size N w' (Nm.trim zs) d j rr os wr) (fun _ i _ => (intOf i + 1).toNat)
    case atStart => exact ⟨N, 0, _, Nat.le_refl _, rfl, rfl, I0⟩
    case round =>
      clear I0 hmk
      obtain ⟨j, rr, os, hj, rfl, rfl, I⟩ := hrel
      by_cases hj0 : j = 0
      · subst hj0
        have F := FIN.out _ _ _ I
        have HF := hid F
        have TR := hid (trimmed_any (some ⟨w'.heap.size, 0, none⟩) N N os wr I.2.1 (Nat.le_refl _) (by omega) I.1.lies)
        clear F I
        go_wp2_with fail
        refine TR.out.mono ?_
        rintro e w3 ⟨rfl, rfl⟩
        go_wp2_with fail
        go_ret3
        exact ⟨some ⟨w'.heap.size, 0, none⟩, Nm.trim os, rr, ret_div HF.out.2.2.2.2.symm, HF.out.1, HF.out.2.1, HF.out.2.2.1, HF.out.2.2.2.1⟩
      · obtain ⟨t, rfl⟩ : ∃ t, j = t + 1 := ⟨j - 1, by omega⟩
        obtain ⟨x, hx, X⟩ : ∃ x, wr.cell? ⟨b, off + t, none⟩ = some (.int .u64 x) ∧ Hid (x = (Nm.trim zs).getD t 0) := ⟨_, (I.2.2.2.2.2.2.cell (p := ⟨b, off + t, none⟩) hbw).trans (HC.out t (by rw [L1.out]; omega)), rfl⟩
        have hx0 := A5.out.at t
        rw [← X.out] at hx0
        obtain ⟨hx0, hx1⟩ := hx0
        obtain ⟨hr0, hr1⟩ := I.2.2.2.2.2.1
        have htN : (t : Int) < (N : Int) := by omega
        go_wp2_with fail
        refine (div64 rr x d _ hr0 hr1 hx0 hx1 hd1).mono ?_
        rintro e w2 ⟨q, r', rfl, ⟨q0, q1, s0, s1⟩, E, hb⟩
        have I2 := I.step (by rw [L1.out]; omega) (by omega) hb X.out E.out ⟨q0, q1⟩ ⟨s0, s1⟩
        have ho2 := I.1.below hb I.1.lt
        obtain ⟨y, hyc⟩ : ∃ y, w2.cell? ⟨w'.heap.size, t, none⟩ = some (.int .u64 y) := ⟨_, ho2.cell t (by have := I.2.1; omega)⟩
        have hfr := ho2.free t
        clear I hx hb ho2
        go_wp2
        go_roundw
        case rel => exact ⟨t, r', _, by omega, by go_num, rfl, I2⟩
        case measure => simp [intOf]

/-- By nothing. -/
theorem divSmall_zero (p : Option Addr) (n cap : Nat) (zs : List Int) (w : World) (ha : Arg w p n cap zs) (tz : Nm.tsize zs ≤ 4096) :
    Calls Tryz.prog 104 #[.slice p n cap, .int .u64 0] w fun e w' => e = .returned (.tuple #[.slice none 0 0, .int .u64 0, .int .i64 4]) ∧ w' = w := by
  obtain ⟨a1, a2, a3, a4, a5⟩ := ha
  have HT := hid (limited_ok p n cap zs w a1 a2 (by omega) a4 tz)
  go_enter Tryz.func104, Tryz.ntmps104
  go_wp2_with fail
  refine HT.out.mono ?_
  rintro e w' ⟨rfl, rfl⟩
  go_wp2_with fail
  go_ret3
  exact ⟨rfl, rfl⟩

/-- Of an operand that is too big. -/
theorem divSmall_big (p : Option Addr) (n cap : Nat) (zs : List Int) (d : Int) (w : World) (ha : Arg w p n cap zs) (tz : 4096 < Nm.tsize zs) :
    Calls Tryz.prog 104 #[.slice p n cap, .int .u64 d] w fun e w' => e = .returned (.tuple #[.slice none 0 0, .int .u64 0, .int .i64 2]) ∧ w' = w := by
  obtain ⟨a1, a2, a3, a4, a5⟩ := ha
  have HT := hid (limited_big p n cap zs w a1 a2 (by omega) a4 tz)
  go_enter Tryz.func104, Tryz.ntmps104
  go_wp2_with fail
  refine HT.out.mono ?_
  rintro e w' ⟨rfl, rfl⟩
  go_wp2_with fail
  go_ret3
  exact ⟨rfl, rfl⟩
end Go.Proofs.YthgjflfeilbbbaaGreatDoor

namespace Go.Proofs.YthgjflfeilbbbaaGreatDoor
open Go.RowKit Go.Deep

theorem Arg.drew {w : World} {p : Option Addr} {n cap : Nat} {zs : List Int} (h : Arg w p n cap zs) (k : Nat) : Arg (w.drewN k) p n cap zs := h

theorem Arg.cut {w : World} {p : Option Addr} {n cap : Nat} {zs : List Int} (h : Arg w p n cap zs) : Arg w p (Nm.tsize zs) cap (Nm.trim zs) :=
  ⟨Nm.trim_length zs, by have := h.tl; have := h.2.1; omega, h.2.2.1, h.2.2.2.1.trim, h.2.2.2.2.trim⟩

/-- Quotient and rest, each trimmed and in new memory. -/
def Splits (A B : Int) (w : World) (e : Ending) (w' : World) : Prop :=
  ∃ r1 os r2 rs, e = .returned (.tuple #[.slice r1 (List.length os) (List.length os), .slice r2 (List.length rs) (List.length rs), .int .i64 0]) ∧ Ans w.heap.size w' r1 os (A / B) ∧ Ans w.heap.size w' r2 rs (A % B) ∧ Below w.heap.size w w'

theorem div_is {A B q r : Int} (h0 : 0 ≤ r) (h1 : r < B) (h : q * B + r = A) : A / B = q ∧ A % B = r := by
  have hB : 0 < B := by omega
  have h2 : A / B = q := by
    rw [← h, Int.add_comm, Int.add_mul_ediv_right _ _ (by omega), Int.ediv_eq_zero_of_lt h0 h1, Int.zero_add]
  refine ⟨h2, ?_⟩
  have := Int.emod_add_mul_ediv A B
  rw [h2, Int.mul_comm] at this
  omega

theorem ret_three {p q : Option Addr} {a b c d : Nat} {e : Int} (h : a = b) (k : c = d) : Ending.returned (.tuple #[.slice p a a, .slice q c c, .int .i64 e]) = .returned (.tuple #[.slice p b b, .slice q d d, .int .i64 e]) := by rw [h, k]

theorem divMod_big (p q : Option Addr) (n cap m cap' : Nat) (zs ys : List Int) (w : World) (ha : Arg w p n cap zs) (hb : Arg w q m cap' ys) (h : 4096 < Nm.tsize zs ∨ 4096 < Nm.tsize ys) :
    Calls Tryz.prog 72 #[.slice p n cap, .slice q m cap'] w fun e w' => e = .returned (.tuple #[.slice none 0 0, .slice none 0 0, .int .i64 2]) ∧ w' = w := by
  have L1 := hid (limbs_any p n cap zs w ha)
  have L2 := hid (limbs_any q m cap' ys w hb)
  by_cases h1 : 4096 < Nm.tsize zs
  · have h1' : (4096 : Int) < (Nm.tsize zs : Int) := by omega
    go_enter Tryz.func72, Tryz.ntmps72
    go_wp2_with fail
    refine L1.out.mono ?_
    rintro e w' ⟨rfl, rfl⟩
    go_wp2_with fail
    go_ret3
    exact ⟨rfl, rfl⟩
  · have h1' : (Nm.tsize zs : Int) ≤ 4096 := by omega
    have h2' : (4096 : Int) < (Nm.tsize ys : Int) := by omega
    go_enter Tryz.func72, Tryz.ntmps72
    go_wp2_with fail
    refine L1.out.mono ?_
    rintro e w' ⟨rfl, rfl⟩
    go_wp2_with fail
    refine L2.out.mono ?_
    rintro e w' ⟨rfl, rfl⟩
    go_wp2_with fail
    go_ret3
    exact ⟨rfl, rfl⟩

theorem limbs_is (p : Option Addr) (n cap : Nat) (zs : List Int) (N : Nat) (w : World) (ha : Arg w p n cap zs) (hN : Nm.tsize zs = N) :
    Calls Tryz.prog 84 #[.slice p n cap] w fun e w' => e = .returned (.int .i64 (N : Int)) ∧ w' = w := by
  rw [← hN]
  exact limbs_any p n cap zs w ha

set_option maxRecDepth 100000 in
set_option maxHeartbeats 1000000 in
theorem divMod_zero (p q : Option Addr) (n cap m cap' : Nat) (zs ys : List Int) (w : World) (ha : Arg w p n cap zs) (hb : Arg w q m cap' ys) (tz : Nm.tsize zs ≤ 4096) (ty : Nm.tsize ys = 0) :
    Calls Tryz.prog 72 #[.slice p n cap, .slice q m cap'] w fun e w' => e = .returned (.tuple #[.slice none 0 0, .slice none 0 0, .int .i64 4]) ∧ Below w.heap.size w w' := by
  obtain ⟨N, HN⟩ : ∃ N, Hid (Nm.tsize zs = N) := ⟨_, rfl⟩
  obtain ⟨M, HM⟩ : ∃ M, Hid (Nm.tsize ys = M) := ⟨_, rfl⟩
  have h1' : (N : Int) ≤ 4096 := by have := HN.out; omega
  have h2' : (M : Int) ≤ 4096 := by have := HM.out; omega
  have h3' : ((M : Int) == 0) = true := by have := HM.out; simp; omega
  have h2 : (N : Int) ≤ (cap : Int) := by have := ha.tl; have := ha.2.1; have := HN.out; omega
  have h4 : (M : Int) ≤ (cap' : Int) := by have := hb.tl; have := hb.2.1; have := HM.out; omega
  have HA := hid ha
  have HB := hid hb
  clear ha hb ty tz
  go_enter Tryz.func72, Tryz.ntmps72
  go_wp2_with fail
  refine (limbs_is p n cap zs N _ HA.out HN.out).mono ?_
  rintro e w' ⟨rfl, rfl⟩
  go_wp2_with fail
  refine (limbs_is q m cap' ys M _ HB.out HM.out).mono ?_
  rintro e w' ⟨rfl, rfl⟩
  go_wp2_with fail
  go_quiet ((go_at_call 84; first | exact Calls.quiet_of_same (limbs_is p n cap zs N _ (HA.out.drew _) HN.out) | exact Calls.quiet_of_same (limbs_is q m cap' ys M _ (HB.out.drew _) HM.out)))
  go_wp2_with fail
  go_ret3
  exact ⟨rfl, below_drewN (Below.refl _ _) _⟩
end Go.Proofs.YthgjflfeilbbbaaGreatDoor

namespace Go.Proofs.YthgjflfeilbbbaaGreatDoor
open Go.RowKit Go.Deep

theorem Ans.up {B B' : Nat} {w : World} {p : Option Addr} {ys : List Int} {n : Int} (h : Ans B w p ys n) (hB : B' ≤ B) : Ans B' w p ys n :=
  ⟨h.1, h.2.1, h.2.2.1, h.2.2.2.1, fun a ha => Nat.le_trans hB (h.2.2.2.2 a ha)⟩

set_option maxRecDepth 100000 in
set_option maxHeartbeats 1000000 in
theorem divMod_one (p q : Option Addr) (n cap m cap' : Nat) (zs ys : List Int) (w : World) (ha : Arg w p n cap zs) (hb : Arg w q m cap' ys) (tz : Nm.tsize zs ≤ 4096) (ty : Nm.tsize ys = 1) :
    Calls Tryz.prog 72 #[.slice p n cap, .slice q m cap'] w fun e w' => Splits (Nm.val zs) (Nm.val ys) w e w' := by
  obtain ⟨b', off', rfl, hbw', HC'⟩ := hb.2.2.2.1.trim.at (by rw [Nm.trim_length]; omega)
  obtain ⟨d, hd, D⟩ : ∃ d, w.cell? ⟨b', off', none⟩ = some (.int .u64 d) ∧ Hid (d = (Nm.trim ys).getD 0 0) := ⟨_, HC'.out 0 (by rw [Nm.trim_length]; omega), rfl⟩
  have hdb := hb.2.2.2.2.trim.at 0
  rw [← D.out] at hdb
  have hdv : Nm.val ys = d := by
    have h1 := Nm.val_trim ys
    have h2 := Nm.trim_length ys
    rw [ty] at h2
    obtain ⟨y, hy⟩ := List.length_eq_one_iff.1 h2
    have h3 := D.out
    rw [hy] at h1 h3
    simp [Nm.val] at h1 h3
    omega
  have hd0 : 0 < d := by
    have := Nm.val_ge_top hb.2.2.2.2 (by omega)
    rw [ty] at this
    simp [Nm.pw] at this
    omega
  obtain ⟨_, hd1⟩ := hdb
  obtain ⟨N, HN⟩ : ∃ N, Hid (Nm.tsize zs = N) := ⟨_, rfl⟩
  obtain ⟨M, HM⟩ : ∃ M, Hid (Nm.tsize ys = M) := ⟨_, rfl⟩
  have h1' : (N : Int) ≤ 4096 := by have := HN.out; omega
  have h2' : (M : Int) ≤ 4096 := by have := HM.out; omega
  have h3' : ((M : Int) == 0) = false := by have := HM.out; simp; omega
  have h5' : ((M : Int) == 1) = true := by have := HM.out; simp; omega
  have h6' : (0 : Int) < (M : Int) := by have := HM.out; omega
  have h2 : (N : Int) ≤ (cap : Int) := by have := ha.tl; have := ha.2.1; have := HN.out; omega
  have h4 : (M : Int) ≤ (cap' : Int) := by have := hb.tl; have := hb.2.1; have := HM.out; omega
  have CU := ha.cut
  rw [HN.out] at CU
  have HCU := hid CU
  have HT : Hid (Nm.tsize (Nm.trim zs) ≤ 4096) := by show _ ≤ _; rw [Nm.trim_trim]; exact tz
  have HA := hid ha
  have HB := hid hb
  have HV := hid hdv
  clear ha hb ty tz CU hbw' HC' D hdv
  go_enter Tryz.func72, Tryz.ntmps72
  go_wp2_with fail
  refine (limbs_is p n cap zs N _ HA.out HN.out).mono ?_
  rintro e w' ⟨rfl, rfl⟩
  go_wp2_with fail
  refine (limbs_is _ m cap' ys M _ HB.out HM.out).mono ?_
  rintro e w' ⟨rfl, rfl⟩
  go_wp2_with fail
  go_quiet ((go_at_call 84; first | exact Calls.quiet_of_same (limbs_is p n cap zs N _ (HA.out.drew _) HN.out) | exact Calls.quiet_of_same (limbs_is _ m cap' ys M _ (HB.out.drew _) HM.out)))
  have hd2 : (w'.drewN nq).cell? ⟨b', off', none⟩ = some (.int .u64 d) := hd
  have HCU2 := hid (HCU.out.drew nq)
  have HB0 : Hid (Below w'.heap.size w' (w'.drewN nq)) := below_drewN (Below.refl _ _) nq
  clear hd HCU
  generalize w'.drewN nq = wq at *
  go_wp2_with fail
  refine (divSmall_ok p N cap (Nm.trim zs) d _ HCU2.out HT.out hd0 hd1).mono ?_
  rintro e w2 ⟨r, os, rest, rfl, A1, ⟨s0, s1⟩, E, hb2⟩
  have HA1 := hid A1
  have HB2 := hid hb2
  have HE := hid (div_is s0 s1 E.out)
  have s2 : rest < 18446744073709551616 := by omega
  clear A1 hb2 E hd2
  go_wp2_with fail
  refine (fromUint_any rest _ s0 s2).mono ?_
  rintro e w3 ⟨r2, os2, rfl, A2, hb3⟩
  have F : Hid (Splits (Nm.val zs) (Nm.val ys) w' (.returned (.tuple #[.slice r (List.length os) (List.length os), .slice r2 (List.length os2) (List.length os2), .int .i64 0])) w3) := by
    have e1 := HE.out
    rw [Nm.val_trim, ← HV.out] at e1
    have z1 := HB0.out.size
    have z2 := HB2.out.size
    refine ⟨r, os, r2, os2, rfl, ?_, ?_, (chain (chain HB0.out HB2.out (Nat.le_refl _)) hb3 (Nat.le_refl _))⟩
    · rw [e1.1]; exact (HA1.out.below hb3 (Nat.le_refl _)).up z1
    · rw [e1.2]; exact A2.up (Nat.le_trans z1 z2)
  clear A2 hb3
  go_wp2_with fail
  go_ret3
  exact F.out

set_option maxRecDepth 100000 in
set_option maxHeartbeats 1000000 in
theorem divMod_less (p q : Option Addr) (n cap m cap' : Nat) (zs ys : List Int) (w : World) (ha : Arg w p n cap zs) (hb : Arg w q m cap' ys) (tz : Nm.tsize zs ≤ 4096) (ty : Nm.tsize ys ≤ 4096) (ty2 : 2 ≤ Nm.tsize ys) (hlt : Nm.val zs < Nm.val ys) :
    Calls Tryz.prog 72 #[.slice p n cap, .slice q m cap'] w fun e w' => Splits (Nm.val zs) (Nm.val ys) w e w' := by
  obtain ⟨N, HN⟩ : ∃ N, Hid (Nm.tsize zs = N) := ⟨_, rfl⟩
  obtain ⟨M, HM⟩ : ∃ M, Hid (Nm.tsize ys = M) := ⟨_, rfl⟩
  have h1' : (N : Int) ≤ 4096 := by have := HN.out; omega
  have h2' : (M : Int) ≤ 4096 := by have := HM.out; omega
  have h3' : ((M : Int) == 0) = false := by have := HM.out; simp; omega
  have h5' : ((M : Int) == 1) = false := by have := HM.out; rw [beq_eq_false_iff_ne]; omega
  have h2 : (N : Int) ≤ (cap : Int) := by have := ha.tl; have := ha.2.1; have := HN.out; omega
  have h4 : (M : Int) ≤ (cap' : Int) := by have := hb.tl; have := hb.2.1; have := HM.out; omega
  have CU := ha.cut
  rw [HN.out] at CU
  have CU' := hb.cut
  rw [HM.out] at CU'
  have HCU := hid CU
  have HCU' := hid CU'
  have HC : Hid (cmpI (Nm.val (Nm.trim zs)) (Nm.val (Nm.trim ys)) = -1) := by show _ = _; rw [Nm.val_trim, Nm.val_trim]; exact cmpI_lt hlt
  have HD : Hid (Nm.val zs / Nm.val ys = 0 ∧ Nm.val zs % Nm.val ys = Nm.val (Nm.trim zs)) := by
    have := (Nm.val_bd zs ha.2.2.2.2).1
    rw [Nm.val_trim]
    exact div_is this hlt (by omega)
  have HA := hid ha
  have HB := hid hb
  clear ha hb ty tz CU CU' ty2 hlt
  go_enter Tryz.func72, Tryz.ntmps72
  go_wp2_with fail
  refine (limbs_is p n cap zs N _ HA.out HN.out).mono ?_
  rintro e w' ⟨rfl, rfl⟩
  go_wp2_with fail
  refine (limbs_is _ m cap' ys M _ HB.out HM.out).mono ?_
  rintro e w' ⟨rfl, rfl⟩
  go_wp2_with fail
  go_quiet ((go_at_call 84; first | exact Calls.quiet_of_same (limbs_is p n cap zs N _ (HA.out.drew _) HN.out) | exact Calls.quiet_of_same (limbs_is _ m cap' ys M _ (HB.out.drew _) HM.out)))
  have HCU2 := hid (HCU.out.drew nq)
  have HCU2' := hid (HCU'.out.drew nq)
  have HB0 : Hid (Below w'.heap.size w' (w'.drewN nq)) := below_drewN (Below.refl _ _) nq
  clear HCU HCU'
  generalize w'.drewN nq = wq at *
  go_wp2_with fail
  refine (cmp_is (-1) p q N cap M cap' (Nm.trim zs) (Nm.trim ys) _ HCU2.out HCU2'.out HC.out).mono ?_
  rintro e w2 ⟨rfl, hb2⟩
  have HB2 := hid (chain HB0.out hb2 (Nat.le_refl _))
  have HCU3 := hid (HCU2.out.below hb2 (Nat.le_refl _))
  clear hb2
  go_wp2_with fail
  refine (trim_any p N cap (Nm.trim zs) _ HCU3.out).mono ?_
  rintro e w3 ⟨r, os, rfl, -, A1, hb3⟩
  have F : Hid (Splits (Nm.val zs) (Nm.val ys) w' (.returned (.tuple #[.slice none 0 0, .slice r (List.length os) (List.length os), .int .i64 0])) w3) := by
    have z1 := HB2.out.size
    refine ⟨none, [], r, os, rfl, ?_, ?_, chain HB2.out hb3 (Nat.le_refl _)⟩
    · rw [HD.out.1]; exact ans_none _ _ _ (fun a h => by cases h)
    · rw [HD.out.2]; exact A1.up z1
  clear A1 hb3
  go_wp2_with fail
  go_ret3
  exact F.out

/-- The quotient of a by b has so many limbs. -/
theorem first_room {zs ys : List Int} (hz : Nm.Limbs zs) (hy : Nm.Limbs ys) {N M K : Nat} (hN : Nm.tsize zs = N) (hM : Nm.tsize ys = M) (hM0 : 0 < M) (hK : N + 1 = K + M) : Nm.val zs < Nm.pw K * Nm.val ys := by
  have h1 := Nm.val_lt_tsize hz
  have h2 := Nm.val_ge_top hy (by omega)
  rw [hN] at h1
  rw [hM] at h2
  have h3 : Nm.pw K * Nm.pw (M - 1) ≤ Nm.pw K * Nm.val ys := Int.mul_le_mul_of_nonneg_left h2 (by have := Nm.pw_pos K; omega)
  rw [← Nm.pw_add, show K + (M - 1) = N by omega] at h3
  omega

set_option maxRecDepth 100000 in
set_option maxHeartbeats 1000000 in
theorem divMod_long (p q : Option Addr) (n cap m cap' : Nat) (zs ys : List Int) (w : World) (ha : Arg w p n cap zs) (hb : Arg w q m cap' ys) (tz : Nm.tsize zs ≤ 4096) (ty : Nm.tsize ys ≤ 4096) (ty2 : 2 ≤ Nm.tsize ys) (hge : Nm.val ys ≤ Nm.val zs) :
    Calls Tryz.prog 72 #[.slice p n cap, .slice q m cap'] w fun e w' => Splits (Nm.val zs) (Nm.val ys) w e w' := by
  obtain ⟨N, HN⟩ : ∃ N, Hid (Nm.tsize zs = N) := ⟨_, rfl⟩
  obtain ⟨M, HM⟩ : ∃ M, Hid (Nm.tsize ys = M) := ⟨_, rfl⟩
  have hNM : M ≤ N := by
    rcases Nat.lt_or_ge N M with h | h
    · have := val_lt_of_tsize ha.2.2.2.2 hb.2.2.2.2 (by rw [HN.out, HM.out]; exact h)
      omega
    · exact h
  obtain ⟨K, HK⟩ : ∃ K, Hid (N + 1 = K + M) := ⟨N + 1 - M, by show _ = _; omega⟩
  have RM := hid (first_room ha.2.2.2.2 hb.2.2.2.2 HN.out HM.out (by have := HM.out; omega) HK.out)
  have h1' : (N : Int) ≤ 4096 := by have := HN.out; omega
  have h2' : (M : Int) ≤ 4096 := by have := HM.out; omega
  have h3' : ((M : Int) == 0) = false := by have := HM.out; simp; omega
  have h5' : ((M : Int) == 1) = false := by have := HM.out; rw [beq_eq_false_iff_ne]; omega
  have h2 : (N : Int) ≤ (cap : Int) := by have := ha.tl; have := ha.2.1; have := HN.out; omega
  have h4 : (M : Int) ≤ (cap' : Int) := by have := hb.tl; have := hb.2.1; have := HM.out; omega
  have CU := ha.cut
  rw [HN.out] at CU
  have CU' := hb.cut
  rw [HM.out] at CU'
  have HCU := hid CU
  have HCU' := hid CU'
  obtain ⟨c, hc0, HC⟩ : ∃ c : Int, 0 ≤ c ∧ Hid (cmpI (Nm.val (Nm.trim zs)) (Nm.val (Nm.trim ys)) = c) := by
    rw [Nm.val_trim, Nm.val_trim]
    rcases (show Nm.val zs = Nm.val ys ∨ Nm.val ys < Nm.val zs by omega) with h | h
    · exact ⟨0, by omega, cmpI_eq h⟩
    · exact ⟨1, by omega, cmpI_gt h⟩
  have HA := hid ha
  have HB := hid hb
  have hM2 : 2 ≤ M := by have := HM.out; omega
  clear ha hb ty tz CU CU' ty2 hge
  go_enter Tryz.func72, Tryz.ntmps72
  go_wp2_with fail
  refine (limbs_is p n cap zs N _ HA.out HN.out).mono ?_
  rintro e w' ⟨rfl, rfl⟩
  go_wp2_with fail
  refine (limbs_is _ m cap' ys M _ HB.out HM.out).mono ?_
  rintro e w' ⟨rfl, rfl⟩
  go_wp2_with fail
  go_quiet ((go_at_call 84; first | exact Calls.quiet_of_same (limbs_is p n cap zs N _ (HA.out.drew _) HN.out) | exact Calls.quiet_of_same (limbs_is _ m cap' ys M _ (HB.out.drew _) HM.out)))
  have HCU2 := hid (HCU.out.drew nq)
  have HCU2' := hid (HCU'.out.drew nq)
  have HB0 : Hid (Below w'.heap.size w' (w'.drewN nq)) := below_drewN (Below.refl _ _) nq
  clear HCU HCU'
  generalize w'.drewN nq = wq at *
  go_wp2_with fail
  refine (cmp_is c p q N cap M cap' (Nm.trim zs) (Nm.trim ys) _ HCU2.out HCU2'.out HC.out).mono ?_
  rintro e w2 ⟨rfl, hb2⟩
  have HB2 := hid (chain HB0.out hb2 (Nat.le_refl _))
  have HCU3 := hid (HCU2.out.below hb2 (Nat.le_refl _))
  have HCU3' := hid (HCU2'.out.below hb2 (Nat.le_refl _))
  clear hb2 HCU2 HCU2' HB0
  have hmk := make64 (N + 1) (by omega) w2
  have em : ((N + 1 : Nat) : Int) = (N : Int) + 1 := by omega
  rw [em] at hmk
  clear em
  have hb0 : Below w2.heap.size w2 (w2.alloc (.cells (madeCells #[.int .u64 0] (N + 1)) 25)) := (Below.refl _ _).alloc (Nat.le_refl _) _
  have ho : Own (w2.alloc (.cells (madeCells #[.int .u64 0] (N + 1)) 25)) w2.heap.size (List.replicate (N + 1) 0) := by
    rw [made_zero]; exact Own.alloc w2 _
  obtain ⟨w3, hcp, ho1, hb1, hz1⟩ := copy64 w2.heap.size (N + 1) (List.replicate (N + 1) 0) p N cap (Nm.trim zs) 3 _ (by simp) (by rw [Nm.trim_length, HN.out]) (by omega) ho (HCU3.out.2.2.2.1.below hb0 (Nat.le_refl _))
  have e1 : List.drop N (List.replicate (N + 1) (0 : Int)) = [0] := by simp
  rw [e1] at ho1
  have HO := hid ho1
  have HB3 := hid (hb0.trans hb1)
  have HW3 : Hid (w2.heap.size < w3.heap.size) := ho1.lt
  clear e1 ho1 hb1 ho hb0 hz1
  have DV := divide_any w2.heap.size (N + 1) K (M - 2) M cap' (Nm.trim zs ++ [0]) q (Nm.trim ys) w3 HO.out (by simp [Nm.trim_length, HN.out]) (by omega) (Nm.Limbs.append HCU3.out.2.2.2.2 (limb_one (by omega))) (by omega) HK.out (by rw [Nm.trim_length, HM.out]) (by omega) (by have := HCU3'.out.2.2.1; omega)
    (HCU3'.out.2.2.2.1.below HB3.out (Nat.le_refl _)) HCU3'.out.2.2.2.2 (HCU3'.out.2.2.2.1.lt (by rw [Nm.trim_length, HM.out]; omega)) (by
      have := Nm.tsize_top (Nm.trim ys) (by rw [Nm.trim_trim, HM.out]; omega)
      rw [Nm.trim_trim, HM.out] at this
      rw [show M - 2 + 1 = M - 1 by omega]
      exact this) (by
      have e : Nm.val (Nm.trim zs ++ [0]) = Nm.val zs := by rw [Nm.val_append, Nm.val_trim]; simp [Nm.val]
      rw [e, Nm.val_trim]
      exact RM.out)
  have HDV := hid DV
  clear DV
  go_wp2_with fail
  refine HDV.out.mono ?_
  rintro e w4 ⟨os, rs, rfl, I⟩
  have bz := (Nm.val_bd rs I.out.lim).1
  have HE : Hid (Nm.val zs / Nm.val ys = Nm.val os ∧ Nm.val zs % Nm.val ys = Nm.val rs) := by
    have h1 := I.out.eq
    have h2 := I.out.lt
    have e : Nm.val (Nm.trim zs ++ [0]) = Nm.val zs := by rw [Nm.val_append, Nm.val_trim]; simp [Nm.val]
    rw [e, Nm.val_trim] at h1
    rw [Nm.val_trim] at h2
    simp only [Nm.pw, Int.one_mul] at h2
    exact div_is bz h2 h1
  have HB4 := hid ((HB2.out.trans (HB3.out.mono HB2.out.size)).trans (I.out.low.mono HB2.out.size))
  have hK64 : K ≤ 17592186044416 := by have := HK.out; omega
  have A1 : Hid (Arg w4 (some ⟨w3.heap.size, 0, none⟩) K K os) := ⟨I.out.len2, Nat.le_refl _, hK64, I.out.own2.lies, I.out.lim2⟩
  have HZ := hid HB2.out.size
  clear bz hmk hcp HDV
  go_wp2_with fail
  refine (trim_any _ K K os _ A1.out).mono ?_
  rintro e w5 ⟨r, os', rfl, -, A2, hb5⟩
  have HB5 := hid (chain HB4.out hb5 (Nat.le_refl _))
  have A3 : Hid (Arg w5 (some ⟨w2.heap.size, 0, none⟩) (N + 1) (N + 1) rs) := ⟨I.out.len, Nat.le_refl _, by omega, (I.out.own.below hb5 I.out.own.lt).lies, I.out.lim⟩
  have HA2 := hid (A2.up (B' := w'.heap.size) (HB4.out.size))
  clear A2 hb5
  go_wp2_with fail
  refine (trim_any _ (N + 1) (N + 1) rs _ A3.out).mono ?_
  rintro e w6 ⟨r2, os2, rfl, -, A4, hb6⟩
  have F : Hid (Splits (Nm.val zs) (Nm.val ys) w' (.returned (.tuple #[.slice r (List.length os') (List.length os'), .slice r2 (List.length os2) (List.length os2), .int .i64 0])) w6) := by
    refine ⟨r, os', r2, os2, rfl, ?_, ?_, chain HB5.out hb6 (Nat.le_refl _)⟩
    · rw [HE.out.1]; exact HA2.out.below hb6 (Nat.le_refl _)
    · rw [HE.out.2]; exact A4.up HB5.out.size
  clear A4 hb6
  go_wp2_with fail
  go_ret3
  exact F.out

/-- DivMod of two naturals that are not too big, the second not zero. -/
theorem divMod_ok (p q : Option Addr) (n cap m cap' : Nat) (zs ys : List Int) (w : World) (ha : Arg w p n cap zs) (hb : Arg w q m cap' ys) (tz : Nm.tsize zs ≤ 4096) (ty : Nm.tsize ys ≤ 4096) (hy : 0 < Nm.tsize ys) :
    Calls Tryz.prog 72 #[.slice p n cap, .slice q m cap'] w fun e w' => Splits (Nm.val zs) (Nm.val ys) w e w' := by
  by_cases h1 : Nm.tsize ys = 1
  · exact divMod_one p q n cap m cap' zs ys w ha hb tz h1
  by_cases h2 : Nm.val zs < Nm.val ys
  · exact divMod_less p q n cap m cap' zs ys w ha hb tz ty (by omega) h2
  · exact divMod_long p q n cap m cap' zs ys w ha hb tz ty (by omega) (by omega)
end Go.Proofs.YthgjflfeilbbbaaGreatDoor

namespace Go.Proofs.YthgjflfeilbbbaaGreatDoor
open Go Go.RowKit Go.Deep

def lo64 (P : Int) : Int := P % 18446744073709551616
def hi64 (P : Int) : Int := P / 18446744073709551616
theorem n2_split (P : Int) : n2 (lo64 P) (hi64 P) = P := by unfold n2 lo64 hi64; omega
theorem bd_split {P : Int} (h0 : 0 ≤ P) (h1 : P < 340282366920938463463374607431768211456) : Bd (lo64 P) ∧ Bd (hi64 P) := by unfold Bd lo64 hi64; omega

theorem Ans.two {B : Nat} {w : World} {r : Option Addr} {os : List Int} {P : Int} (h : Ans B w r os P) (h0 : 170141183460469231731687303715884105728 ≤ P) (h1 : P < 340282366920938463463374607431768211456) :
    ∃ b off, os = [lo64 P, hi64 P] ∧ r = some ⟨b, off, none⟩ ∧ w.cell? ⟨b, off, none⟩ = some (.int .u64 (lo64 P)) ∧ w.cell? ⟨b, off + 1, none⟩ = some (.int .u64 (hi64 P)) ∧ B ≤ b ∧ b < w.heap.size := by
  obtain ⟨hl, hz, ht, hv, hb⟩ := h
  have hx : os = [lo64 P, hi64 P] := by
    match os, hz, ht, hv with
    | [], _, _, hv => simp [Nm.val] at hv; omega
    | [x], hz, _, hv =>
      have := hz x (by simp)
      simp [Nm.val] at hv
      omega
    | [x, y], hz, _, hv =>
      have := hz x (by simp)
      have := hz y (by simp)
      simp [Nm.val] at hv
      unfold lo64 hi64
      congr 1
      · omega
      · congr 1; omega
    | x :: y :: z :: l, hz, ht, hv =>
      exfalso
      have k := (Nm.tsize_le_iff hz 2).2 (by rw [hv]; simp [Nm.pw]; omega)
      rw [ht] at k
      simp at k
  subst hx
  rcases hl with hl | ⟨b, off, hp, hc⟩
  · simp at hl
  · have c0 := hc 0 (by simp)
    have c1 := hc 1 (by simp)
    refine ⟨b, off, rfl, hp, c0, c1, hb _ hp, ?_⟩
    exact cell_lt c0

/-- The room for the row. -/
def RR (w wx : World) (x y : Int) : Prop := Below w.heap.size w wx ∧ At2 wx w.heap.size x y
theorem RR.new (w : World) : RR w (w.alloc (.cells #[.int .u64 0, .int .u64 0] 52)) 0 0 := ⟨alloc_b _ _, heap_alloc_new _ _⟩
theorem RR.on {w wx wy : World} {x y : Int} (h : RR w wx x y) (k : Below wx.heap.size wx wy) : RR w wy x y := ⟨below_on h.1 k, h.2.below k h.2.lt⟩
theorem RR.drew {w wx : World} {x y : Int} (h : RR w wx x y) : RR w wx.drew x y := ⟨⟨h.1.1, h.1.2, h.1.3, h.1.4, h.1.5⟩, h.2⟩
theorem RR.put {w wx : World} {x y : Int} (h : RR w wx x y) (u v : Int) : RR w ((wx.setCell ⟨w.heap.size, 0, none⟩ (.int .u64 u)).setCell ⟨w.heap.size, 1, none⟩ (.int .u64 v)) u v := by
  refine ⟨(h.1.setCell (p := ⟨w.heap.size, 0, none⟩) (Nat.le_refl _) _).setCell (p := ⟨w.heap.size, 1, none⟩) (Nat.le_refl _) _, ?_⟩
  have h0 := set1 (o := 0) (v := .int .u64 u) (c' := #[.int .u64 u, .int .u64 y]) h.2 (by simp [Array.setIfInBounds])
  exact set1 (o := 1) (v := .int .u64 v) (c' := #[.int .u64 u, .int .u64 v]) h0 (by simp [Array.setIfInBounds])

def RowTold (q : Int) (w : World) (e : Ending) (w' : World) : Prop := e = .returned (.tuple #[wideV (lo64 (Ie.rowP q)) (hi64 (Ie.rowP q)), .int .i64 (Ie.rowE q)]) ∧ Below w.heap.size w w'

theorem five_pw {n : Nat} (h : n ≤ 342) : (5 : Int) ^ n < Nm.pw 4096 := by
  have g := Ie.five_le h
  have k : (5 : Int) ^ 342 < 2 ^ 800 := by decide +kernel
  have e := Nm.pw_two 4096
  have m := Nm.two_mono (show 800 ≤ 64 * 4096 by decide)
  rw [e]
  generalize (2 : Int) ^ 800 = x at *
  generalize (2 : Int) ^ (64 * 4096) = y at *
  omega

theorem arg_lit9 {w : World} {g : Nat} {x : Int} (h : w.heap[g]? = some (.cells #[.int .u64 x] 25 (0, 0))) (h0 : 0 ≤ x) (h1 : x < 18446744073709551616) : Arg w (some ⟨g, 0, none⟩) 1 1 [x] := by
  refine ⟨rfl, Nat.le_refl _, by omega, .inr ⟨g, 0, rfl, fun i hi => ?_⟩, Nm.Limbs.mk h0 h1 Nm.Limbs.nil⟩
  obtain rfl : i = 0 := by simpa using hi
  simp [World.cell?, h]

theorem two_pw {u : Nat} (h : u < 262144) : (2 : Int) ^ u < Nm.pw 4096 := by
  have g := Nm.two_mono (show u + 1 ≤ 64 * 4096 by omega)
  rw [Nm.pw_two]
  rw [Int.pow_succ] at g
  have := Nm.two_pos u
  generalize (2 : Int) ^ u = x at *
  generalize (2 : Int) ^ (64 * 4096) = y at *
  omega

set_option maxRecDepth 100000 in
set_option maxHeartbeats 2000000 in
theorem rowBelow_any (k : Int) (n : Nat) (w : World) (hk : k = (n : Int)) (n0 : 0 < n) (n1 : n ≤ 342) :
    Calls Tryz.prog 48 #[.int .i64 k] w fun e w' => RowTold (-k) w e w' := by
  have P5 := hid (fun wx => pow5_gives k n wx hk (by omega))
  have f1 := hid (five_pw n1)
  have RE : Hid (Ie.rowE (-k) = -((Ie.bl n : Int) + 127)) := by rw [Hid, Ie.rowE, if_neg (by omega), show (-(-k)).toNat = n by omega]
  have RP : Hid (Ie.rowP (-k) = 2 ^ (Ie.bl n + 127) / 5 ^ n) := by rw [Hid, Ie.rowP, if_neg (by omega), show (-(-k)).toNat = n by omega]
  have RI := hid (Ie.row_is (q := -k) (by omega) (by omega))
  have LB := hid (Ie.row_len n1 (Ie.bl_is n))
  have Z := hid (RR.new w)
  clear hk n0 n1
  go_enter Tryz.func48, Tryz.ntmps48
  go_wp2_with fail
  refine (P5.out _).mono ?_
  rintro e w1 ⟨h | h, hB⟩
  · obtain ⟨h1, r, os, rfl, A⟩ := h
    have Z1 := hid (Z.out.on hB)
    have ag := A.argT f1.out
    have ts := A.tsT f1.out
    obtain ⟨L, hL, BL, _, _⟩ := blen_is os ag.2.2.2.2
    rw [A.2.2.2.1] at BL
    have hLe : L = Ie.bl n := BL.unique (by have := Ie.five_pos n; omega) (Ie.bl_is n)
    have BN := hid (bitLen_n L r os.length os.length os w1 ag hL)
    have lb := LB.out
    rw [← hLe] at lb RE RP
    have l0 : (1 : Int) ≤ L := by omega
    have l1 : (L : Int) ≤ 800 := by omega
    obtain ⟨up, hup⟩ : ∃ up : Nat, up = L + 127 := ⟨_, rfl⟩
    rw [← hup] at RP
    have e1 : (L : Int) + 128 - 1 = (up : Int) := by omega
    have AL : Hid (Arg (w1.alloc (.cells #[.int .u64 1] 25)) (some ⟨w1.heap.size, 0, none⟩) 1 1 [1]) := arg_lit9 (heap_alloc_new _ _) (by omega) (by omega)
    have SL : Hid (Calls Tryz.prog 50 #[.slice (some ⟨w1.heap.size, 0, none⟩) 1 1, .int .i64 (up : Int)] (w1.alloc (.cells #[.int .u64 1] 25)) fun e w' => ∃ r os, e = .returned (.tuple #[.slice r (List.length os) (List.length os), .int .i64 0]) ∧ Ans w1.heap.size w' r os (2 ^ up) ∧ Below w1.heap.size w1 w') := by
      obtain ⟨M, hM, BM, _, _⟩ := blen_is (Nm.trim [1]) AL.out.2.2.2.2.trim
      have hv : Nm.val (Nm.trim [1]) = 1 := by decide
      rw [hv] at BM
      have hm : M ≤ 1 := by
        have := BM.2.2 (by omega)
        rcases (show M ≤ 1 ∨ 2 ≤ M by omega) with g | g
        · exact g
        · have := Nm.two_mono (show 1 ≤ M - 1 by omega)
          omega
      refine (shl_ok _ 1 1 [1] (up : Int) up M _ AL.out (by decide) rfl (by decide) hM (by omega)).mono ?_
      rintro e w' ⟨r, os, rfl, A2, hB2⟩
      rw [show Nm.val [1] = 1 by decide, Int.one_mul] at A2
      exact ⟨r, os, rfl, A2.up (alloc_b _ _).size, below_on (alloc_b _ _) hB2⟩
    have GA := hid ag
    have TS := hid ts
    have AA := hid A
    have tp : Hid ((2 : Int) ^ up < Nm.pw 4096) := two_pw (by omega)
    clear hB h1 ag ts hL BL hLe lb LB A AL P5 hup Z
    go_wp2_with fail
    refine BN.out.mono ?_
    rintro e w' ⟨rfl, rfl⟩
    go_wp2_with fail
    refine SL.out.mono ?_
    rintro e w2 ⟨r2, os2, rfl, A2, hB2⟩
    have Z2 := hid (Z1.out.on hB2)
    have DM := hid (divMod_ok r2 r _ _ _ _ os2 os w2 (A2.argT tp.out) (GA.out.below hB2 (Nat.le_refl _)) (A2.tsT tp.out) TS.out (by
      rcases Nat.eq_zero_or_pos (Nm.tsize os) with g | g
      · have := (Nm.tsize_zero_iff GA.out.2.2.2.2).1 g
        have := AA.out.2.2.2.1
        have := Ie.five_pos n
        omega
      · exact g))
    rw [A2.2.2.2.1, AA.out.2.2.2.1] at DM
    clear A2 hB2 SL BN GA TS AA tp f1 Z1
    go_wp2_with fail
    refine DM.out.mono ?_
    rintro e w3 ⟨r3, os3, r4, os4, rfl, A3, _, hB3⟩
    have Z3 := hid (Z2.out.on hB3)
    rw [← RP.out] at A3
    obtain ⟨b, off, rfl, rfl, c0, c1, b0, b1⟩ := A3.two RI.out.lo RI.out.hi
    obtain ⟨⟨d0, d1⟩, g0, g1⟩ := Z3.out.drew.2.cells
    obtain ⟨⟨d0', d1'⟩, g0', g1'⟩ := Z3.out.2.cells
    have k0 : w3.drew.cell? ⟨b, off, none⟩ = some (.int .u64 (lo64 (Ie.rowP (-k)))) := c0
    have k1 : w3.drew.cell? ⟨b, off + 1, none⟩ = some (.int .u64 (hi64 (Ie.rowP (-k)))) := c1
    have ne : b ≠ w.heap.size := by have := Z2.out.2.lt; omega
    have F : Hid (∀ w', Below w.heap.size w w' → RowTold (-k) w (.returned (.tuple #[.agg #[.int .u64 (lo64 (Ie.rowP (-k))), .int .u64 (hi64 (Ie.rowP (-k)))], .int .i64 (-(up : Int))])) w') := fun w' h => ⟨by rw [RE.out, ← e1, show -((L : Int) + 127) = -((L : Int) + 128 - 1) by omega]; rfl, h⟩
    have u0 : (0 : Int) ≤ up := by omega
    have u1 : (up : Int) ≤ 1000 := by omega
    generalize lo64 (Ie.rowP (-k)) = x at *
    generalize hi64 (Ie.rowP (-k)) = y at *
    clear c0 c1 A3 hB3 DM RI RE RP Z2 b0 b1 e1 l0 l1
    go_upto_region 5 with fail
    go_region
    all_goals go_wp2_with fail
    refine bodyPost_ret (results_row_tmp rfl _ _ w.heap.size 52 _ (0, 0) _ rfl (Z3.out.put _ _).drew.2 Tryz.underlying52 rfl (by kernel_rfl)) rfl ?_
    exact F.out _ (Z3.out.put _ _).drew.1
  · exfalso
    have := f1.out
    have := h.1
    omega
set_option maxRecDepth 100000 in
set_option maxHeartbeats 2000000 in
theorem row_any (q : Int) (w : World) (hT : Tab w) (q0 : -342 ≤ q) (q1 : q ≤ 308) :
    Calls Tryz.prog 22 #[.int .i64 q] w fun e w' => RowTold q w e w' := by
  have Z := hid (RR.new w)
  by_cases hq : q < 0
  · have RB := hid (fun wx => rowBelow_any (-q) (-q).toNat wx (by omega) (by omega) (by omega))
    rw [Int.neg_neg] at RB
    clear q1 hT
    go_enter Tryz.func22, Tryz.ntmps22
    go_wp2_with fail
    refine (RB.out _).mono ?_
    rintro e w3 ⟨rfl, hB⟩
    have Z3 := hid (Z.out.on hB)
    have F : Hid (∀ w', Below w.heap.size w w' → RowTold q w (.returned (.tuple #[.agg #[.int .u64 (lo64 (Ie.rowP q)), .int .u64 (hi64 (Ie.rowP q))], .int .i64 (Ie.rowE q)])) w') := fun w' h => ⟨rfl, h⟩
    unfold wideV
    obtain ⟨⟨d0, d1⟩, g0, g1⟩ := Z3.out.2.cells
    generalize lo64 (Ie.rowP q) = x at *
    generalize hi64 (Ie.rowP q) = y at *
    generalize Ie.rowE q = ee at *
    clear hB RB Z
    go_wp2_with fail
    (try simp only [Exit.inBlock, Exit.then])
    refine bodyPost_ret (results_row_tmp rfl _ _ w.heap.size 52 _ (0, 0) _ rfl (Z3.out.put _ _).2 Tryz.underlying52 rfl (by kernel_rfl)) rfl ?_
    exact F.out _ (Z3.out.put _ _).1
  · obtain ⟨n, hn⟩ := Int.eq_ofNat_of_zero_le (show 0 ≤ q by omega)
    have P5 := hid (fun wx => pow5_gives q n wx hn (by omega))
    have f1 := hid (five_pw (show n ≤ 342 by omega))
    have RE : Hid (Ie.rowE q = (Ie.bl n : Int) - 128) := by rw [Hid, Ie.rowE, if_pos (by omega), show q.toNat = n by omega]
    have RI := hid (Ie.row_is (q := q) (by omega) (by omega))
    have LB := hid (Ie.row_len (show n ≤ 342 by omega) (Ie.bl_is n))
    have R1 : Hid (Ie.bl n < 128 → Ie.rowP q = 5 ^ n * 2 ^ (128 - Ie.bl n)) := fun h => by rw [Ie.rowP, if_pos (by omega), show q.toNat = n by omega, if_pos (by omega)]
    have R2 : Hid (128 ≤ Ie.bl n → Ie.rowP q = 5 ^ n / 2 ^ (Ie.bl n - 128)) := fun h => by
      rw [Ie.rowP, if_pos (by omega), show q.toNat = n by omega]
      split
      · rw [show Ie.bl n - 128 = 0 by omega, show 128 - Ie.bl n = 0 by omega]; simp
      · rfl
    have HT := hid hT
    clear hn hT
    have hq0 : 0 ≤ q := by omega
    go_enter Tryz.func22, Tryz.ntmps22
    go_wp2_with fail
    refine (P5.out _).mono ?_
    rintro e w1 ⟨h | h, hB⟩
    · obtain ⟨h1, r, os, rfl, A⟩ := h
      have Z1 := hid (Z.out.on hB)
      have ag := A.argT f1.out
      have ts := A.tsT f1.out
      obtain ⟨L, hL, BL, hL64, _⟩ := blen_is os ag.2.2.2.2
      have tz : 0 < Nm.tsize os := by
        rcases Nat.eq_zero_or_pos (Nm.tsize os) with g | g
        · have := (Nm.tsize_zero_iff ag.2.2.2.2).1 g
          have := A.2.2.2.1
          have := Ie.five_pos n
          omega
        · exact g
      have hLt : blen (Nm.trim os) = (L : Int) := by
        rw [show Nm.trim os = os by unfold Nm.trim; rw [A.2.2.1, List.take_length]]; exact hL
      have hv := A.2.2.2.1
      rw [hv] at BL
      have hLe : L = Ie.bl n := BL.unique (by have := Ie.five_pos n; omega) (Ie.bl_is n)
      have BN := hid (bitLen_n L r os.length os.length os w1 ag hL)
      have lb := LB.out
      rw [← hLe] at lb RE R1 R2
      have l0 : (1 : Int) ≤ L := by omega
      have l1 : (L : Int) ≤ 800 := by omega
      by_cases h128 : L < 128
      · have RP := hid (R1.out h128)
        obtain ⟨kk, hkk⟩ : ∃ kk : Nat, kk = 128 - L := ⟨_, rfl⟩
        rw [← hkk] at RP
        have e1 : -((L : Int) - 128) = (kk : Int) := by omega
        have e2 : (L : Int) - 128 < 0 := by omega
        have SL : Hid (Calls Tryz.prog 50 #[.slice r (List.length os) (List.length os), .int .i64 (kk : Int)] w1 fun e w' => ∃ r os, e = .returned (.tuple #[.slice r (List.length os) (List.length os), .int .i64 0]) ∧ Ans w1.heap.size w' r os (Ie.rowP q) ∧ Below w1.heap.size w1 w') := by
          refine (shl_ok r _ _ os (kk : Int) kk L w1 ag ts rfl tz hLt (by omega)).mono ?_
          rintro e w' ⟨r, os, rfl, A2, hB2⟩
          rw [hv, ← RP.out] at A2
          exact ⟨r, os, rfl, A2, hB2⟩
        clear hB h1 ag ts hL BL hLe lb LB A P5 Z R1 R2 RP hLt hL64 tz hv f1 HT h128 hkk
        go_wp2_with fail
        refine BN.out.mono ?_
        rintro e w' ⟨rfl, rfl⟩
        go_wp2_with fail
        refine SL.out.mono ?_
        rintro e w3 ⟨r2, os2, rfl, A3, hB3⟩
        have Z3 := hid (Z1.out.on hB3)
        obtain ⟨b, off, rfl, rfl, c0, c1, b0, b1⟩ := A3.two RI.out.lo RI.out.hi
        obtain ⟨⟨d0, d1⟩, g0, g1⟩ := Z3.out.drew.2.cells
        obtain ⟨⟨d0', d1'⟩, g0', g1'⟩ := Z3.out.2.cells
        have k0 : w3.drew.cell? ⟨b, off, none⟩ = some (.int .u64 (lo64 (Ie.rowP q))) := c0
        have k1 : w3.drew.cell? ⟨b, off + 1, none⟩ = some (.int .u64 (hi64 (Ie.rowP q))) := c1
        have ne : b ≠ w.heap.size := by have := Z1.out.2.lt; omega
        have F : Hid (∀ w', Below w.heap.size w w' → RowTold q w (.returned (.tuple #[.agg #[.int .u64 (lo64 (Ie.rowP q)), .int .u64 (hi64 (Ie.rowP q))], .int .i64 ((L : Int) - 128)])) w') := fun w' h => ⟨by rw [RE.out]; rfl, h⟩
        generalize lo64 (Ie.rowP q) = x at *
        generalize hi64 (Ie.rowP q) = y at *
        clear c0 c1 A3 hB3 SL RI RE b0 b1 Z1
        go_upto_region 8 with fail
        go_region
        all_goals go_wp2_with fail
        refine bodyPost_ret (results_row_tmp rfl _ _ w.heap.size 52 _ (0, 0) _ rfl (Z3.out.put _ _).drew.2 Tryz.underlying52 rfl (by kernel_rfl)) rfl ?_
        exact F.out _ (Z3.out.put _ _).drew.1
      · have RP := hid (R2.out (by omega))
        obtain ⟨kk, hkk⟩ : ∃ kk : Nat, kk = L - 128 := ⟨_, rfl⟩
        rw [← hkk] at RP
        have e1 : (L : Int) - 128 = (kk : Int) := by omega
        have e2 : ¬ ((L : Int) - 128 < 0) := by omega
        have e3 : (0 : Int) ≤ kk := by omega
        have SL : Hid (Calls Tryz.prog 51 #[.slice r (List.length os) (List.length os), .int .i64 (kk : Int)] w1 fun e w' => ∃ r os b, e = .returned (.tuple #[.slice r (List.length os) (List.length os), .bool b, .int .i64 0]) ∧ Ans w1.heap.size w' r os (Ie.rowP q) ∧ Below w1.heap.size w1 w') := by
          refine (shr_ok r _ _ os (kk : Int) kk L w1 ag (HT.out.below Z1.out.1) ts rfl hLt hL64 (by omega)).mono ?_
          rintro e w' ⟨r, os, rfl, A2, hB2⟩
          rw [hv, ← RP.out] at A2
          exact ⟨r, os, _, rfl, A2, hB2⟩
        clear hB h1 ag ts hL BL hLe lb LB A P5 Z R1 R2 RP hLt hL64 tz hv f1 HT h128 hkk
        go_wp2_with fail
        refine BN.out.mono ?_
        rintro e w' ⟨rfl, rfl⟩
        go_wp2_with fail
        refine SL.out.mono ?_
        rintro e w3 ⟨r2, os2, bb, rfl, A3, hB3⟩
        have Z3 := hid (Z1.out.on hB3)
        obtain ⟨b, off, rfl, rfl, c0, c1, b0, b1⟩ := A3.two RI.out.lo RI.out.hi
        obtain ⟨⟨d0, d1⟩, g0, g1⟩ := Z3.out.drew.2.cells
        obtain ⟨⟨d0', d1'⟩, g0', g1'⟩ := Z3.out.2.cells
        have k0 : w3.drew.cell? ⟨b, off, none⟩ = some (.int .u64 (lo64 (Ie.rowP q))) := c0
        have k1 : w3.drew.cell? ⟨b, off + 1, none⟩ = some (.int .u64 (hi64 (Ie.rowP q))) := c1
        have ne : b ≠ w.heap.size := by have := Z1.out.2.lt; omega
        have F : Hid (∀ w', Below w.heap.size w w' → RowTold q w (.returned (.tuple #[.agg #[.int .u64 (lo64 (Ie.rowP q)), .int .u64 (hi64 (Ie.rowP q))], .int .i64 (kk : Int)])) w') := fun w' h => ⟨by rw [RE.out, e1]; rfl, h⟩
        generalize lo64 (Ie.rowP q) = x at *
        generalize hi64 (Ie.rowP q) = y at *
        clear c0 c1 A3 hB3 SL RI RE b0 b1 Z1
        go_upto_region 8 with fail
        go_region
        all_goals go_wp2_with fail
        refine bodyPost_ret (results_row_tmp rfl _ _ w.heap.size 52 _ (0, 0) _ rfl (Z3.out.put _ _).drew.2 Tryz.underlying52 rfl (by kernel_rfl)) rfl ?_
        exact F.out _ (Z3.out.put _ _).drew.1
    · exfalso
      have := f1.out
      have := h.1
      omega
end Go.Proofs.YthgjflfeilbbbaaGreatDoor

namespace Go.Proofs.YthgjflfeilbbbaaGreatDoor
open Go Go.RowKit Go.Deep

theorem results_tmp4k {fn : Func} {t u v x : Tmp} (h : fn.results = #[.tmp t, .tmp u, .tmp v, .tmp x]) (tmps : Array Value) (P : Program) (w : World) :
    (results fn tmps).run P w = .ok (.tuple #[tmps.getD t undef, tmps.getD u undef, tmps.getD v undef, tmps.getD x undef]) w := by
  simp [results, h]

theorem below_drew {B : Nat} {w w' : World} (h : Below B w w') : Below B w w'.drew := ⟨h.1, h.2, h.3, h.4, h.5⟩

def PowTold (q : Int) (w : World) (e : Ending) (w' : World) : Prop :=
  (((q < -342 ∨ 308 < q) ∧ e = .returned (.tuple #[.int .u64 0, .int .u64 0, .int .i64 0, .int .i64 90])) ∨
    (-342 ≤ q ∧ q ≤ 308 ∧ e = .returned (.tuple #[.int .u64 (hi64 (Ie.rowP q)), .int .u64 (lo64 (Ie.rowP q)), .int .i64 (Ie.rowE q), .int .i64 0]))) ∧ Below w.heap.size w w'

set_option maxRecDepth 100000 in
set_option maxHeartbeats 2000000 in
theorem power_any9 (q : Int) (w : World) (hT : Tab w) :
    Calls Tryz.prog 8 #[.int .i64 q] w fun e w' => PowTold q w e w' := by
  have I := hid (inTable_any q w)
  by_cases h : -342 ≤ q ∧ q ≤ 308
  · have RW := hid (row_any q w hT h.1 h.2)
    rw [decide_eq_true h] at I
    have H := hid h
    clear h hT
    go_enter Tryz.func8, Tryz.ntmps8
    go_wp2_with fail
    refine I.out.mono ?_
    rintro e w' ⟨rfl, rfl⟩
    go_wp2_with fail
    refine RW.out.mono ?_
    rintro e w1 ⟨rfl, hB⟩
    have F : Hid (∀ w2, Below w'.heap.size w' w2 → PowTold q w' (.returned (.tuple #[.int .u64 (hi64 (Ie.rowP q)), .int .u64 (lo64 (Ie.rowP q)), .int .i64 (Ie.rowE q), .int .i64 0])) w2) := fun w2 h => ⟨.inr ⟨H.out.1, H.out.2, rfl⟩, h⟩
    have HB := hid hB
    unfold wideV
    clear hB RW I
    generalize lo64 (Ie.rowP q) = x at *
    generalize hi64 (Ie.rowP q) = y at *
    generalize Ie.rowE q = ee at *
    go_upto_region 4 with fail
    go_region
    all_goals go_wp2_with fail
    (try simp only [Exit.inBlock, Exit.then])
    refine bodyPost_ret (results_tmp4k rfl _ _ _) rfl ?_
    exact F.out _ (below_drew (below_on HB.out (alloc_b _ _)))
  · rw [decide_eq_false h] at I
    have F : Hid (PowTold q w (.returned (.tuple #[.int .u64 0, .int .u64 0, .int .i64 0, .int .i64 90])) w) := ⟨.inl ⟨by omega, rfl⟩, Below.refl _ _⟩
    clear h hT
    go_enter Tryz.func8, Tryz.ntmps8
    go_wp2_with fail
    refine I.out.mono ?_
    rintro e w' ⟨rfl, rfl⟩
    go_wp2_with fail
    (try simp only [Exit.inBlock, Exit.then])
    refine bodyPost_ret (results_tmp4k rfl _ _ _) rfl ?_
    exact F.out

def StepTold (v q : Int) (w : World) (e : Ending) (w' : World) : Prop := ∃ x s, e = .returned (.tuple #[.int .u64 x, .bool s]) ∧ Ie.Stq v q x s ∧ Below w.heap.size w w'

/-- One product in its box. -/
def OP (w wx : World) (g : Nat) (a b c : Int) : Prop := Below w.heap.size w wx ∧ At3 wx g a b c
theorem OP.on {w wx wy : World} {g : Nat} {a b c : Int} (h : OP w wx g a b c) (k : Below wx.heap.size wx wy) : OP w wy g a b c := ⟨below_on h.1 k, h.2.below k h.2.lt⟩
theorem OP.new {w w1 : World} (h : Below w.heap.size w w1) (a b c : Int) : OP w (w1.alloc (.cells #[.int .u64 a, .int .u64 b, .int .u64 c] 56)) w1.heap.size a b c := ⟨below_on h (alloc_b _ _), heap_alloc_new _ _⟩

theorem head_same {a b c x y z v P e A : Int} (ha : Bd a ∧ Bd b ∧ Bd c) (hx : Bd x ∧ Bd y ∧ Bd z) (hn : n3 x y z = n3 a b c + v) (v0 : 0 < v) (hp : n3 a b c = v * P) (hP : 170141183460469231731687303715884105728 ≤ P) (h : a ≠ 0 ∧ b = y ∧ c = z)
    (hr : Ie.Rnd (n3 a b c) 1 e false A) : Ie.Rnd (n3 x y z) 1 e false A := by
  have hm : P ≤ v * P := by have := Int.mul_le_mul_of_nonneg_right (show 1 ≤ v by omega) (show 0 ≤ P by omega); rw [Int.one_mul] at this; exact this
  obtain ⟨h0, rfl, rfl⟩ := h
  unfold Bd at *
  have e1 : n3 a b c = (b + 18446744073709551616 * c) * 18446744073709551616 + a := by unfold n3; omega
  have e2 : n3 x b c = (b + 18446744073709551616 * c) * 18446744073709551616 + x := by unfold n3; omega
  have hxa : x = a + v := by unfold n3 at hn; omega
  have hh : 18014398509481984 ≤ b + 18446744073709551616 * c := by rw [← hp, e1] at hm; omega
  rw [e1] at hr
  rw [e2]
  exact Ie.head_rnd hh (by omega) (by omega) (by omega) (by omega) hr

set_option maxRecDepth 100000 in
set_option maxHeartbeats 1000000 in
theorem step_any9 (v q : Int) (w : World) (hT : Tab w) (hv : Bd v) :
    Calls Tryz.prog 9 #[.int .u64 v, .int .i64 q] w fun e w' => StepTold v q w e w' := by
  by_cases h0 : v = 0
  · subst h0
    have F : Hid (StepTold 0 q w (.returned (.tuple #[.int .u64 0, .bool true])) w) := ⟨0, true, rfl, .inl ⟨rfl, rfl, rfl⟩, Below.refl _ _⟩
    clear hv hT
    go_enter Tryz.func9, Tryz.ntmps9
    go_wp2_with fail
    go_ret2
    exact F.out
  have v0 : (v == 0) = false := by rw [beq_eq_false_iff_ne]; exact h0
  have vp : 0 < v := by have := hv.1; omega
  have I := hid (inTable_any q w)
  by_cases h : -342 ≤ q ∧ q ≤ 308
  · have RW := hid (row_any q w hT h.1 h.2)
    have RI := hid (Ie.row_is h.1 h.2)
    have bs := bd_split (P := Ie.rowP q) (by have := RI.out.lo; omega) RI.out.hi
    have TM := hid (fun wx => ptimes_any v (lo64 (Ie.rowP q)) (hi64 (Ie.rowP q)) wx hv bs.1 bs.2)
    rw [n2_split] at TM
    rw [decide_eq_true h] at I
    have EX := hid (fun wx => exact_any9 q wx)
    have HT := hid hT
    have HV := hid hv
    have VP := hid vp
    have PR := hid (fun (a b c : Int) (wx : World) (hb : Below w.heap.size w wx) (hh : Bd a ∧ Bd b ∧ Bd c) => pround_any a b c (Ie.rowE q + q) wx (hT.below hb) hh)
    have PL := hid (fun (a b c : Int) (wx : World) (hh : Bd a ∧ Bd b ∧ Bd c) hn => pplus_any a b c v wx hh.1 hh.2.1 hh.2.2 hv hn)
    have SD := hid (fun (a b c x y z : Int) (wx : World) => same_any9 a b c x y z wx)
    have eb := RI.out.eb
    have F1 : Hid (∀ A w', 0 ≤ q ∧ q ≤ 55 → Ie.Rnd (v * Ie.rowP q) 1 (Ie.rowE q + q) false A → Below w.heap.size w w' → StepTold v q w (.returned (.tuple #[.int .u64 A, .bool true])) w') := fun A w' g r b => ⟨A, true, rfl, .inr (.inr ⟨vp, h.1, h.2, A, A, r, .inl ⟨g.1, g.2, rfl⟩, .inl ⟨rfl, rfl, rfl⟩⟩), b⟩
    have F2 : Hid (∀ A w', ¬ (0 ≤ q ∧ q ≤ 55) → Ie.Rnd (v * Ie.rowP q) 1 (Ie.rowE q + q) false A → Ie.Rnd (v * (Ie.rowP q + 1)) 1 (Ie.rowE q + q) false A → Below w.heap.size w w' → StepTold v q w (.returned (.tuple #[.int .u64 A, .bool true])) w') := fun A w' g r r2 b => ⟨A, true, rfl, .inr (.inr ⟨vp, h.1, h.2, A, A, r, .inr ⟨by omega, r2⟩, .inl ⟨rfl, rfl, rfl⟩⟩), b⟩
    have F3 : Hid (∀ A B w', ¬ (0 ≤ q ∧ q ≤ 55) → Ie.Rnd (v * Ie.rowP q) 1 (Ie.rowE q + q) false A → Ie.Rnd (v * (Ie.rowP q + 1)) 1 (Ie.rowE q + q) false B → A ≠ B → Below w.heap.size w w' → StepTold v q w (.returned (.tuple #[.int .u64 0, .bool false])) w') := fun A B w' g r r2 ne b => ⟨0, false, rfl, .inr (.inr ⟨vp, h.1, h.2, A, B, r, .inr ⟨by omega, r2⟩, .inr ⟨ne, rfl, rfl⟩⟩), b⟩
    have q0 := h.1
    have q1 := h.2
    have HS : Hid (∀ a b c x y z A, Bd a ∧ Bd b ∧ Bd c → Bd x ∧ Bd y ∧ Bd z → n3 x y z = n3 a b c + v → n3 a b c = v * Ie.rowP q → a ≠ 0 ∧ b = y ∧ c = z → Ie.Rnd (n3 a b c) 1 (Ie.rowE q + q) false A → Ie.Rnd (n3 x y z) 1 (Ie.rowE q + q) false A) := fun a b c x y z A k1 k2 k3 k4 k5 k6 => head_same k1 k2 k3 vp k4 RI.out.lo k5 k6
    have HN : Hid (∀ N : Int, N = v * Ie.rowP q → N + v < 6277101735386680763835789423207666416102355444464034512896 ∧ N + v = v * (Ie.rowP q + 1)) := fun N hN => by
      have hP := RI.out.hi
      have e1 : N + v = v * (Ie.rowP q + 1) := by rw [hN, Int.mul_add, Int.mul_one]
      refine ⟨?_, e1⟩
      rw [e1]
      have g1 : v * (Ie.rowP q + 1) ≤ v * 340282366920938463463374607431768211456 := Int.mul_le_mul_of_nonneg_left (by omega) (by omega)
      have := hv.2
      omega
    clear h hT hv bs RI vp h0
    go_enter Tryz.func9, Tryz.ntmps9
    go_wp2_with fail
    refine I.out.mono ?_
    rintro e w' ⟨rfl, rfl⟩
    go_wp2_with fail
    refine RW.out.mono ?_
    rintro e w1 ⟨rfl, hB1⟩
    generalize Ie.rowE q = ee at *
    generalize Ie.rowP q = P at *
    have HB1 := hid hB1
    unfold wideV at *
    clear RW I hB1
    go_wp2_with fail
    with_reducible refine (TM.out _).mono ?_
    rintro e w2 ⟨a, b, c, rfl, hbd, hn, hB2⟩
    have O2 := hid (OP.new (below_on (below_on HB1.out (alloc_b _ _)) hB2) a b c)
    have BD := hid hbd
    have NN := hid hn
    unfold prodV at *
    clear hB2 hbd hn TM HB1
    go_upto_region 7 with fail
    generalize (w2.alloc (.cells #[.int .u64 a, .int .u64 b, .int .u64 c] 56)) = w3 at *
    obtain ⟨⟨d0, d1, d2⟩, _⟩ := O2.out.2.cells
    go_wp2_with fail
    have ob := O2.out.1
    with_reducible refine (PR.out a b c _ ob BD.out).mono ?_
    rintro e w4 ⟨A, rfl, hA, hB4⟩
    clear ob
    have O4 := hid (O2.out.on hB4)
    rw [NN.out] at hA
    have HA := hid hA
    clear hB4 d0 d1 d2 hA O2
    go_wp2_with fail
    refine (EX.out _).mono ?_
    rintro e w5 ⟨rfl, rfl⟩
    by_cases hx : 0 ≤ q ∧ q ≤ 55
    · rw [decide_eq_true hx]
      have FF := hid (F1.out A w5 hx HA.out O4.out.1)
      clear hx F1 F2 F3
      go_wp2_with fail
      go_ret2
      exact FF.out
    · rw [decide_eq_false hx]
      have HX := hid hx
      obtain ⟨⟨d0, d1, d2⟩, _⟩ := O4.out.2.cells
      clear hx
      go_wp2_with fail
      refine (PL.out a b c _ BD.out (HN.out _ NN.out).1).mono ?_
      rintro e w6 ⟨x, y, z, rfl, hbx, hnx, hB6⟩
      have O6 := hid (O4.out.on hB6)
      have O7 := hid (O6.out.on (alloc_b w6 (.cells #[.int .u64 x, .int .u64 y, .int .u64 z] 56)))
      have P7 := hid (OP.new O6.out.1 x y z)
      have BX := hid hbx
      have NX := hid hnx
      clear hB6 hbx hnx d0 d1 d2 O6 O4
      go_upto_region 11 with fail
      generalize (w6.alloc (.cells #[.int .u64 x, .int .u64 y, .int .u64 z] 56)) = w7 at *
      obtain ⟨⟨d0, d1, d2⟩, _⟩ := O7.out.2.cells
      obtain ⟨⟨p0, p1, p2⟩, _⟩ := P7.out.2.cells
      go_wp2_with fail
      with_reducible refine (SD.out a b c x y z _).mono ?_
      rintro e w8 ⟨rfl, hB8⟩
      have P8 := hid (P7.out.on hB8)
      have S1 : Hid (a ≠ 0 ∧ b = y ∧ c = z → Ie.Rnd (v * (P + 1)) 1 (ee + q) false A) := fun g => by
        have := HS.out a b c x y z A BD.out BX.out NX.out NN.out g (by rw [NN.out]; exact HA.out)
        rw [NX.out, (HN.out _ NN.out).2] at this
        exact this
      clear d0 d1 d2 p0 p1 p2 hB8 O7 P7
      obtain ⟨⟨p0, p1, p2⟩, _⟩ := P8.out.2.cells
      obtain ⟨sb, hsb⟩ : ∃ sb, decide (a ≠ 0 ∧ b = y ∧ c = z) = sb := ⟨_, rfl⟩
      rw [hsb]
      cases sb with
      | true =>
        have FF := hid (F2.out A w8 HX.out HA.out (S1.out (of_decide_eq_true hsb)) P8.out.1)
        clear hsb F1 F2 F3 S1
        go_wp2_with fail
        go_ret2
        exact FF.out
      | false =>
        clear hsb
        go_wp2_with fail
        have ob := P8.out.1
        with_reducible refine (PR.out x y z _ ob BX.out).mono ?_
        rintro e w9 ⟨B, rfl, hR, hB9⟩
        clear ob
        rw [NX.out, (HN.out _ NN.out).2] at hR
        by_cases hAB : B = A
        · subst hAB
          have FF := hid (F2.out B w9 HX.out HA.out hR (below_on P8.out.1 hB9))
          clear hR hB9 F1 F2 F3 S1 p0 p1 p2
          go_wp2_with fail
          go_ret2
          exact FF.out
        · have FF := hid (F3.out A B w9 HX.out HA.out hR (fun g => hAB g.symm) (below_on P8.out.1 hB9))
          have hne : (B == A) = false := by rw [beq_eq_false_iff_ne]; exact hAB
          clear hR hB9 F1 F2 F3 S1 p0 p1 p2
          go_wp2_with fail
          go_ret2
          exact FF.out
  · rw [decide_eq_false h] at I
    have F : Hid (StepTold v q w (.returned (.tuple #[.int .u64 0, .bool false])) w) := ⟨0, false, rfl, .inr (.inl ⟨vp, by omega, rfl, rfl⟩), Below.refl _ _⟩
    clear h hT hv vp
    go_enter Tryz.func9, Tryz.ntmps9
    go_wp2_with fail
    refine I.out.mono ?_
    rintro e w' ⟨rfl, rfl⟩
    go_wp2_with fail
    go_ret2
    exact F.out
end Go.Proofs.YthgjflfeilbbbaaGreatDoor

namespace Go.Proofs.YthgjflfeilbbbaaGreatDoor
open Go.RowKit Go.Deep

set_option maxRecDepth 20000 in
set_option maxHeartbeats 4000000 in
theorem plus_any (p q : Option Addr) (n cap m cap' : Nat) (za zb : List Int) (w : World) (ha : Arg w p n cap za) (hb : Arg w q m cap' zb) (hn : Nm.tsize za ≤ 1099511627776) (hm : Nm.tsize zb ≤ 1099511627776) :
    Calls Tryz.prog 102 #[.slice p n cap, .slice q m cap'] w fun e w' => ∃ r os, e = .returned (.slice r (List.length os) (List.length os)) ∧ Ans w.heap.size w' r os (Nm.val za + Nm.val zb) ∧ Below w.heap.size w w' := by
  have HA := hid ha
  have HB0 := hid hb
  clear ha hb
  go_enter Tryz.func102, Tryz.ntmps102
  go_wp2_with fail
  refine (halves_any p n cap za _ HA.out (by have := HA.out.2.1; have := HA.out.2.2.1; omega)).mono ?_
  rintro e w1 ⟨xs, rfl, lx, hx, vx, kx, bx⟩
  have HB1 := hid (HB0.out.below bx (Nat.le_refl _))
  have D1 := hid bx
  obtain ⟨l1, LX⟩ : ∃ l1, Hid (xs.length = l1) := ⟨_, rfl⟩
  have LX0 := hid lx
  have HX := hid hx
  have VX := hid vx
  have kx1 : l1 ≤ 2 * Nm.tsize za := by have := LX.out; omega
  rw [LX.out]
  clear lx hx vx kx bx HB0
  go_wp2_with fail
  refine (halves_any q m cap' zb _ HB1.out (by have := HB1.out.2.1; have := HB1.out.2.2.1; omega)).mono ?_
  rintro e w2 ⟨ys, rfl, ly, hy, vy, ky, by_⟩
  have D2 := hid (chain D1.out by_ (Nat.le_refl _))
  obtain ⟨l2, LY⟩ : ∃ l2, Hid (ys.length = l2) := ⟨_, rfl⟩
  have HY := hid hy
  have VY := hid vy
  have ky1 : l2 ≤ 2 * Nm.tsize zb := by have := LY.out; omega
  obtain ⟨g1, G1⟩ : ∃ g1, w.heap.size = g1 := ⟨_, rfl⟩
  obtain ⟨g2, G2⟩ : ∃ g2, w1.heap.size = g2 := ⟨_, rfl⟩
  have LX2 := LX0.out.below by_ (Nat.le_refl _)
  rw [G1] at LX2
  have ly2 := ly
  rw [G2] at ly2
  have CX : Hid (∀ i, i < l1 → w2.cell? ⟨g1, i, none⟩ = some (.int .u64 (xs.getD i 0))) := fun i hi => by have := LX2.cells i (by have := LX.out; omega); rwa [Nat.zero_add] at this
  have CY : Hid (∀ i, i < l2 → w2.cell? ⟨g2, i, none⟩ = some (.int .u64 (ys.getD i 0))) := fun i hi => by have := ly2.cells i (by have := LY.out; omega); rwa [Nat.zero_add] at this
  obtain ⟨g, Gg⟩ : ∃ g, Hid (w2.heap.size = g) := ⟨_, rfl⟩
  have BX : Hid (∀ {j : Nat}, j < l1 → g1 < g) := fun {j} hj => by rw [← Gg.out]; exact cell_lt (CX.out j hj)
  have BY : Hid (∀ {j : Nat}, j < l2 → g2 < g) := fun {j} hj => by rw [← Gg.out]; exact cell_lt (CY.out j hj)
  rw [LY.out, G1, G2]
  clear ly hy vy ky by_ LX0 LX2 ly2 HB1 D1 G2
  obtain ⟨C, HC⟩ : ∃ C, Hid (l1 + l2 + 1 = C) := ⟨_, rfl⟩
  have hmk := make64_room (l1 + l2 + 1) (by omega) w2
  rw [show ((l1 + l2 + 1 : Nat) : Int) = (l1 : Int) + (l2 : Int) + 1 by omega, HC.out, Gg.out] at hmk
  have bm := hid ((Below.refl w2.heap.size w2).alloc (Nat.le_refl _) (.cells (madeCells #[.int .u64 0] C) 25))
  have gm := hid (Grown.made w2 C)
  rw [Gg.out] at bm gm
  generalize w2.alloc (.cells (madeCells #[.int .u64 0] C) 25) = wm at hmk bm gm
  have hCb : C ≤ 35184372088832 := by have := HC.out; omega
  go_wp2
  clear hmk
  go_loopw [7, 8, 9] (fun a c i wr => ∃ (j : Nat) (cc : Int) (ss : List Int), j ≤ l1 + l2 ∧ j + 1 ≤ C ∧ i = .int .i64 j ∧ a = .slice (some ⟨g, 0, none⟩) j C ∧ c = .int .u64 cc ∧ 0 ≤ cc ∧ cc ≤ 1 ∧ Hid (Grown wr g ss (C - j)) ∧ Hid (ss.length = j) ∧ Hid (Nm.Halves ss) ∧ Hid (Nm.v32 ss + Nm.p32 j * cc = Nm.v32 (xs.take j) + Nm.v32 (ys.take j)) ∧ Below g w2 wr) (fun _ _ i _ => l1 + l2 - (intOf i).toNat)
  case atStart => exact ⟨0, 0, [], Nat.zero_le _, by have := HC.out; omega, rfl, rfl, rfl, by omega, by omega, gm.out, rfl, Nm.Halves.nil, rfl, bm.out⟩
  case round =>
    obtain ⟨j, cc, ss, hj, hjC, rfl, rfl, rfl, hc0, hc1, G, L, HS, V, hB⟩ := hrel
    have G' := G.out
    rw [show C - j = (C - j - 1) + 1 by omega] at G'
    by_cases h1 : j < l1
    · have hj2 : j + 1 ≤ l1 + l2 := by omega
      have hj3 : j + 1 + 1 ≤ C := by have := HC.out; omega
      by_cases h2 : j < l2
      · skip
        obtain ⟨x, hx, X⟩ : ∃ x, wr.cell? ⟨g1, j, none⟩ = some (.int .u64 x) ∧ Hid (x = xs.getD j 0) := ⟨_, (hB.cell (p := ⟨g1, j, none⟩) (BX.out h1)).trans (CX.out j h1), rfl⟩
        have hx0 : 0 ≤ x := by have := HX.out.at j; have := X.out; omega
        have hx1 : x < 4294967296 := by have := HX.out.at j; have := X.out; omega
        have h1' : (j : Int) < (l1 : Int) := by omega
        obtain ⟨y, hy, Y⟩ : ∃ y, wr.cell? ⟨g2, j, none⟩ = some (.int .u64 y) ∧ Hid (y = ys.getD j 0) := ⟨_, (hB.cell (p := ⟨g2, j, none⟩) (BY.out h2)).trans (CY.out j h2), rfl⟩
        have hy0 : 0 ≤ y := by have := HY.out.at j; have := Y.out; omega
        have hy1 : y < 4294967296 := by have := HY.out.at j; have := Y.out; omega
        have h2' : (j : Int) < (l2 : Int) := by omega
        obtain ⟨c1, hc1, C1⟩ : ∃ c1, IntKind.u64.wrap (cc + x) = c1 ∧ Hid (c1 = cc + x) := ⟨_, by rw [IntKind.wrap_u64, Int.emod_eq_of_lt (by omega) (by omega)], rfl⟩
        have hc10 : 0 ≤ c1 := by have := C1.out; omega
        have hc11 : c1 ≤ 4294967296 := by have := C1.out; omega
        obtain ⟨c2, hc2, C2⟩ : ∃ c2, IntKind.u64.wrap (c1 + y) = c2 ∧ Hid (c2 = c1 + y) := ⟨_, by rw [IntKind.wrap_u64, Int.emod_eq_of_lt (by omega) (by omega)], rfl⟩
        have hc20 : 0 ≤ c2 := by have := C2.out; omega
        have hc21 : c2 ≤ 8589934592 := by have := C2.out; omega
        have TOT : Hid (c2 = cc + x + y) := by have := C1.out; have := C2.out; show _ = _; omega
        obtain ⟨lo, hlo, LO⟩ : ∃ lo, bits .and .u64 c2 4294967295 = lo ∧ Hid (lo = c2 % 4294967296) := ⟨_, r_mask32 c2 (by omega) (by omega), rfl⟩
        obtain ⟨hi, hhi, HI⟩ : ∃ hi, c2 / 4294967296 = hi ∧ Hid (hi = c2 / 4294967296) := ⟨_, rfl, rfl⟩
        have hi0 : 0 ≤ hi := by omega
        have hi1 : hi ≤ 1 := by have := TOT.out; have := HX.out.at j; have := HY.out.at j; have := X.out; have := Y.out; omega
        obtain ⟨w2, ap, gr, be, sz⟩ := push64 g j (C - j - 1) C ss lo wr L.out (by omega) G'
        have AP := hid ap
        have GR := hid gr
        have BE := hid (hB.trans be)
        have BLO : Hid (0 ≤ lo ∧ lo < 4294967296) := by have := LO.out; show _ ∧ _; omega
        clear ap gr be sz hB G G'
        go_wp2_with (at_builtin; refine wpList_append_row rfl _ _ rfl AP.out (by rfl) (by rfl) ?_; clear AP)
        go_roundw
        case rel =>
          refine ⟨j + 1, hi, ss ++ [lo], by omega, by omega, by go_num, rfl, rfl, hi0, hi1, GR.out, ?_, HS.out.snoc BLO.out.1 BLO.out.2, ?_, BE.out⟩
          · have := L.out; simp only [Hid, List.length_append, List.length_cons, List.length_nil]; omega
          · exact Nm.plus_step L.out V.out (by rw [← X.out, ← Y.out, ← TOT.out, LO.out, HI.out]; omega)
        case measure => simp [intOf]; omega
      · skip
        obtain ⟨x, hx, X⟩ : ∃ x, wr.cell? ⟨g1, j, none⟩ = some (.int .u64 x) ∧ Hid (x = xs.getD j 0) := ⟨_, (hB.cell (p := ⟨g1, j, none⟩) (BX.out h1)).trans (CX.out j h1), rfl⟩
        have hx0 : 0 ≤ x := by have := HX.out.at j; have := X.out; omega
        have hx1 : x < 4294967296 := by have := HX.out.at j; have := X.out; omega
        have h1' : (j : Int) < (l1 : Int) := by omega
        obtain ⟨y, hy0, Y⟩ : ∃ y : Int, y = 0 ∧ Hid (y = ys.getD j 0) := ⟨0, rfl, by simp [Hid, List.getD, List.getElem?_eq_none (show ys.length ≤ j by have := LY.out; omega)]⟩
        have h2' : ¬ (j : Int) < (l2 : Int) := by omega
        obtain ⟨c1, hc1, C1⟩ : ∃ c1, IntKind.u64.wrap (cc + x) = c1 ∧ Hid (c1 = cc + x) := ⟨_, by rw [IntKind.wrap_u64, Int.emod_eq_of_lt (by omega) (by omega)], rfl⟩
        have hc10 : 0 ≤ c1 := by have := C1.out; omega
        have hc11 : c1 ≤ 4294967296 := by have := C1.out; omega
        have TOT : Hid (c1 = cc + x + y) := by have := C1.out; show _ = _; omega
        obtain ⟨lo, hlo, LO⟩ : ∃ lo, bits .and .u64 c1 4294967295 = lo ∧ Hid (lo = c1 % 4294967296) := ⟨_, r_mask32 c1 (by omega) (by omega), rfl⟩
        obtain ⟨hi, hhi, HI⟩ : ∃ hi, c1 / 4294967296 = hi ∧ Hid (hi = c1 / 4294967296) := ⟨_, rfl, rfl⟩
        have hi0 : 0 ≤ hi := by omega
        have hi1 : hi ≤ 1 := by have := TOT.out; have := HX.out.at j; have := HY.out.at j; have := X.out; have := Y.out; omega
        obtain ⟨w2, ap, gr, be, sz⟩ := push64 g j (C - j - 1) C ss lo wr L.out (by omega) G'
        have AP := hid ap
        have GR := hid gr
        have BE := hid (hB.trans be)
        have BLO : Hid (0 ≤ lo ∧ lo < 4294967296) := by have := LO.out; show _ ∧ _; omega
        clear ap gr be sz hB G G'
        go_wp2_with (at_builtin; refine wpList_append_row rfl _ _ rfl AP.out (by rfl) (by rfl) ?_; clear AP)
        go_roundw
        case rel =>
          refine ⟨j + 1, hi, ss ++ [lo], by omega, by omega, by go_num, rfl, rfl, hi0, hi1, GR.out, ?_, HS.out.snoc BLO.out.1 BLO.out.2, ?_, BE.out⟩
          · have := L.out; simp only [Hid, List.length_append, List.length_cons, List.length_nil]; omega
          · exact Nm.plus_step L.out V.out (by rw [← X.out, ← Y.out, ← TOT.out, LO.out, HI.out]; omega)
        case measure => simp [intOf]; omega
    · by_cases h2 : j < l2
      · have hj2 : j + 1 ≤ l1 + l2 := by omega
        have hj3 : j + 1 + 1 ≤ C := by have := HC.out; omega
        obtain ⟨x, hx0, X⟩ : ∃ x : Int, x = 0 ∧ Hid (x = xs.getD j 0) := ⟨0, rfl, by simp [Hid, List.getD, List.getElem?_eq_none (show xs.length ≤ j by have := LX.out; omega)]⟩
        have h1' : ¬ (j : Int) < (l1 : Int) := by omega
        obtain ⟨y, hy, Y⟩ : ∃ y, wr.cell? ⟨g2, j, none⟩ = some (.int .u64 y) ∧ Hid (y = ys.getD j 0) := ⟨_, (hB.cell (p := ⟨g2, j, none⟩) (BY.out h2)).trans (CY.out j h2), rfl⟩
        have hy0 : 0 ≤ y := by have := HY.out.at j; have := Y.out; omega
        have hy1 : y < 4294967296 := by have := HY.out.at j; have := Y.out; omega
        have h2' : (j : Int) < (l2 : Int) := by omega
        obtain ⟨c2, hc2, C2⟩ : ∃ c2, IntKind.u64.wrap (cc + y) = c2 ∧ Hid (c2 = cc + y) := ⟨_, by rw [IntKind.wrap_u64, Int.emod_eq_of_lt (by omega) (by omega)], rfl⟩
        have hc20 : 0 ≤ c2 := by have := C2.out; omega
        have hc21 : c2 ≤ 8589934592 := by have := C2.out; omega
        have TOT : Hid (c2 = cc + x + y) := by have := C2.out; show _ = _; omega
        obtain ⟨lo, hlo, LO⟩ : ∃ lo, bits .and .u64 c2 4294967295 = lo ∧ Hid (lo = c2 % 4294967296) := ⟨_, r_mask32 c2 (by omega) (by omega), rfl⟩
        obtain ⟨hi, hhi, HI⟩ : ∃ hi, c2 / 4294967296 = hi ∧ Hid (hi = c2 / 4294967296) := ⟨_, rfl, rfl⟩
        have hi0 : 0 ≤ hi := by omega
        have hi1 : hi ≤ 1 := by have := TOT.out; have := HX.out.at j; have := HY.out.at j; have := X.out; have := Y.out; omega
        obtain ⟨w2, ap, gr, be, sz⟩ := push64 g j (C - j - 1) C ss lo wr L.out (by omega) G'
        have AP := hid ap
        have GR := hid gr
        have BE := hid (hB.trans be)
        have BLO : Hid (0 ≤ lo ∧ lo < 4294967296) := by have := LO.out; show _ ∧ _; omega
        clear ap gr be sz hB G G'
        go_wp2_with (at_builtin; refine wpList_append_row rfl _ _ rfl AP.out (by rfl) (by rfl) ?_; clear AP)
        go_roundw
        case rel =>
          refine ⟨j + 1, hi, ss ++ [lo], by omega, by omega, by go_num, rfl, rfl, hi0, hi1, GR.out, ?_, HS.out.snoc BLO.out.1 BLO.out.2, ?_, BE.out⟩
          · have := L.out; simp only [Hid, List.length_append, List.length_cons, List.length_nil]; omega
          · exact Nm.plus_step L.out V.out (by rw [← X.out, ← Y.out, ← TOT.out, LO.out, HI.out]; omega)
        case measure => simp [intOf]; omega
      · have h1' : ¬ (j : Int) < (l1 : Int) := by omega
        have h2' : ¬ (j : Int) < (l2 : Int) := by omega
        obtain ⟨w3, ap, gr, be, sz⟩ := push64 g j (C - j - 1) C ss cc wr L.out (by omega) G'
        have AP := hid ap
        have D3 := hid (chain D2.out (by rw [Gg.out]; exact hB.trans be) (Nat.le_refl _))
        have VV : Hid (Nm.v32 (ss ++ [cc]) = Nm.val za + Nm.val zb) := by
          have := V.out
          rw [List.take_of_length_le (by have := LX.out; omega), List.take_of_length_le (by have := LY.out; omega), VX.out, VY.out] at this
          rw [Hid, Nm.v32_snoc, L.out]
          exact this
        have HS2 := hid (HS.out.snoc hc0 (by omega : cc < 4294967296))
        have AG : Hid (Arg w3 (some ⟨g, 0, none⟩) (j + 1) C (ss ++ [cc])) := ⟨by simp [L.out], by omega, by have := HC.out; omega, gr.lies, HS2.out.limbs⟩
        have hw3 : Hid (w.heap.size ≤ w3.heap.size) := D3.out.size
        clear ap gr be sz hB G G'
        go_wp2_with (at_builtin; refine wpList_append_row rfl _ _ rfl AP.out (by rfl) (by rfl) ?_; clear AP)
        refine (rlimbs_any _ (j + 1) C (ss ++ [cc]) _ AG.out HS2.out).mono ?_
        rintro e w4 ⟨r, os, rfl, hA, hb⟩
        rw [VV.out] at hA
        have A4 := hid (hA.mono hw3.out)
        have D4 := hid (chain D3.out hb (Nat.le_refl _))
        clear hA hb
        go_wp2
        go_ret
        exact ⟨r, os, rfl, A4.out, D4.out⟩
end Go.Proofs.YthgjflfeilbbbaaGreatDoor

namespace Go.Proofs.YthgjflfeilbbbaaGreatDoor
open Go Go.RowKit Go.Deep

set_option maxRecDepth 100000 in
theorem zput_any (neg : Bool) (e f : Int) (w : World) (e0 : 0 ≤ e) (e1 : e ≤ 2047) (f0 : 0 ≤ f) (f1 : f ≤ 9007199254740992) (h : e * 4503599627370496 + f < 9223372036854775808) :
    Calls Tryz.prog 97 #[.bool neg, .int .i64 e, .int .u64 f] w fun r w' => r = .returned (.int .u64 (Ie.sg neg (e * 4503599627370496 + f))) ∧ w' = w := by
  cases neg
  · go_enter Tryz.func97, Tryz.ntmps97
    go_wp2
    go_ret
    exact ⟨rfl, rfl⟩
  · go_enter Tryz.func97, Tryz.ntmps97
    go_wp2
    go_ret
    exact ⟨rfl, rfl⟩

end Go.Proofs.YthgjflfeilbbbaaGreatDoor

namespace Go.Proofs.YthgjflfeilbbbaaGreatDoor
open Go.RowKit Go.Deep


theorem refBit_neg (p : Option Addr) (n cap : Nat) (i : Int) (w : World) (hi : i < 0) :
    Calls Tryz.prog 98 #[.slice p n cap, .int .i64 i] w fun e w' => e = .returned (.int .i64 0) ∧ w' = w := by
  go_enter Tryz.func98, Tryz.ntmps98
  go_wp2
  go_ret
  exact ⟨rfl, rfl⟩

set_option maxRecDepth 20000 in
set_option maxRecDepth 100000 in
set_option maxHeartbeats 2000000 in
theorem refBit_any (p : Option Addr) (n cap : Nat) (zs : List Int) (i : Nat) (ii : Int) (w : World) (ha : Arg w p n cap zs) (hi : ii ≤ 9223372036854775807) (hii : ii = (i : Int)) :
    Calls Tryz.prog 98 #[.slice p n cap, .int .i64 ii] w fun e w' => e = .returned (.int .i64 (Nm.val zs / 2 ^ i % 2)) ∧ w' = w := by
  obtain ⟨a1, a2, a3, a4, a5⟩ := ha
  have hi0 : 0 ≤ ii := by omega
  have hi0' : ¬ ii < 0 := by omega
  obtain ⟨k, HK⟩ : ∃ k : Nat, Hid (ii / 64 = (k : Int) ∧ k = i / 64) := ⟨i / 64, by show _ ∧ _; omega⟩
  obtain ⟨r, HR⟩ : ∃ r : Nat, Hid (ii % 64 = (r : Int) ∧ r = i % 64) := ⟨i % 64, by show _ ∧ _; omega⟩
  have hr : r ≤ 63 := by have := HR.out; omega
  by_cases hk : n ≤ k
  · have hk' : (n : Int) ≤ ii / 64 := by have := HK.out; omega
    have E : Hid (0 = Nm.val zs / 2 ^ i % 2) := by
      have h1 := Nm.val_bd zs a5
      rw [a1, Nm.pw_two] at h1
      have h2 := Nm.two_mono (show 64 * n ≤ i by have := HK.out; omega)
      rw [Hid, Int.ediv_eq_zero_of_lt h1.1 (by omega)]
      rfl
    clear hii
    go_enter Tryz.func98, Tryz.ntmps98
    go_wp2
    go_ret
    exact ⟨ret_i64 E.out, rfl⟩
  · have hk' : ¬ (n : Int) ≤ ii / 64 := by have := HK.out; omega
    obtain ⟨b, off, rfl, hbw, HC⟩ := a4.at (by omega)
    obtain ⟨x0, hx, X⟩ : ∃ x0, w.cell? ⟨b, off + k, none⟩ = some (.int .u64 x0) ∧ Hid (x0 = zs.getD k 0) := ⟨_, HC.out k (by omega), rfl⟩
    have hx0 : 0 ≤ x0 := by have := a5.at k; have := X.out; omega
    have hx1 : x0 < 18446744073709551616 := by have := a5.at k; have := X.out; omega
    have E : Hid (x0 / 2 ^ r % 2 = Nm.val zs / 2 ^ i % 2) := by
      rw [Hid, X.out]
      exact (Nm.bit_at zs i k r (by have := HK.out; have := HR.out; omega) (by omega) a5 (by omega)).symm
    have hq : ii / 64 = (k : Int) := HK.out.1
    have hkn : (k : Int) < (n : Int) := by omega
    have hkn' : ¬ (n : Int) ≤ (k : Int) := by omega
    clear hii a4
    go_enter Tryz.func98, Tryz.ntmps98
    go_wp2
    clear hq
    go_loop [5, 6] (fun y t => ∃ (c : Nat) (x : Int), c ≤ r ∧ t = .int .i64 c ∧ y = .int .u64 x ∧ 0 ≤ x ∧ x ≤ x0 ∧ Hid (x = x0 / 2 ^ c)) (fun _ t => r - (intOf t).toNat)
    case atStart => exact ⟨0, x0, Nat.zero_le _, rfl, rfl, hx0, by omega, by simp [Hid]⟩
    case round =>
      obtain ⟨c, x, hc, rfl, rfl, h1, h2, HX⟩ := hrel
      by_cases hlt : c < r
      · have hlt' : (c : Int) < ii % 64 := by have := HR.out; omega
        obtain ⟨y, hy, Y⟩ : ∃ y, x / 2 = y ∧ Hid (y = x / 2) := ⟨_, rfl, rfl⟩
        have hy0 : 0 ≤ y := by omega
        have hyx : y ≤ x0 := by omega
        have YX : Hid (y = x0 / 2 ^ (c + 1)) := by rw [Hid, Y.out, HX.out, half_more]
        go_wp2
        go_round
        case rel => exact ⟨c + 1, y, by omega, by go_num, by first | rfl | rw [hy], hy0, hyx, YX.out⟩
        case measure => simp [intOf]; omega
      · have hlt' : ¬ (c : Int) < ii % 64 := by have := HR.out; omega
        obtain rfl : c = r := by omega
        obtain ⟨y, hy, Y⟩ : ∃ y, x % 2 = y ∧ Hid (y = x % 2) := ⟨_, rfl, rfl⟩
        have hy0 : 0 ≤ y := by omega
        have hy1 : y ≤ 1 := by omega
        have E2 : Hid (y = Nm.val zs / 2 ^ i % 2) := by rw [Hid, Y.out, HX.out]; exact E.out
        go_wp2
        go_ret
        exact ⟨ret_i64 E2.out, rfl⟩
end Go.Proofs.YthgjflfeilbbbaaGreatDoor
