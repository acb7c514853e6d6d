/-
  Texts put together: XRounded, XAddA, XSpec, YAddR, ChWn, MRoundB, MFloor.
-/
import Derived.Test.YtpeecbidojjfpaaDoorRE
import Derived.Test.YtpeecbidojjfpaaDoorIRound
import Derived.BigQuiet
import Derived.Test.YtpeecbidojjfpaaDoorXSpecA
import Derived.Test.YtpeecbidojjfpaaDoorIOrdC
import Derived.Test.YtpeecbidojjfpaaDoorMNum
/-
  soft: rounded.
-/
namespace Go.Proofs.YtpeecbidojjfpaaDoor
open Go Go.RowKit Go.Deep

/-- The flags that a rounding raises: the result V * 2^e (or a trifle above), the double x, L the bits of V, t the zeros at its end. -/
def Ie.flg (V e : Int) (more : Bool) (d : Int) (t L : Nat) : Int :=
  if Ie.isx V e more d t = true then 0 else 16 + (if Ie.isi d = true then 4 else 0) + (if (L : Int) + e ≤ -1022 then 8 else 0)

/-- What rounded answers. -/
def RoundedTold (neg : Bool) (V e : Int) (more : Bool) (w : World) (r : Ending) (w' : World) : Prop :=
  ∃ (x : Int) (t L : Nat), r = .returned (.tuple #[.int .u64 (Ie.sg neg x), .int .i64 (Ie.flg V e more (Ie.sg neg x) t L)]) ∧ Ie.Rnd V 1 e more x ∧ Nm.Trl V t ∧ Nm.BLen V L ∧ Below w.heap.size w w'

theorem ret_ui {a b c d : Int} (h : a = b) (k : c = d) : Ending.returned (.tuple #[.int .u64 a, .int .i64 c]) = .returned (.tuple #[.int .u64 b, .int .i64 d]) := by rw [h, k]

set_option maxRecDepth 100000 in
set_option maxHeartbeats 4000000 in
theorem rounded_any (neg more : Bool) (p : Option Addr) (l c : Nat) (zs : List Int) (e V : Int) (w : World) (ha : Arg w p l c zs) (hT : Tab w) (hV : Nm.val zs = V) (hl : l = 0 ↔ V = 0) (hb : V < 2 ^ 5000) (q1 : -10000 ≤ e) (q2 : e ≤ 10000) :
    Calls Tryd.prog 93 #[exactOf neg p l c e more] w fun r w' => RoundedTold neg V e more w r w' := by
  have v0 : 0 ≤ V := by rw [← hV]; exact (Nm.val_bd zs ha.2.2.2.2).1
  have tz : Nm.tsize zs ≤ 4096 := (Nm.tsize_le_iff ha.2.2.2.2 4096).2 (by rw [hV, pw_4096]; have := Nm.two_mono (show 5000 ≤ 262144 by omega); omega)
  obtain ⟨L, hL, BL, hl2, _⟩ := blen_is zs ha.2.2.2.2
  rw [hV] at BL
  have Lb : (L : Int) ≤ 262144 := by omega
  obtain ⟨t, tb, ht⟩ : ∃ t : Nat, t ≤ 10000 ∧ Nm.Trl V t := by
    rcases (show V = 0 ∨ 0 < V by omega) with h | h
    · exact ⟨0, by omega, .inl ⟨h, rfl⟩⟩
    · obtain ⟨t, h1, h2⟩ := trl_ex 5000 V h hb
      exact ⟨t, by omega, h2⟩
  have R0 := Row4.new w 108 (.bool neg) (.slice p l c) (.int .i64 e) (.bool more)
  have B0 := alloc_b w (.cells #[.bool neg, .slice p l c, .int .i64 e, .bool more] 108)
  have RD := hid (round_any neg p l c zs _ (ha.below B0 (Nat.le_refl _)) (hT.below B0) tz V e more hV)
  have IS := hid (fun (d : Int) (wx : World) (hx : Below w.heap.size w wx) (d0 : 0 ≤ d) (d1 : d < 18446744073709551616) => is_any neg more p l c zs e V d t wx (ha.below hx (Nat.le_refl _)) (hT.below hx) hV hl ht tb q1 q2 d0 d1)
  have BL1 := hid (fun (wx : World) (hx : Below w.heap.size w wx) => bitLen_n L p l c zs wx (ha.below hx (Nat.le_refl _)) hL)
  have IN := hid (fun (d : Int) (wx : World) (d0 : 0 ≤ d) (d1 : d < 18446744073709551616) => infinite_any d wx d0 d1)
  have FF : Hid (∀ (x f : Int) (w' : World), f = Ie.flg V e more (Ie.sg neg x) t L → Ie.Rnd V 1 e more x → Below w.heap.size w w' → RoundedTold neg V e more w (.returned (.tuple #[.int .u64 (Ie.sg neg x), .int .i64 f])) w') := by
    intro x f w' hf hR hB
    exact ⟨x, t, L, by rw [hf], hR, ht, BL, hB⟩
  obtain ⟨⟨r0, r1, r2, r3⟩, -⟩ := R0.cells
  have HR0 := hid R0
  have HB0 := hid B0
  simp only [exactOf] at IS ⊢
  clear ha hT hV hl hb v0 tz hL BL hl2 ht tb R0 B0
  go_enter Tryd.func93, Tryd.ntmps93
  go_wp2_with fail
  generalize hwA : w.alloc (.cells #[.bool neg, .slice p l c, .int .i64 e, .bool more] 108) = wA at *
  refine RD.out.mono ?_
  rintro r wa ⟨x, rfl, R, hB⟩
  have bd := R.bd
  obtain ⟨x0, x1⟩ := bd
  have sg0 : 0 ≤ Ie.sg neg x ∧ Ie.sg neg x < 18446744073709551616 := by simp only [Ie.sg]; split <;> omega
  obtain ⟨g0, g1⟩ := sg0
  have Ra := HR0.out.below hB HR0.out.lt
  have Ba := HB0.out.trans (hB.mono HB0.out.size)
  have IS1 := hid (IS.out _ wa Ba g0 g1)
  have F1 := hid (fun (f : Int) (w' : World) (h : f = Ie.flg V e more (Ie.sg neg x) t L) (hB : Below w.heap.size w w') => FF.out x f w' h R hB)
  have HBa := hid Ba
  have HRa := hid Ra
  obtain ⟨⟨s0, s1, s2, s3⟩, -⟩ := Ra.cells
  clear hB Ra Ba IS FF RD HR0 HB0 R r0 r1 r2 r3
  generalize hd : Ie.sg neg x = d at *
  go_wp2_with fail
  refine IS1.out.mono ?_
  rintro r wb ⟨rfl, hB⟩
  have Rb := HRa.out.below hB HRa.out.lt
  have Bb := HBa.out.trans (hB.mono HBa.out.size)
  have HBb := hid Bb
  have BQ := hid (fun (k : Nat) => BL1.out (wb.drewN k) (below_drewN Bb k))
  have IN1 := hid (fun (wx : World) => IN.out d wx g0 g1)
  clear s0 s1 s2 s3
  obtain ⟨⟨s0, s1, s2, s3⟩, -⟩ := Rb.cells
  have F2 : Hid (∀ (f : Int) (w' : World), f = (if Ie.isx V e more d t = true then 0 else 16 + (if Ie.isi d = true then 4 else 0) + (if (L : Int) + e ≤ -1022 then 8 else 0)) → Below w.heap.size w w' → RoundedTold neg V e more w (.returned (.tuple #[.int .u64 d, .int .i64 f])) w') := fun f w' h hB => F1.out f w' h hB
  have O1 : bits .or .i64 16 4 = 20 := by decide
  have O2 : bits .or .i64 16 8 = 24 := by decide
  have O3 : bits .or .i64 20 8 = 28 := by decide
  clear hB HRa HBa IS1 IN BL1 Rb Bb F1
  cases hx : Ie.isx V e more d t
  · rw [hx] at F2
    cases hi : Ie.isi d <;> rw [hi] at F2 IN1
    · by_cases hu : (L : Int) + e ≤ -1022
      · have dd : decide ((L : Int) + e ≤ -1022) = true := by simp; omega
        have F3 := hid (fun (w' : World) (hB : Below w.heap.size w w') => F2.out 24 w' (by simp [hu]) hB)
        clear F2 hx hi hu
        go_wp2_with fail
        refine (IN1.out _).mono ?_
        rintro r wc ⟨rfl, rfl⟩
        go_wp2_with fail
        go_quiet ((go_at_call 25; with_reducible exact Calls.quiet_of_same (BQ.out _)))
        go_wp2_with fail
        go_ret2
        exact F3.out _ (below_drewN HBb.out _)
      · have dd : decide ((L : Int) + e ≤ -1022) = false := by simp; omega
        have F3 := hid (fun (w' : World) (hB : Below w.heap.size w w') => F2.out 16 w' (by simp [hu]) hB)
        clear F2 hx hi hu
        go_wp2_with fail
        refine (IN1.out _).mono ?_
        rintro r wc ⟨rfl, rfl⟩
        go_wp2_with fail
        go_quiet ((go_at_call 25; with_reducible exact Calls.quiet_of_same (BQ.out _)))
        go_wp2_with fail
        go_ret2
        exact F3.out _ (below_drewN HBb.out _)
    · by_cases hu : (L : Int) + e ≤ -1022
      · have dd : decide ((L : Int) + e ≤ -1022) = true := by simp; omega
        have F3 := hid (fun (w' : World) (hB : Below w.heap.size w w') => F2.out 28 w' (by simp [hu]) hB)
        clear F2 hx hi hu
        go_wp2_with fail
        refine (IN1.out _).mono ?_
        rintro r wc ⟨rfl, rfl⟩
        go_wp2_with fail
        go_quiet ((go_at_call 25; with_reducible exact Calls.quiet_of_same (BQ.out _)))
        go_wp2_with fail
        go_ret2
        exact F3.out _ (below_drewN HBb.out _)
      · have dd : decide ((L : Int) + e ≤ -1022) = false := by simp; omega
        have F3 := hid (fun (w' : World) (hB : Below w.heap.size w w') => F2.out 20 w' (by simp [hu]) hB)
        clear F2 hx hi hu
        go_wp2_with fail
        refine (IN1.out _).mono ?_
        rintro r wc ⟨rfl, rfl⟩
        go_wp2_with fail
        go_quiet ((go_at_call 25; with_reducible exact Calls.quiet_of_same (BQ.out _)))
        go_wp2_with fail
        go_ret2
        exact F3.out _ (below_drewN HBb.out _)
  · rw [hx] at F2
    have F3 := hid (fun (w' : World) (hB : Below w.heap.size w w') => F2.out 0 w' (by simp) hB)
    clear F2 hx
    go_wp2_with fail
    go_ret2
    exact F3.out _ HBb.out
end Go.Proofs.YtpeecbidojjfpaaDoor

/-
  What soft's functions tell.
-/
namespace Go.Proofs.YtpeecbidojjfpaaDoor
open Go Go.RowKit Go.Deep

theorem Ans.len0 {B : Nat} {w : World} {p : Option Addr} {ys : List Int} {n : Int} (h : Ans B w p ys n) : ys.length = 0 ↔ n = 0 := by
  have h1 := Nm.tsize_zero_iff h.2.1
  rw [h.2.2.1, h.2.2.2.1] at h1
  exact h1

namespace Ie
/-- What a rounded result is: the double r, the flags f, of sn neg V * 2^e (or a trifle above). -/
def Res (neg : Bool) (V e : Int) (more : Bool) (r f : Int) : Prop :=
  ∃ (x : Int) (t L : Nat), r = sg neg x ∧ f = flg V e more (sg neg x) t L ∧ Rnd V 1 e more x ∧ Nm.Trl V t ∧ Nm.BLen V L

/-- What add answers. -/
def AddIs (a b r f : Int) : Prop :=
  if isn a = true ∨ isn b = true then r = 9221120237041090560 ∧ f = 0
  else if isi a = true ∧ isi b = true ∧ a ≠ b then r = 9221120237041090560 ∧ f = 1
  else if isi a = true then r = a ∧ f = 0
  else if isi b = true then r = b ∧ f = 0
  else ∃ neg V e, SumIs (ngd a) (dm a) (de a) (ngd b) (dm b) (de b) neg V e ∧ Res neg V e false r f

theorem fin_of {d : Int} (h0 : isn d = false) (h1 : isi d = false) : fin d := by
  rw [isn, decide_eq_false_iff_not] at h0
  rw [isi, decide_eq_false_iff_not] at h1
  rw [fin]; omega
theorem not_both {d : Int} (h : isi d = true) : isn d = false := by
  rw [isi, decide_eq_true_eq] at h
  rw [isn, h]; rfl
end Ie

/-- An answer and its flags, told. -/
def Told2 (P : Int → Int → Prop) (w : World) (e : Ending) (w' : World) : Prop := ∃ r f, e = .returned (.tuple #[.int .u64 r, .int .i64 f]) ∧ P r f ∧ Below w.heap.size w w'

/-- An answer, told. -/
def Told1 (P : Int → Int → Prop) (w : World) (e : Ending) (w' : World) : Prop := ∃ r f, e = .returned (.int .u64 r) ∧ P r f ∧ Below w.heap.size w w'
end Go.Proofs.YtpeecbidojjfpaaDoor

/-
  What add answers of finite doubles: the exact sum, rounded; closed sums: 1 + 2, 3 - 2.
-/
namespace Go.Proofs.YtpeecbidojjfpaaDoor
namespace Ie

theorem AddIs.get {a b r f : Int} (fa : fin a) (fb : fin b) (h : AddIs a b r f) : ∃ neg V e, SumIs (ngd a) (dm a) (de a) (ngd b) (dm b) (de b) neg V e ∧ Res neg V e false r f := by
  rw [AddIs, (fin_not fa).1, (fin_not fa).2, (fin_not fb).1, (fin_not fb).2] at h
  simp only [Bool.false_eq_true, or_self, false_and, if_false] at h
  exact h

theorem SumIs.at {n1 n2 neg : Bool} {V1 e1 V2 e2 V e : Int} (h : SumIs n1 V1 e1 n2 V2 e2 neg V e) (B : Nat) (h1 : 0 ≤ e1 + B) (h2 : 0 ≤ e2 + B) {u1 u2 : Int} (g1 : ∀ k : Nat, (k : Int) = e1 + B → V1 * 2 ^ k = u1) (g2 : ∀ k : Nat, (k : Int) = e2 + B → V2 * 2 ^ k = u2) :
    ∃ c : Nat, (c : Int) = e + B ∧ sn neg (V * 2 ^ c) = sn n1 u1 + sn n2 u2 ∧ (sn n1 u1 + sn n2 u2 = 0 → neg = (n1 && n2)) := by
  have e0 : 0 ≤ e + B := by rcases h.1 with h | h <;> omega
  obtain ⟨a, ha⟩ : ∃ k : Nat, (k : Int) = e1 + B := ⟨(e1 + B).toNat, by omega⟩
  obtain ⟨b, hb⟩ : ∃ k : Nat, (k : Int) = e2 + B := ⟨(e2 + B).toNat, by omega⟩
  obtain ⟨c, hc⟩ : ∃ k : Nat, (k : Int) = e + B := ⟨(e + B).toNat, by omega⟩
  have key := h.2.2.2 B a b c ha hb hc
  rw [sn_mul_right, sn_mul_right, sn_mul_right, g1 a ha, g2 b hb] at key
  refine ⟨c, hc, key, fun h0 => ?_⟩
  rw [h0] at key
  have := sn_eq_zero key
  rcases Int.mul_eq_zero.1 this with g | g
  · exact h.2.1 g
  · have := Nm.two_pos c; omega

theorem AddIs.rs {a b r f : Int} (fa : fin a) (fb : fin b) (h : AddIs a b r f) : RS (uv a + uv b) 1 (ngd a && ngd b) r := by
  obtain ⟨neg, V, e, hS, x, t, L, rfl, -, hR, -, -⟩ := h.get fa fb
  obtain ⟨_, ⟨ea0, ea1⟩, ga, _⟩ := dec_f a fa
  obtain ⟨_, ⟨eb0, eb1⟩, gb, _⟩ := dec_f b fb
  obtain ⟨c, hc, key, h0⟩ := hS.at 1074 (by omega) (by omega) ga gb
  exact rs_of hR hS.2.2.1.1 c 0 (by omega) key.symm rfl h0

theorem add_12 {r f : Int} (h : AddIs 4607182418800017408 4611686018427387904 r f) : r = 4613937818241073152 := by
  refine (h.rs (by rw [fin]; decide) (by rw [fin]; decide)).lit (by omega) _ (by omega) (by omega) ?_
  rw [uv_pos (by omega) (by omega), uv_pos (by omega) (by omega), un_1, un_2, un_3, p1022.1]
  generalize (2 : Int) ^ 1022 = P
  omega

theorem sub_32 {r f : Int} (h : AddIs 4613937818241073152 (ng 4611686018427387904) r f) : r = 4607182418800017408 := by
  have e : ng 4611686018427387904 = 4611686018427387904 + 9223372036854775808 := by decide
  rw [e] at h
  refine (h.rs (by rw [fin]; decide) (by rw [fin]; decide)).lit (by omega) _ (by omega) (by omega) ?_
  rw [uv_pos (by omega) (by omega), uv_neg (by omega) (by omega), un_1, un_2, un_3, p1022.1]
  generalize (2 : Int) ^ 1022 = P
  omega
end Ie
end Go.Proofs.YtpeecbidojjfpaaDoor

namespace Go.Proofs.YtpeecbidojjfpaaDoor
open Go Go.RowKit Go.Deep

namespace Ie
/-- What a sum answers, whoever makes it: one double. -/
def AddR (a b r : Int) : Prop :=
  if isn a = true ∨ isn b = true then r = 9221120237041090560
  else if isi a = true ∧ isi b = true ∧ a ≠ b then r = 9221120237041090560
  else if isi a = true then r = a
  else if isi b = true then r = b
  else RS (uv a + uv b) 1 (ngd a && ngd b) r

theorem yadd_rs {a b : Int} {neg : Bool} {V m x : Int} (fa : fin a) (fb : fin b) (hS : SumIs (ngd a) (dm a) (de a) (ngd b) (dm b) (de b) neg V m) (hR : Rnd V 1 m false x) : RS (uv a + uv b) 1 (ngd a && ngd b) (sg neg x) := by
  obtain ⟨_, ⟨ea0, ea1⟩, ga, _⟩ := dec_f a fa
  obtain ⟨_, ⟨eb0, eb1⟩, gb, _⟩ := dec_f b fb
  obtain ⟨c, hc, key, h0⟩ := hS.at 1074 (by omega) (by omega) ga gb
  exact rs_of hR hS.2.2.1.1 c 0 (by omega) key.symm rfl h0

theorem AddIs.r {a b r f : Int} (h : AddIs a b r f) : AddR a b r := by
  have h0 := h
  unfold AddR
  unfold AddIs at h
  split
  · rename_i g; rw [if_pos g] at h; exact h.1
  rename_i g1; rw [if_neg g1] at h
  split
  · rename_i g; rw [if_pos g] at h; exact h.1
  rename_i g2; rw [if_neg g2] at h
  split
  · rename_i g; rw [if_pos g] at h; exact h.1
  rename_i g3; rw [if_neg g3] at h
  split
  · rename_i g; rw [if_pos g] at h; exact h.1
  rename_i g4
  have fa : fin a := fin_of (by cases c : isn a; rfl; exact absurd (.inl c) g1) (by cases c : isi a; rfl; exact absurd c g3)
  have fb : fin b := fin_of (by cases c : isn b; rfl; exact absurd (.inr c) g1) (by cases c : isi b; rfl; exact absurd c g4)
  exact h0.rs fa fb

theorem AddR.one {a b r r' : Int} (h : AddR a b r) (k : AddR a b r') : r = r' := by
  unfold AddR at h k
  split at h
  · rename_i g; rw [if_pos g] at k; rw [h, k]
  rename_i g1; rw [if_neg g1] at k
  split at h
  · rename_i g; rw [if_pos g] at k; rw [h, k]
  rename_i g2; rw [if_neg g2] at k
  split at h
  · rename_i g; rw [if_pos g] at k; rw [h, k]
  rename_i g3; rw [if_neg g3] at k
  split at h
  · rename_i g; rw [if_pos g] at k; rw [h, k]
  rename_i g4; rw [if_neg g4] at k
  exact h.one (by omega) (by omega) k rfl

end Ie
end Go.Proofs.YtpeecbidojjfpaaDoor

namespace Go.Proofs.YtpeecbidojjfpaaDoor
open Go

namespace Ie
theorem un_lt_iff {x y : Int} (hx : 0 ≤ x) (hy : 0 ≤ y) : un x < un y ↔ x < y := by
  have := vl_lt_iff hx hy
  rw [vl_un, vl_un] at this
  constructor
  · intro h; exact this.1 (by omega)
  · intro h; have := this.2 h; omega
/-- The whole part of a double, 0 of a negative one. -/
def flr (d : Int) : Int := if ngd d = true then 0 else un (ab d) / 2 ^ 1074
/-- The place of a double in a text with L - 1 bytes. -/
def pls (d L : Int) : Int := max 1 (min L (flr d))
theorem whp_un (r : Int) : whp r = un r / 2 ^ 1074 := by
  rw [whp, vl_un, show (2 : Int) ^ 1075 = 2 * 2 ^ 1074 from Nm.two_succ 1074, Int.mul_ediv_mul_of_pos _ _ (by decide)]
/-- X is the double of the whole number k. -/
def Wd (k X : Int) : Prop := 0 ≤ X ∧ X < 9218868437227405312 ∧ un X = k * 2 ^ 1074
theorem wd_ex {k : Int} (h0 : 0 ≤ k) (h1 : k ≤ 9007199254740992) : ∃ X, Wd k X := by
  rcases (show k < 9007199254740992 ∨ k = 9007199254740992 by omega) with h | h
  · exact un_rep 1074 k h0 h (by omega)
  · refine ⟨4845873199050653696, by omega, by omega, ?_⟩
    have e1 : man 4845873199050653696 = 4503599627370496 := by decide
    have e2 : ex 4845873199050653696 = 1075 := by decide
    rw [un, e1, e2, h, Nm.two_succ, ← Int.mul_assoc]
    rfl
theorem wd_rnd {k X : Int} (h0 : 0 ≤ k) (h1 : k ≤ 9007199254740992) (h : Rnd k 1 0 false X) : Wd k X := by
  obtain ⟨Y, y0, y1, y2⟩ := wd_ex h0 h1
  have r := rnd_vl k 0 Y false 1075 0 (by omega) y0 y1 (by rw [vl_un, y2, Nm.two_succ, Int.pow_zero, Int.mul_one]; exact Int.mul_left_comm _ _ _)
  have e : X = Y := Rnd.one (a := 0) (a' := 0) (by omega) (by omega) h r (by omega) rfl
  rw [e]
  exact ⟨y0, y1, y2⟩
theorem Wd.pos {k X : Int} (h : Wd k X) (k0 : 0 < k) : 0 < X := by
  rcases (show X = 0 ∨ 0 < X by have := h.1; omega) with e | e
  · have h2 := h.2.2
    rw [e, un_zero] at h2
    have := Int.mul_pos k0 (Nm.two_pos 1074)
    omega
  · exact e
theorem Wd.zero {X : Int} (h : Wd 0 X) : X = 0 := by
  have := h.2.2
  rw [Int.zero_mul, ← un_zero] at this
  exact un_inj h.1 (by omega) this
theorem Wd.one {k X Y : Int} (h : Wd k X) (h' : Wd k Y) : X = Y := un_inj h.1 h'.1 (by rw [h.2.2, h'.2.2])
theorem cm_lt {a b : Int} : cm a b < 0 ↔ a < b := by
  unfold cm
  by_cases h : a < b
  · simp [h]
  · by_cases k : b < a <;> simp [h, k]
theorem cm_gt {a b : Int} : 0 < cm a b ↔ b < a := by
  unfold cm
  by_cases h : a < b
  · have : ¬ b < a := by omega
    simp [h, this]
  · by_cases k : b < a <;> simp [h, k]
theorem okd_wd {k X : Int} (h : Wd k X) : okd X = true := by rw [okd, decide_eq_true_eq]; have := h.1; have := h.2.1; omega
theorem nn_parts {d : Int} (d0 : 0 ≤ d) (g : d < 9223372036854775808) : ab d = d ∧ ngd d = false ∧ rk d = d :=
  ⟨by rw [ab]; omega, by rw [ngd, decide_eq_false_iff_not]; omega, by rw [rk, if_pos g]⟩
theorem ng_parts {d : Int} (g : 9223372036854775808 ≤ d) (d1 : d < 18446744073709551616) : ab d = d - 9223372036854775808 ∧ ngd d = true ∧ rk d = 9223372036854775808 - d :=
  ⟨by rw [ab]; omega, by rw [ngd, decide_eq_true_eq]; omega, by rw [rk, if_neg (by omega)]⟩
theorem cmv_wd {d k X : Int} (h : Wd k X) (k0 : 0 < k) (d0 : 0 ≤ d) (d1 : d < 18446744073709551616) (ok : okd d = true) :
    (cmv d X < 0 ↔ (ngd d = true ∨ un (ab d) < k * 2 ^ 1074)) ∧ (0 < cmv d X ↔ (ngd d = false ∧ k * 2 ^ 1074 < un (ab d))) := by
  have x0 := h.pos k0
  have x1 := h.2.1
  obtain ⟨_, _, rX⟩ := nn_parts (d := X) (by omega) (by omega)
  rw [cmv, if_pos ⟨ok, okd_wd h⟩, ← h.2.2, cm_lt, cm_gt, rX]
  rcases (show d < 9223372036854775808 ∨ 9223372036854775808 ≤ d by omega) with g | g
  · obtain ⟨e1, e2, e3⟩ := nn_parts d0 g
    rw [e1, e2, e3, un_lt_iff d0 h.1, un_lt_iff h.1 d0]
    simp
  · obtain ⟨e1, e2, e3⟩ := ng_parts g d1
    rw [e2, e3]
    simp
    omega
theorem cmv_ng {d k X : Int} (h : Wd k X) (k0 : 0 < k) (d0 : 0 ≤ d) (d1 : d < 18446744073709551616) (ok : okd d = true) :
    (cmv d (X + 9223372036854775808) < 0 ↔ (ngd d = true ∧ k * 2 ^ 1074 < un (ab d))) := by
  have x0 := h.pos k0
  have x1 := h.2.1
  obtain ⟨f1, f2, f3⟩ := ng_parts (d := X + 9223372036854775808) (by omega) (by omega)
  have okX : okd (X + 9223372036854775808) = true := by rw [okd, decide_eq_true_eq]; omega
  rw [cmv, if_pos ⟨ok, okX⟩, ← h.2.2, cm_lt, f3]
  rcases (show d < 9223372036854775808 ∨ 9223372036854775808 ≤ d by omega) with g | g
  · obtain ⟨e1, e2, e3⟩ := nn_parts d0 g
    rw [e2, e3]
    simp
    omega
  · obtain ⟨e1, e2, e3⟩ := ng_parts g d1
    rw [e1, e2, e3, un_lt_iff h.1 (by omega)]
    simp
    omega
theorem flr_nn (d : Int) : 0 ≤ flr d := by
  rw [flr]
  split
  · omega
  · have h1 := un_nn (show 0 ≤ ab d from Int.emod_nonneg _ (by decide))
    exact Int.ediv_nonneg h1 (by have := Nm.two_pos 1074; omega)
theorem pls_low {d L : Int} (_ : 1 ≤ L) (h : ngd d = true ∨ un (ab d) < 1 * 2 ^ 1074) : pls d L = 1 := by
  have z : flr d < 1 := by
    rw [flr]
    split
    · omega
    · rename_i hn
      rcases h with h | h
      · exact absurd h hn
      · exact Int.ediv_lt_of_lt_mul (Nm.two_pos 1074) h
  rw [pls]; omega
theorem pls_high {d L : Int} (L1 : 1 ≤ L) (h : ngd d = false ∧ L * 2 ^ 1074 < un (ab d)) : pls d L = L := by
  have z : L ≤ flr d := by
    rw [flr, h.1, if_neg (by decide)]
    have := h.2
    exact Int.le_ediv_of_mul_le (Nm.two_pos 1074) (Int.le_of_lt this)
  rw [pls]; omega
theorem pls_mid {d L : Int} (h : ¬ (ngd d = true ∨ un (ab d) < 1 * 2 ^ 1074)) (h2 : ¬ (ngd d = false ∧ L * 2 ^ 1074 < un (ab d))) : ngd d = false ∧ 1 ≤ whp (ab d) ∧ whp (ab d) ≤ L ∧ pls d L = whp (ab d) := by
  have hn : ngd d = false := by
    cases e : ngd d
    · rfl
    · exact absurd (.inl e) h
  have h1 : 1 * 2 ^ 1074 ≤ un (ab d) := by
    rcases Int.lt_or_le (un (ab d)) (1 * 2 ^ 1074) with g | g
    · exact absurd (.inr g) h
    · exact g
  have h3 : un (ab d) ≤ L * 2 ^ 1074 := by
    rcases Int.lt_or_le (L * 2 ^ 1074) (un (ab d)) with g | g
    · exact absurd ⟨hn, g⟩ h2
    · exact g
  have a1 : 1 ≤ whp (ab d) := by rw [whp_un]; exact Int.le_ediv_of_mul_le (Nm.two_pos 1074) h1
  have a2 : whp (ab d) ≤ L := by
    rw [whp_un]
    have := Int.ediv_le_ediv (Nm.two_pos 1074) h3
    rwa [Int.mul_ediv_cancel _ (by have := Nm.two_pos 1074; omega)] at this
  refine ⟨hn, a1, a2, ?_⟩
  rw [pls, flr, hn, if_neg (by decide), ← whp_un]
  omega
/-- A double that is not above a whole number is finite. -/
theorem fin_le {d k X : Int} (h : Wd k X) (hu : un (ab d) ≤ k * 2 ^ 1074) : ab d < 9218868437227405312 := by
  rw [← h.2.2] at hu
  have ha : 0 ≤ ab d := Int.emod_nonneg _ (by decide)
  have x1 := h.2.1
  rcases (show ab d < 9218868437227405312 ∨ 9218868437227405312 ≤ ab d by omega) with g | g
  · exact g
  · have := (un_lt_iff h.1 ha).2 (by omega)
    omega
/-- The reference's number of a double, cut off at 2^40. -/
def wh20 (d : Int) : Int := if ngd d = true then -(min 1099511627776 (whp (ab d))) else min 1099511627776 (whp (ab d))
theorem whp_nn (d : Int) : 0 ≤ whp (ab d) := by
  rw [whp_un]
  have h1 := un_nn (show 0 ≤ ab d from Int.emod_nonneg _ (by decide))
  exact Int.ediv_nonneg h1 (by have := Nm.two_pos 1074; omega)
theorem pls_wh {d L : Int} (L1 : 1 ≤ L) (L2 : L ≤ 1099511627776) : pls d L = max 1 (min L (wh20 d)) := by
  have h := whp_nn d
  rw [pls, flr, wh20, ← whp_un]
  cases ngd d <;> simp <;> omega
theorem wh_far {d : Int} {k : Int} (hk : k = 1099511627776) (h : k * 2 ^ 1074 < un (ab d)) : 1099511627776 ≤ whp (ab d) := by
  rw [whp_un, ← hk]
  exact Int.le_ediv_of_mul_le (Nm.two_pos 1074) (Int.le_of_lt h)
theorem wh_near {d : Int} {k : Int} (hk : k = 1099511627776) (h : un (ab d) ≤ k * 2 ^ 1074) : whp (ab d) ≤ 1099511627776 := by
  rw [whp_un, ← hk]
  have := Int.ediv_le_ediv (Nm.two_pos 1074) h
  rwa [Int.mul_ediv_cancel _ (by have := Nm.two_pos 1074; omega)] at this

/-- D is the double of the whole number m, its sign too. -/
def Iw (m D : Int) : Prop := (0 ≤ m ∧ Wd m D) ∨ (m < 0 ∧ ∃ X, D = X + 9223372036854775808 ∧ Wd (-m) X)
theorem Iw.parts {m D : Int} (h : Iw m D) : 0 ≤ D ∧ D < 18446744073709551616 ∧ fin D ∧ uv D = m * 2 ^ 1074 ∧ (ngd D = true ↔ m < 0) ∧ un (ab D) = az m * 2 ^ 1074 := by
  rcases h with ⟨h0, h⟩ | ⟨h0, X, rfl, h⟩
  · have a := h.1
    have b := h.2.1
    obtain ⟨e1, e2, e3⟩ := nn_parts a (by omega)
    refine ⟨a, by omega, by rw [fin, e1]; exact b, by rw [uv_pos a (by omega), h.2.2], by rw [e2]; simp; omega, ?_⟩
    rw [e1, h.2.2, az, if_neg (by omega)]
  · have a := h.1
    have b := h.2.1
    obtain ⟨e1, e2, e3⟩ := ng_parts (d := X + 9223372036854775808) (by omega) (by omega)
    have e4 : ab (X + 9223372036854775808) = X := by rw [e1]; omega
    refine ⟨by omega, by omega, by rw [fin, e4]; exact b, by rw [uv_neg a (by omega), h.2.2, Int.neg_mul, Int.neg_neg], by rw [e2]; simp; omega, ?_⟩
    rw [e4, h.2.2, az, if_pos h0]
theorem Iw.intg {m D : Int} (h : Iw m D) : intg D = true := by
  obtain ⟨a, b, c, d, e, f⟩ := h.parts
  rw [Ie.intg, decide_eq_true_eq]
  refine ⟨c, ?_⟩
  have f' : un (D % 9223372036854775808) = az m * 2 ^ 1074 := f
  rw [whp_un, vl_un, f', Int.mul_ediv_cancel _ (by have := Nm.two_pos 1074; omega), show (2 : Int) ^ 1075 = 2 * 2 ^ 1074 from Nm.two_succ 1074]
  exact (Int.mul_left_comm _ _ _).symm
theorem Iw.near {m D r : Int} {up : Bool} (h : Iw m D) (k : WIs D up r) : r = D := by
  obtain ⟨a, b, c, d, e, f⟩ := h.parts
  obtain ⟨y, rfl, _, _, hy, _⟩ := k.2.2 c
  rw [hy h.intg]
  exact (sg_ab D a b).symm
theorem Iw.flr {m D : Int} (h : Iw m D) : flr D = max 0 m := by
  obtain ⟨a, b, c, d, e, f⟩ := h.parts
  rw [Ie.flr]
  by_cases hm : m < 0
  · rw [if_pos (e.2 hm)]; omega
  · rw [if_neg (fun z => hm (e.1 z)), f, Int.mul_ediv_cancel _ (by have := Nm.two_pos 1074; omega), az, if_neg hm]
    omega
theorem Iw.kinds {m D : Int} (h : Iw m D) : isn D = false ∧ isi D = false := fin_not h.parts.2.2.1
theorem Iw.add {m n D E r : Int} (h : Iw m D) (k : Iw n E) (s : AddR D E r) (lo : -9007199254740992 ≤ m + n) (hi : m + n ≤ 9007199254740992) : Iw (m + n) r := by
  obtain ⟨a1, a2⟩ := h.kinds
  obtain ⟨b1, b2⟩ := k.kinds
  unfold AddR at s
  simp only [a1, a2, b1, b2, Bool.false_eq_true, or_self, false_and, if_false] at s
  obtain ⟨_, _, _, ud, nd, _⟩ := h.parts
  obtain ⟨_, _, _, ue, ne, _⟩ := k.parts
  rw [ud, ue, ← Int.add_mul] at s
  have z0 : 0 ≤ az (m + n) := az_nn _
  obtain ⟨y, y0, y1, y2⟩ := wd_ex (k := az (m + n)) z0 (by simp only [az]; split <;> omega)
  have p := Nm.two_pos 1074
  have ea : az ((m + n) * 2 ^ 1074) = un y * 1 := by
    rw [y2, Int.mul_one]
    simp only [az]
    by_cases g : m + n < 0
    · rw [if_pos g, if_pos (Int.mul_neg_of_neg_of_pos g p), Int.neg_mul]
    · rw [if_neg g, if_neg (by have := Int.mul_nonneg (show 0 ≤ m + n by omega) (Int.le_of_lt p); omega)]
  obtain ⟨neg, rfl, hS, hz⟩ := s.exact (by omega) y y0 y1 ea
  rw [Int.mul_one, y2] at hS
  rcases (show m + n = 0 ∨ m + n < 0 ∨ 0 < m + n by omega) with g | g | g
  · have hneg : neg = false := by
      rw [hz (by rw [g, Int.zero_mul])]
      by_cases hm : m < 0
      · have : ¬ n < 0 := by omega
        have e : ngd E = false := by
          cases q : ngd E
          · rfl
          · exact absurd (ne.1 q) this
        rw [e, Bool.and_false]
      · have e : ngd D = false := by
          cases q : ngd D
          · rfl
          · exact absurd (nd.1 q) hm
        rw [e, Bool.false_and]
    subst hneg
    exact .inl ⟨by omega, y0, y1, by rw [show sb false y = y from rfl, y2, g]; rfl⟩
  · cases neg with
    | false =>
      exfalso
      rw [sn_false] at hS
      have q1 := Int.mul_neg_of_neg_of_pos g p
      have q2 := Int.mul_nonneg z0 (Int.le_of_lt p)
      omega
    | true => exact .inr ⟨g, y, rfl, y0, y1, by rw [y2, az, if_pos g]⟩
  · cases neg with
    | true =>
      exfalso
      rw [sn_true] at hS
      have q1 := Int.mul_pos g p
      have q2 := Int.mul_nonneg z0 (Int.le_of_lt p)
      omega
    | false => exact .inl ⟨by omega, y0, y1, by rw [show sb false y = y from rfl, y2, az, if_neg (by omega)]⟩
theorem Iw.sum {m n D E G : Int} (h : Iw m D) (k : Iw n E) (g : Iw (m + n) G) : AddR D E G := by
  obtain ⟨a1, a2⟩ := h.kinds
  obtain ⟨b1, b2⟩ := k.kinds
  unfold AddR
  simp only [a1, a2, b1, b2, Bool.false_eq_true, or_self, false_and, if_false]
  obtain ⟨_, _, _, ud, nd, _⟩ := h.parts
  obtain ⟨_, _, _, ue, ne, _⟩ := k.parts
  rw [ud, ue, ← Int.add_mul]
  rcases g with ⟨g0, g⟩ | ⟨g0, X, rfl, g⟩
  · refine ⟨false, un G * 1, G, rfl, by rw [sn_false, Int.mul_one, g.2.2], by rw [Int.mul_one]; exact un_nn g.1, near_self G 1 false (by omega) g.1 g.2.1, fun z => ?_⟩
    have z0 : m + n = 0 := by
      rcases Int.mul_eq_zero.1 z with q | q
      · exact q
      · have := Nm.two_pos 1074; omega
    by_cases hm : m < 0
    · have e : ngd E = false := by
        cases q : ngd E
        · rfl
        · have := ne.1 q; omega
      rw [e, Bool.and_false]
    · have e : ngd D = false := by
        cases q : ngd D
        · rfl
        · exact absurd (nd.1 q) hm
      rw [e, Bool.false_and]
  · refine ⟨true, un X * 1, X, rfl, by rw [sn_true, Int.mul_one, g.2.2, Int.neg_mul, Int.neg_neg], by rw [Int.mul_one]; exact un_nn g.1, near_self X 1 false (by omega) g.1 g.2.1, fun z => ?_⟩
    exfalso
    rcases Int.mul_eq_zero.1 z with q | q
    · omega
    · have := Nm.two_pos 1074; omega
end Ie
end Go.Proofs.YtpeecbidojjfpaaDoor

/-
  remain: rounded, by the other three rules.
-/
namespace Go.Proofs.YtpeecbidojjfpaaDoor
open Go Go.RowKit Go.Deep

set_option maxRecDepth 100000 in
set_option maxHeartbeats 4000000 in
theorem rounded_N (up : Bool) (d : Int) (k s : Nat) (w : World) (hT : Tab w) (h0 : 0 ≤ d) (h1 : d < 18446744073709551616) (hf : Ie.fin d) (hi : Ie.intg d = false) (hx : Ie.de d = -(k : Int)) (k1 : 1 ≤ k) (k2 : k ≤ 1074) (hs : min k 63 = s + 1)
    (AW : ∀ wx : World, Below w.heap.size w wx → Calls Tryd.prog 70 #[.bool (Ie.dm d / 2 ^ (s + 1) % 2 == 1), .int .i64 (cmpI (Ie.dm d % 2 ^ (s + 1)) (2 ^ s))] wx fun e w' => e = .returned (.bool up) ∧ w' = wx) :
    Calls Tryd.prog 37 #[.int .u64 d, .func (Fn.func 70) #[] #[]] w fun e w' => ∃ y, e = .returned (.int .u64 (Ie.sg (Ie.ngd d) y)) ∧ Hid (Ie.Rnd (Ie.wup (Ie.dm d / 2 ^ (s + 1)) up) 1 0 false y) ∧ Below w.heap.size w w' := by
  have NN := hid (fun (wx : World) => mnan_any d wx h0 h1)
  have NI := hid (fun (wx : World) => minfinite_any d wx h0 h1)
  rw [(Ie.fin_kinds hf).1] at NN
  rw [(Ie.fin_kinds hf).2] at NI
  have IG := hid (fun (wx : World) (hx : Tab wx) => integral_any d wx hx h0 h1)
  rw [hi] at IG
  have D := hid (fun (wx : World) => decode_any d wx h0 h1)
  rw [← Ie.ngd, hx] at D
  obtain ⟨⟨m0, m1⟩, ⟨e0, e1⟩, -, -⟩ := Ie.dec_f d hf
  have HT := hid hT
  have WK : IntKind.i64.wrap (k : Int) = (k : Int) := by rw [IntKind.wrap_i64]; omega
  have hd : min (k : Int) 63 = ((s + 1 : Nat) : Int) := by omega
  obtain ⟨H, hH⟩ : ∃ H, IntKind.u64.wrap (2 ^ s) = H := ⟨_, rfl⟩
  have HB0 : 1 ≤ H ∧ H ≤ 4611686018427387904 ∧ H = 2 ^ s := by
    have g1 := Nm.two_mono (show s ≤ 62 by omega)
    have g2 := Nm.two_pos s
    have e62 : (2 : Int) ^ 62 = 4611686018427387904 := by decide
    rw [IntKind.wrap_u64, Int.emod_eq_of_lt (by omega) (by omega)] at hH
    exact ⟨by omega, by omega, hH.symm⟩
  obtain ⟨H0, H1, H2⟩ := HB0
  have HH2 := hid H2
  have hR : bits .and .u64 (Ie.dm d) (2 * H - 1) = Ie.dm d % 2 ^ (s + 1) := by
    have e : 2 * H - 1 = 2 ^ (s + 1) - 1 := by rw [H2, Nm.two_succ]
    rw [e]
    exact Ib.mask_and _ (s + 1) m0 (by omega) (by omega)
  rw [← H2] at AW
  obtain ⟨W, hW⟩ : ∃ W, Ie.dm d / 2 ^ (s + 1) = W := ⟨_, rfl⟩
  obtain ⟨R, hR2⟩ : ∃ R, Ie.dm d % 2 ^ (s + 1) = R := ⟨_, rfl⟩
  rw [hW, hR2] at AW
  rw [hR2] at hR
  rw [hW]
  have W0 : 0 ≤ W ∧ W < 9007199254740992 := by
    rw [← hW]
    have := Nm.two_pos (s + 1)
    exact ⟨Int.ediv_nonneg m0 (by omega), by have := Int.ediv_le_self (2 ^ (s + 1)) m0; omega⟩
  obtain ⟨W0, W1⟩ := W0
  have OA := Ib.one_and W W0 (by omega)
  have UC := hid (fun (wx : World) => ucmp_any R H wx)
  have AW := hid AW
  have SA := Ib.sign_and d h0 h1
  have FU : Hid (∀ wx : World, Tab wx → Calls Tryd.prog 51 #[.int .u64 (Ie.wup W up)] wx fun e w' => ∃ x, e = .returned (.int .u64 x) ∧ Ie.Rnd (Ie.wup W up) 1 0 false x ∧ Below wx.heap.size wx w') := by
    intro wx hx
    exact fromU_any _ wx hx (by rw [Ie.wup]; split <;> omega) (by rw [Ie.wup]; split <;> omega)
  have OR : Hid (∀ y : Int, Ie.Rnd (Ie.wup W up) 1 0 false y → bits .or .u64 y (d / 9223372036854775808 * 9223372036854775808) = Ie.sg (Ie.ngd d) y) := by
    intro y hy
    have b := hy.bd
    rcases (show d < 9223372036854775808 ∨ 9223372036854775808 ≤ d by omega) with g | g
    · rw [show d / 9223372036854775808 * 9223372036854775808 = 0 by omega, Ib.or_zero y b.1 (by omega), Ie.ngd, decide_eq_false (by omega)]; rfl
    · rw [show d / 9223372036854775808 * 9223372036854775808 = 9223372036854775808 by omega, Ib.sign_or y b.1 (by omega), Ie.ngd, decide_eq_true (by omega)]; rfl
  clear H2
  clear hT hf e0 e1 hi hx hs hR2
  simp only [partsOf] at D
  generalize Ie.ngd d = neg at *
  generalize Ie.dm d = m at *
  generalize d / 9223372036854775808 * 9223372036854775808 = sv at *
  generalize Ie.cls d = c at *
  go_enter Tryd.func37, Tryd.ntmps37
  go_wp2_with fail
  refine (NN.out _).mono ?_
  rintro e wz ⟨rfl, hz⟩
  replace hz := hz.symm
  subst hz
  go_wp2_with fail
  refine (NI.out _).mono ?_
  rintro e wz ⟨rfl, hz⟩
  replace hz := hz.symm
  subst hz
  go_wp2_with fail
  refine (IG.out _ HT.out).mono ?_
  rintro e w0 ⟨rfl, hB0⟩
  go_wp2_with fail
  refine (D.out _).mono ?_
  rintro e w1 ⟨rfl, hB1⟩
  have HB1 := hid (hB0.trans (hB1.mono hB0.size))
  clear hB0 hB1 NN NI D IG
  go_upto_region 6 with fail
  have hb := HB1.out.trans ((alloc_b w1 (.cells #[.bool neg, .int .i64 c, .int .u64 m, .int .i64 (-(k : Int))] 28)).mono HB1.out.size)
  have P := Row4.new w1 28 (.bool neg) (.int .i64 c) (.int .u64 m) (.int .i64 (-(k : Int)))
  have HT1 := hid (HT.out.below hb)
  have HB2 := hid hb
  obtain ⟨⟨-, -, p2, p3⟩, -⟩ := P.cells
  clear P hb HT HB1
  generalize w1.alloc (.cells #[.bool neg, .int .i64 c, .int .u64 m, .int .i64 (-(k : Int))] 28) = wA at *
  generalize w1.heap.size = b at *
  go_upto_region 8 with fail
  go_region
  have HT2 := hid (HT1.out.below (drew_nil wA))
  have HB3 := hid (HB2.out.trans ((drew_nil wA).mono HB2.out.size))
  clear HT1 HB2 p2 p3 hR hW
  generalize wA.drew = wB at *
  go_wp2_with fail
  refine (UC.out _).mono ?_
  rintro e wz ⟨rfl, hz⟩
  replace hz := hz.symm
  subst hz
  go_wp2_with fail
  refine (AW.out _ HB3.out).mono ?_
  rintro e wz ⟨rfl, hz⟩
  replace hz := hz.symm
  subst hz
  clear AW UC
  cases up
  · simp only [Ie.wup, Bool.false_eq_true, if_false] at FU OR ⊢
    go_wp2_with fail
    refine (FU.out _ HT2.out).mono ?_
    rintro e w5 ⟨y, rfl, hy, hB⟩
    have E := OR.out y hy
    have HY := hid hy
    have HB4 := hid (HB3.out.trans (hB.mono HB3.out.size))
    clear hy hB FU OR HB3
    go_wp2_with fail
    go_ret
    exact ⟨_, rfl, HY.out, HB4.out⟩
  · simp only [Ie.wup, if_true] at FU OR ⊢
    go_wp2_with fail
    refine (FU.out _ HT2.out).mono ?_
    rintro e w5 ⟨y, rfl, hy, hB⟩
    have E := OR.out y hy
    have HY := hid hy
    have HB4 := hid (HB3.out.trans (hB.mono HB3.out.size))
    clear hy hB FU OR HB3
    go_wp2_with fail
    go_ret
    exact ⟨_, rfl, HY.out, HB4.out⟩


end Go.Proofs.YtpeecbidojjfpaaDoor

/-
  remain: Floor, Ceil, Near.
-/
namespace Go.Proofs.YtpeecbidojjfpaaDoor
open Go Go.RowKit Go.Deep

/-- Near's turn. -/
def Ie.nrup (U : Int) : Bool := decide (0 < cmpI (U % 2 ^ 1074) (2 ^ 1073) ∨ (cmpI (U % 2 ^ 1074) (2 ^ 1073) = 0 ∧ U / 2 ^ 1074 % 2 = 1))

set_option maxRecDepth 100000 in
theorem nearRule_any (odd : Bool) (c : Int) (w : World) (hc : c = -1 ∨ c = 0 ∨ c = 1) : Calls Tryd.prog 70 #[.bool odd, .int .i64 c] w fun e w' => e = .returned (.bool (decide (0 < c ∨ (c = 0 ∧ odd = true)))) ∧ w' = w := by
  rcases hc with rfl | rfl | rfl
  · go_enter Tryd.func70, Tryd.ntmps70
    go_wp2_with fail
    go_ret
    exact ⟨by cases odd <;> rfl, rfl⟩
  · go_enter Tryd.func70, Tryd.ntmps70
    go_wp2_with fail
    go_ret
    exact ⟨by cases odd <;> rfl, rfl⟩
  · go_enter Tryd.func70, Tryd.ntmps70
    go_wp2_with fail
    go_ret
    exact ⟨by cases odd <;> rfl, rfl⟩



theorem roundedN_any (d : Int) (w : World) (hT : Tab w) (h0 : 0 ≤ d) (h1 : d < 18446744073709551616) :
    Calls Tryd.prog 37 #[.int .u64 d, .func (Fn.func 70) #[] #[]] w fun e w' => ∃ r, e = .returned (.int .u64 r) ∧ Ie.WIs d (Ie.nrup (Ie.un (Ie.ab d))) r ∧ Below w.heap.size w w' := by
  by_cases hi : Ie.fin d ∧ Ie.intg d = false
  · obtain ⟨hf, hi⟩ := hi
    obtain ⟨k, s, q1, q2, q3, q4, q5, q6⟩ := Ie.frac_k hf hi
    refine (rounded_N (Ie.nrup (Ie.un (Ie.ab d))) d k s w hT h0 h1 hf hi q1 q2 q3 q4 (fun wx _ => ?_)).mono ?_
    · rw [q5, q6]
      have cc : cmpI (Ie.un (Ie.ab d) % 2 ^ 1074) (2 ^ 1073) = -1 ∨ cmpI (Ie.un (Ie.ab d) % 2 ^ 1074) (2 ^ 1073) = 0 ∨ cmpI (Ie.un (Ie.ab d) % 2 ^ 1074) (2 ^ 1073) = 1 := by
        generalize Ie.un (Ie.ab d) % 2 ^ 1074 = A
        generalize (2 : Int) ^ 1073 = B
        rw [cmpI]; split <;> (try split) <;> omega
      have e : decide (0 < cmpI (Ie.un (Ie.ab d) % 2 ^ 1074) (2 ^ 1073) ∨ (cmpI (Ie.un (Ie.ab d) % 2 ^ 1074) (2 ^ 1073) = 0 ∧ (Ie.un (Ie.ab d) / 2 ^ 1074 % 2 == 1) = true)) = Ie.nrup (Ie.un (Ie.ab d)) := by
        rw [Ie.nrup, decide_eq_decide, beq_iff_eq]
      rw [← e]
      exact nearRule_any _ _ wx cc
    · rintro e w' ⟨y, rfl, hy, hB⟩
      rw [q5] at hy
      exact ⟨_, rfl, Ie.wis_fin hf hi hy.out, hB⟩
  · refine rounded_stay _ _ d w hT h0 h1 (fun hf => ?_)
    cases g : Ie.intg d
    · exact absurd ⟨hf, g⟩ hi
    · rfl



set_option maxRecDepth 100000 in
theorem near6_any (d : Int) (w : World) (hT : Tab w) (h0 : 0 ≤ d) (h1 : d < 18446744073709551616) :
    Calls Tryd.prog 52 #[.int .u64 d] w fun e w' => ∃ r, e = .returned (.int .u64 r) ∧ Ie.WIs d (Ie.nrup (Ie.un (Ie.ab d))) r ∧ Below w.heap.size w w' := by
  have R := hid (roundedN_any d w hT h0 h1)
  clear hT
  go_enter Tryd.func52, Tryd.ntmps52
  go_wp2_with fail
  refine R.out.mono ?_
  rintro e w' ⟨r, rfl, h⟩
  have H := hid h
  clear h
  go_wp2_with fail
  go_ret
  exact ⟨_, rfl, H.out⟩

theorem Ie.sign_ne (d : Int) (h0 : 0 ≤ d) (h1 : d < 18446744073709551616) : (d / 9223372036854775808 * 9223372036854775808 != 0) = Ie.ngd d := by
  rcases (show d < 9223372036854775808 ∨ 9223372036854775808 ≤ d by omega) with g | g
  · rw [show d / 9223372036854775808 * 9223372036854775808 = 0 by omega, Ie.ngd, decide_eq_false (by omega)]; rfl
  · rw [show d / 9223372036854775808 * 9223372036854775808 = 9223372036854775808 by omega, Ie.ngd, decide_eq_true (by omega)]; rfl


end Go.Proofs.YtpeecbidojjfpaaDoor
