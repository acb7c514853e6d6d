/-
  Texts put together: MLeftF, UOne, ZLess, ZRef16, USplit, ULeftN, QTop, QOrder, QRef1, QRef2, QRef3, QRef4.
-/
import Derived.Test.YtmakkfekomnpbaaGreatDoorRA
import Derived.Test.YtmakkfekomnpbaaGreatDoorRD
import Derived.Test.YtmakkfekomnpbaaGreatDoorRF
import Derived.Test.YtmakkfekomnpbaaGreatDoorRE
import Derived.Test.YtmakkfekomnpbaaGreatDoorRC
import Derived.Test.YtmakkfekomnpbaaGreatDoorSmallA
import Derived.Test.YtmakkfekomnpbaaGreatDoorSmall
import Derived.Test.YtmakkfekomnpbaaGreatDoorQDiv
import Derived.Test.YtmakkfekomnpbaaGreatDoorBare
import Derived.Laws.AppendOwn
import Derived.Laws.OwnMore
import Derived.Test.YtmakkfekomnpbaaGreatDoorQDivMod
/-
  remain: left (made by mkmleft.py).
-/
namespace Go.Proofs.YtmakkfekomnpbaaGreatDoor
open Go Go.RowKit Go.Deep

namespace Ie
/-- What is left, turned or not. -/
def lft (A B : Int) (up : Bool) : Int := if up = true then B - A % B else A % B

theorem left_un {ma mb ea eb x A B : Int} {i j : Nat} (hx : x = min ea eb) (hi : (i : Int) = ea - x) (hj : (j : Int) = eb - x) (e0 : -1074 ≤ ea) (e1 : -1074 ≤ eb) (e2 : ea ≤ 971) (gA : ∀ k : Nat, (k : Int) = ea + 1074 → ma * 2 ^ k = A) (gB : ∀ k : Nat, (k : Int) = eb + 1074 → mb * 2 ^ k = B) :
    ∃ c : Nat, (c : Int) = x + 1074 ∧ c ≤ 2045 ∧ A = ma * 2 ^ i * 2 ^ c ∧ B = mb * 2 ^ j * 2 ^ c := by
  obtain ⟨c, hc⟩ : ∃ c : Nat, (c : Int) = x + 1074 := ⟨(x + 1074).toNat, by omega⟩
  refine ⟨c, hc, by omega, ?_, ?_⟩
  · rw [← gA (i + c) (by omega), Nm.two_add, Int.mul_assoc]
  · rw [← gB (j + c) (by omega), Nm.two_add, Int.mul_assoc]

/-- What left answers. -/
def LeftIs (a b : Int) (up : Bool) (r : Int) : Prop :=
  (isn a = true ∨ isn b = true ∨ isi a = true ∨ isz b = true → r = 9221120237041090560) ∧
  (fin a → isi b = true → r = a) ∧
  (fin a → fin b → ab b ≠ 0 → ∃ y, r = sg (ngd a != up) y ∧ 0 ≤ y ∧ y < 9218868437227405312 ∧ un y = lft (un (ab a)) (un (ab b)) up)
end Ie

set_option maxRecDepth 100000 in
set_option maxHeartbeats 8000000 in
theorem left_F (a b : Int) (up : Bool) (w : World) (hT : Tab w) (a0 : 0 ≤ a) (a1 : a < 18446744073709551616) (b0 : 0 ≤ b) (b1 : b < 18446744073709551616) (fa : Ie.fin a) (fb : Ie.fin b) (zb : Ie.ab b ≠ 0)
    (AW : ∀ wx : World, Below w.heap.size w wx → Calls Tryz.prog 39 #[.bool (Ie.un (Ie.ab a) / Ie.un (Ie.ab b) % 2 == 1), .int .i64 (cmpI (2 * (Ie.un (Ie.ab a) % Ie.un (Ie.ab b))) (Ie.un (Ie.ab b)))] wx fun e w' => e = .returned (.bool up) ∧ w' = wx)
    (UP : up = true → Ie.un (Ie.ab b) ≤ 2 * (Ie.un (Ie.ab a) % Ie.un (Ie.ab b))) :
    Calls Tryz.prog 38 #[.int .u64 a, .int .u64 b, .func (Fn.func 39) #[] #[]] w fun e w' => ∃ y, e = .returned (.int .u64 (Ie.sg (Ie.ngd a != up) y)) ∧ Hid (Ie.un y = Ie.lft (Ie.un (Ie.ab a)) (Ie.un (Ie.ab b)) up ∧ 0 ≤ y ∧ y < 9218868437227405312) ∧ Below w.heap.size w w' := by
  have NA := hid (fun (wx : World) => mnan_any a wx a0 a1)
  have NB := hid (fun (wx : World) => mnan_any b wx b0 b1)
  have IA := hid (fun (wx : World) => minfinite_any a wx a0 a1)
  have IB := hid (fun (wx : World) => minfinite_any b wx b0 b1)
  have ZB := hid (fun (wx : World) => mzero_any b wx b0 b1)
  rw [(Ie.fin_kinds fa).1] at NA
  rw [(Ie.fin_kinds fb).1] at NB
  rw [(Ie.fin_kinds fa).2] at IA
  rw [(Ie.fin_kinds fb).2] at IB
  have zb' : Ie.isz b = false := by rw [Ie.isz, decide_eq_false_iff_not]; exact zb
  rw [zb'] at ZB
  have AL := hid (aligned_any a b w a0 a1 b0 b1 fa fb)
  have SV := Ib.sign_and a a0 a1
  have HT := hid hT
  obtain ⟨⟨ma0, ma1⟩, ⟨ea0, ea1⟩, gA, -⟩ := Ie.dec_f a fa
  obtain ⟨⟨mb0, mb1⟩, ⟨eb0, eb1⟩, gB, mz⟩ := Ie.dec_f b fb
  have mbp : 0 < Ie.dm b := by have := fun g => zb (mz.1 g); omega
  have AW := hid AW
  have e53 : (2 : Int) ^ 53 = 9007199254740992 := by decide
  -- all that is said of numbers
  have NU : Hid (∀ (i j : Nat) (x : Int), x = min (Ie.de a) (Ie.de b) → (i : Int) = Ie.de a - x → (j : Int) = Ie.de b - x → ∃ V1 V2 : Int, V1 = Ie.dm a * 2 ^ i ∧ V2 = Ie.dm b * 2 ^ j ∧ V1 < Nm.pw 4096 ∧ V2 < Nm.pw 4096 ∧ 0 < V2 ∧ 0 ≤ V1 % V2 ∧ V1 % V2 < V2 ∧ V1 % V2 * 2 ^ 1 < Nm.pw 4096 ∧ V1 / V2 < Nm.pw 4096 ∧ V1 / V2 = Ie.un (Ie.ab a) / Ie.un (Ie.ab b) ∧ cmpI (V1 % V2 * 2 ^ 1) V2 = cmpI (2 * (Ie.un (Ie.ab a) % Ie.un (Ie.ab b))) (Ie.un (Ie.ab b)) ∧ (∀ y, Ie.Rnd (Ie.lft V1 V2 up) 1 x false y → Ie.un y = Ie.lft (Ie.un (Ie.ab a)) (Ie.un (Ie.ab b)) up ∧ 0 ≤ y ∧ y < 9218868437227405312)) := by
    intro i j x hx hi hj
    obtain ⟨c, hc, hc2, hA, hB⟩ := Ie.left_un hx hi hj ea0 eb0 ea1 gA gB
    obtain ⟨v2, v1, r0, r1, r2, r3⟩ := Ie.left_bd (i := i) (j := j) (by omega) ma0 ma1 mbp mb1
    have l1 := sh_room (m := Ie.dm a) (i := i) (K := 53) (by omega) (by omega)
    have l2 := sh_room (m := Ie.dm b) (i := j) (K := 53) (by omega) (by omega)
    have hp := Nm.two_pos c
    rw [hA, hB] at UP ⊢
    generalize Ie.dm a * 2 ^ i = V1 at *
    generalize Ie.dm b * 2 ^ j = V2 at *
    have q1 : V1 / V2 ≤ V1 := Int.ediv_le_self _ v1
    have t1 : 2 * (V1 * 2 ^ c % (V2 * 2 ^ c)) = V1 % V2 * 2 ^ 1 * 2 ^ c := by rw [Ie.emod_scale _ _ _ hp, Int.pow_one, Int.mul_comm (V1 % V2) 2, Int.mul_assoc]
    refine ⟨V1, V2, rfl, rfl, l1, l2, v2, r0, r1, ?_, by omega, (Ie.ediv_scale _ _ _ hp).symm, ?_, ?_⟩
    · exact sh_room (K := 53) (i := 1) (by omega) (by omega)
    · rw [t1]
      have g1 := Ie.lt_scale (a := V1 % V2 * 2 ^ 1) (b := V2) hp
      have g2 := Ie.eq_scale (a := V1 % V2 * 2 ^ 1) (b := V2) hp
      exact cmpI_iff g1.symm g2.symm
    · intro y hy
      have key : Ie.lft (V1 * 2 ^ c) (V2 * 2 ^ c) up = Ie.lft V1 V2 up * 2 ^ c := by
        rw [Ie.lft, Ie.lft, Ie.emod_scale _ _ _ hp]
        split
        · rw [Int.sub_mul]
        · rfl
      rw [key]
      refine Ie.rnd_rep hc ?_ ?_ hc2 hy
      · rw [Ie.lft]; split <;> omega
      · rw [Ie.lft]
        split
        · rename_i hu
          have u1 := UP hu
          rw [t1] at u1
          have u2 := Int.le_of_mul_le_mul_right u1 hp
          rw [Int.pow_one] at u2
          exact r3 (by omega)
        · exact r2
  have SG : (a / 9223372036854775808 * 9223372036854775808 != 0) = Ie.ngd a := by
    rcases (show a < 9223372036854775808 ∨ 9223372036854775808 ≤ a by omega) with g | g
    · rw [show a / 9223372036854775808 * 9223372036854775808 = 0 by omega, Ie.ngd, decide_eq_false (by omega)]; rfl
    · rw [show a / 9223372036854775808 * 9223372036854775808 = 9223372036854775808 by omega, Ie.ngd, decide_eq_true (by omega)]; rfl
  clear UP hT ma0 ma1 mb0 mb1 ea0 ea1 eb0 eb1 gA gB mz mbp zb zb' fa fb a0 a1 b0 b1 e53
  generalize a / 9223372036854775808 * 9223372036854775808 = sv at *
  generalize Ie.un (Ie.ab a) = UA at *
  generalize Ie.un (Ie.ab b) = UB at *
  generalize Ie.ngd a = neg at *
  go_enter Tryz.func38, Tryz.ntmps38
  go_wp2_with fail
  refine (NA.out _).mono ?_
  rintro e wz ⟨rfl, hz⟩
  replace hz := hz.symm
  subst hz
  go_wp2_with fail
  refine (NB.out _).mono ?_
  rintro e wz ⟨rfl, hz⟩
  replace hz := hz.symm
  subst hz
  go_wp2_with fail
  refine (IA.out _).mono ?_
  rintro e wz ⟨rfl, hz⟩
  replace hz := hz.symm
  subst hz
  go_wp2_with fail
  refine (ZB.out _).mono ?_
  rintro e wz ⟨rfl, hz⟩
  replace hz := hz.symm
  subst hz
  go_wp2_with fail
  refine (IB.out _).mono ?_
  rintro e wz ⟨rfl, hz⟩
  replace hz := hz.symm
  subst hz
  clear NA NB IA IB ZB
  go_wp2_with fail
  refine AL.out.mono ?_
  rintro e w1 ⟨p, q, os, qs, i, j, x, rfl, A1, A2, hx, hi, hj, hB1⟩
  obtain ⟨V1, V2, hV1, hV2, l1, l2, v2, r0, r1, l3, l4, hq, hc, hy⟩ := NU.out i j x hx hi hj
  rw [← hV1] at A1
  rw [← hV2] at A2
  have D1 := hid (a_div A1 A2 l1 l2 v2)
  have HA2 := hid A2
  have HB1 := hid hB1
  have R1 := hid (And.intro l1 (And.intro l2 (And.intro v2 (And.intro r0 r1))))
  have R2 := hid (And.intro l3 l4)
  have HQ := hid hq
  have HC := hid hc
  have HY := hid hy
  clear A1 A2 hB1 l1 l2 v2 r0 r1 l3 l4 hq hc hy hV1 hV2 hx hi hj NU AL
  go_wp2_with fail
  refine D1.out.mono ?_
  rintro e w2 ⟨r3, o3, r4, o4, rfl, A3, A4, hB⟩
  have HB2 := hid (HB1.out.trans (hB.mono HB1.out.size))
  have HA3 := hid A3
  have HA4 := hid A4
  have HA5 := hid (HA2.out.below hB (Nat.le_refl _))
  have S1 := hid (a_shl 1 A4 R2.out.1)
  clear A3 A4 hB D1 HA2 HB1
  go_wp2_with fail
  refine S1.out.mono ?_
  rintro e w3 ⟨r5, o5, rfl, A, hB⟩
  have HB3 := hid (HB2.out.trans (hB.mono HB2.out.size))
  have HA6 := hid (HA3.out.below hB (Nat.le_refl _))
  have HA7 := hid (HA4.out.below hB (Nat.le_refl _))
  have HA8 := hid (HA5.out.below hB (Nat.le_refl _))
  have BI := hid (a_bit0 HA6.out R2.out.2)
  have CM := hid (a_cmp A HA8.out R2.out.1 R1.out.2.1)
  rw [HQ.out] at BI
  rw [HC.out] at CM
  clear A hB HA3 HA4 HA5 S1 HB2 HA6 HQ HC
  go_wp2_with fail
  refine BI.out.mono ?_
  rintro e wz ⟨rfl, hz⟩
  replace hz := hz.symm
  subst hz
  clear BI
  go_wp2_with fail
  refine CM.out.mono ?_
  rintro e w4 ⟨rfl, hB⟩
  have HB4 := hid (HB3.out.trans (hB.mono HB3.out.size))
  have HA9 := hid (HA7.out.below hB (Nat.le_refl _))
  have HA10 := hid (HA8.out.below hB (Nat.le_refl _))
  have HT4 := hid (HT.out.below HB4.out)
  clear hB HA7 HA8 HB3 CM HT
  go_wp2_with fail
  refine (AW.out _ HB4.out).mono ?_
  rintro e wz ⟨rfl, hz⟩
  replace hz := hz.symm
  subst hz
  clear AW
  cases up
  · have RO := round_any neg r4 _ _ o4 w4 (HA9.out.argT (by have := R1.out.2.2.2.2; have := R1.out.2.1; omega)) HT4.out (HA9.out.tsT (by have := R1.out.2.2.2.2; have := R1.out.2.1; omega)) (V1 % V2) x false HA9.out.2.2.2.1
    have HRO := hid RO
    clear RO HA9 HA10 R1 R2
    go_wp2_with fail
    refine HRO.out.mono ?_
    rintro e w5 ⟨y, rfl, hR, hB⟩
    have HB5 := hid (HB4.out.trans (hB.mono HB4.out.size))
    have KY := hid (HY.out y hR)
    clear hB hR HRO HY HB4
    go_wp2_with fail
    go_ret
    exact ⟨y, i_retU (show Ie.sg neg y = _ by rw [Bool.bne_false]), KY.out, HB5.out⟩
  · have SU := hid (a_sub HA10.out HA9.out R1.out.2.1 (Int.le_of_lt R1.out.2.2.2.2))
    have RB : Hid (V2 - V1 % V2 < Nm.pw 4096) := by
      have := R1.out.2.2.2.1
      have := R1.out.2.1
      show V2 - V1 % V2 < Nm.pw 4096
      omega
    clear HA9 HA10 R1 R2
    go_wp2_with fail
    refine SU.out.mono ?_
    rintro e w5 ⟨r6, o6, rfl, A, hB⟩
    have HB5 := hid (HB4.out.trans (hB.mono HB4.out.size))
    have HT5 := hid (HT4.out.below hB)
    have HRO := hid (round_any (!neg) r6 _ _ o6 w5 (A.argT RB.out) HT5.out (A.tsT RB.out) (V2 - V1 % V2) x false A.2.2.2.1)
    clear A hB SU HB4 HT4 RB
    go_wp2_with fail
    refine HRO.out.mono ?_
    rintro e w6 ⟨y, rfl, hR, hB⟩
    have HB6 := hid (HB5.out.trans (hB.mono HB5.out.size))
    have KY := hid (HY.out y hR)
    clear hB hR HRO HY HB5
    go_wp2_with fail
    go_ret
    exact ⟨y, i_retU (show Ie.sg (!neg) y = _ by rw [Bool.bne_true]), KY.out, HB6.out⟩
end Go.Proofs.YtmakkfekomnpbaaGreatDoor

/-
  What layer 6 answers leaves one answer.
-/
namespace Go.Proofs.YtmakkfekomnpbaaGreatDoor
namespace Ie

theorem kind3 (d : Int) : isn d = true ∨ isi d = true ∨ fin d := by
  simp only [isn, isi, fin, decide_eq_true_iff]
  omega

theorem WIs.one {d r r' : Int} {up : Bool} (h : WIs d up r) (h' : WIs d up r') : r = r' := by
  rcases kind3 d with k | k | k
  · rw [h.1 k, h'.1 k]
  · rw [h.2.1 k, h'.2.1 k]
  · obtain ⟨y, rfl, y0, -, a, b⟩ := h.2.2 k
    obtain ⟨y', rfl, y0', -, a', b'⟩ := h'.2.2 k
    cases g : intg d
    · rw [un_inj y0 y0' ((b g).trans (b' g).symm)]
    · rw [a g, a' g]

theorem ScaleIs.one {d n r r' : Int} (h : ScaleIs d n r) (h' : ScaleIs d n r') : r = r' := by
  rcases kind3 d with k | k | k
  · rw [h.1 k, h'.1 k]
  · rw [h.2.1 k, h'.2.1 k]
  · obtain ⟨y, rfl, a⟩ := h.2.2 k
    obtain ⟨y', rfl, a'⟩ := h'.2.2 k
    rw [a.one (by decide) (by decide) a' (a := 0) (a' := 0) (by omega) rfl]

theorem SplitIs.one {d r s r' s' : Int} (h : SplitIs d r s) (h' : SplitIs d r' s') : r = r' ∧ s = s' := by
  rcases kind3 d with k | k | k
  · exact ⟨(h.1 k).1.trans (h'.1 k).1.symm, (h.1 k).2.trans (h'.1 k).2.symm⟩
  · exact ⟨(h.2.1 k).1.trans (h'.2.1 k).1.symm, (h.2.1 k).2.trans (h'.2.1 k).2.symm⟩
  · obtain ⟨y, z, rfl, rfl, y0, -, a, z0, -, b⟩ := h.2.2 k
    obtain ⟨y', z', rfl, rfl, y0', -, a', z0', -, b'⟩ := h'.2.2 k
    rw [un_inj y0 y0' (a.trans a'.symm), un_inj z0 z0' (b.trans b'.symm)]
    exact ⟨rfl, rfl⟩

theorem LeftIs.one {a b r r' : Int} {up : Bool} (h : LeftIs a b up r) (h' : LeftIs a b up r') : r = r' := by
  by_cases g : isn a = true ∨ isn b = true ∨ isi a = true ∨ isz b = true
  · rw [h.1 g, h'.1 g]
  · have fa : fin a := by
      rcases kind3 a with k | k | k
      · exact absurd (.inl k) g
      · exact absurd (.inr (.inr (.inl k))) g
      · exact k
    rcases kind3 b with k | k | k
    · exact absurd (.inr (.inl k)) g
    · rw [h.2.1 fa k, h'.2.1 fa k]
    · have zb : ab b ≠ 0 := fun e => g (.inr (.inr (.inr (by rw [isz, decide_eq_true_iff]; exact e))))
      obtain ⟨y, rfl, y0, -, e⟩ := h.2.2 fa k zb
      obtain ⟨y', rfl, y0', -, e'⟩ := h'.2.2 fa k zb
      rw [un_inj y0 y0' (e.trans e'.symm)]

theorem PowIs.one {m e n r r' : Int} (m0 : 0 < m) (h : PowIs m e n r) (h' : PowIs m e n r') : r = r' := by
  rcases (show 0 ≤ n ∨ n < 0 by omega) with g | g
  · exact (h.1 n.toNat (by omega)).one (by decide) (by decide) (h'.1 n.toNat (by omega)) (a := 0) (a' := 0) (by omega) rfl
  · have p : 0 < m ^ (-n).toNat := Int.pow_pos m0
    exact (h.2 (-n).toNat (by omega)).one p p (h'.2 (-n).toNat (by omega)) (a := 0) (a' := 0) (by omega) rfl

theorem SizeIs.one {x n y y' : Int} (hn : isn x = false) (h : SizeIs x n y) (h' : SizeIs x n y') : y = y' := by
  by_cases z : isz x = true
  · rw [h.1 z, h'.1 z]
  · by_cases i : isi x = true
    · rw [h.2.1 i, h'.2.1 i]
    · have fx : fin x := by
        rcases kind3 x with k | k | k
        · rw [hn] at k; cases k
        · exact absurd k i
        · exact k
      have zx : ab x ≠ 0 := fun e => z (by rw [isz, decide_eq_true_iff]; exact e)
      obtain ⟨⟨d0, -⟩, -, -, dz⟩ := dec_f x fx
      have dp : 0 < dm x := by
        rcases (show dm x = 0 ∨ 0 < dm x by omega) with q | q
        · exact absurd (dz.1 q) zx
        · exact q
      exact (h.2.2.1 fx zx).one dp (h'.2.2.1 fx zx)

theorem PwrIs.one {x n r f r' f' : Int} (h : PwrIs x n r f) (h' : PwrIs x n r' f') : r = r' ∧ f = f' := by
  by_cases g : n < -1024 ∨ 1024 < n
  · exact ⟨(h.1 g).1.trans (h'.1 g).1.symm, (h.1 g).2.trans (h'.1 g).2.symm⟩
  · obtain ⟨e, a, b⟩ := h.2 (by omega) (by omega)
    obtain ⟨e', a', b'⟩ := h'.2 (by omega) (by omega)
    refine ⟨?_, e.trans e'.symm⟩
    by_cases z : n = 0
    · rw [a z, a' z]
    · cases k : isn x
      · obtain ⟨y, rfl, hy⟩ := (b z).2 k
        obtain ⟨y', rfl, hy'⟩ := (b' z).2 k
        rw [hy.one k hy']
      · rw [(b z).1 k, (b' z).1 k]

theorem PowYIs.one {x y r f r' f' : Int} (h : PowYIs x y r f) (h' : PowYIs x y r' f') : r = r' ∧ f = f' := by
  by_cases g : ∃ n : Int, -1024 ≤ n ∧ n ≤ 1024 ∧ fin y ∧ sn (ngd y) (un (ab y)) = n * 2 ^ 1074
  · obtain ⟨n, n0, n1, hf, hn⟩ := g
    exact (h.1 n n0 n1 hf hn).one (h'.1 n n0 n1 hf hn)
  · have q : ∀ n : Int, -1024 ≤ n → n ≤ 1024 → fin y → sn (ngd y) (un (ab y)) ≠ n * 2 ^ 1074 := fun n a b c d => g ⟨n, a, b, c, d⟩
    exact ⟨(h.2 q).1.trans (h'.2 q).1.symm, (h.2 q).2.trans (h'.2 q).2.symm⟩
end Ie
end Go.Proofs.YtmakkfekomnpbaaGreatDoor

namespace Go.Proofs.YtmakkfekomnpbaaGreatDoor
open Go.RowKit Go.Deep

namespace Nm
theorem v32_lt : ∀ zs : List Int, Halves zs → v32 zs < p32 zs.length
  | [], _ => by simp [v32, p32]
  | z :: zs, h => by
    have h1 := v32_lt zs (fun x hx => h x (List.mem_cons_of_mem _ hx))
    have h2 := h z List.mem_cons_self
    simp only [v32, List.length_cons, p32]
    omega

theorem v32_split : ∀ (zs : List Int) (k : Nat), v32 zs = v32 (zs.take k) + p32 k * v32 (zs.drop k)
  | zs, 0 => by simp [v32, p32]
  | [], k + 1 => by simp [v32]
  | z :: zs, k + 1 => by
    have := v32_split zs k
    simp only [List.take_succ_cons, List.drop_succ_cons, v32, p32]
    rw [Int.mul_assoc]
    omega

theorem Halves.drop {zs : List Int} (h : Halves zs) (k : Nat) : Halves (zs.drop k) := fun z hz => h z (List.mem_of_mem_drop hz)

theorem less_step {ss xs ys : List Int} {j : Nat} {c c' lo : Int} (hl : ss.length = j) (h : v32 ss + p32 j * (-c) = v32 (xs.take j) - v32 (ys.take j)) (hs : lo + 4294967296 * (-c') = (-c) + xs.getD j 0 + (-ys.getD j 0)) :
    v32 (ss ++ [lo]) + p32 (j + 1) * (-c') = v32 (xs.take (j + 1)) - v32 (ys.take (j + 1)) := by
  rw [v32_snoc, v32_take_next, v32_take_next, hl]
  have e : p32 j * (lo + 4294967296 * (-c')) = p32 j * ((-c) + xs.getD j 0 + (-ys.getD j 0)) := by rw [hs]
  rw [Int.mul_add, Int.mul_add, Int.mul_add, Int.mul_neg (p32 j) (ys.getD j 0)] at e
  have e2 : p32 (j + 1) * (-c') = p32 j * (4294967296 * (-c')) := by simp only [p32]; rw [Int.mul_comm 4294967296 (p32 j), Int.mul_assoc]
  omega

theorem less_end {ss xs ys : List Int} {l : Nat} {c A B : Int} (hl : ss.length = l) (hx : xs.length = l) (hs : Halves ss) (hy : Halves ys) (vx : v32 xs = A) (vy : v32 ys = B) (hc : 0 ≤ c) (hle : B ≤ A) (h : v32 ss + p32 l * (-c) = v32 (xs.take l) - v32 (ys.take l)) : v32 ss = A - B := by
  rw [List.take_of_length_le (by omega), vx] at h
  have h1 := v32_split ys l
  have h2 := v32_lt ss hs
  have h3 := v32_nonneg _ (hy.drop l)
  have h4 := p32_pos l
  rw [hl] at h2
  rw [vy] at h1
  rw [Int.mul_neg] at h
  obtain ⟨r, hr⟩ : ∃ r, v32 (ys.drop l) = r := ⟨_, rfl⟩
  rw [hr] at h1 h3
  have e : p32 l * (c + r) = p32 l * c + p32 l * r := Int.mul_add _ _ _
  have h5 : c + r = 0 := by
    rcases (show c + r = 0 ∨ 1 ≤ c + r by omega) with h6 | h6
    · exact h6
    · have h7 : p32 l * 1 ≤ p32 l * (c + r) := Int.mul_le_mul_of_nonneg_left h6 (by omega)
      omega
  rw [h5, Int.mul_zero] at e
  omega
end Nm

set_option maxRecDepth 20000 in
set_option maxHeartbeats 4000000 in
theorem less_any (p q : Option Addr) (n cap m cap' : Nat) (za zb : List Int) (w : World) (ha : Arg w p n cap za) (hb : Arg w q m cap' zb) (hn : Nm.tsize za ≤ 1099511627776) (hle : Nm.val zb ≤ Nm.val za) :
    Calls Tryz.prog 50 #[.slice p n cap, .slice q m cap'] w fun e w' => ∃ r os, e = .returned (.slice r (List.length os) (List.length os)) ∧ Ans w.heap.size w' r os (Nm.val za - Nm.val zb) ∧ Below w.heap.size w w' := by
  have LE := hid hle
  clear hle
  have HA := hid ha
  have HB0 := hid hb
  clear ha hb
  go_enter Tryz.func50, Tryz.ntmps50
  go_wp2_with fail
  refine (halves_any p n cap za _ HA.out (by have := HA.out.2.1; have := HA.out.2.2.1; omega)).mono ?_
  rintro e w1 ⟨xs, rfl, lx, hx, vx, kx, bx⟩
  have HB1 := hid (HB0.out.below bx (Nat.le_refl _))
  have D1 := hid bx
  obtain ⟨l1, LX⟩ : ∃ l1, Hid (xs.length = l1) := ⟨_, rfl⟩
  have LX0 := hid lx
  have HX := hid hx
  have VX := hid vx
  have kx1 : l1 ≤ 2 * Nm.tsize za := by have := LX.out; omega
  rw [LX.out]
  clear lx hx vx kx bx HB0
  go_wp2_with fail
  refine (halves_any q m cap' zb _ HB1.out (by have := HB1.out.2.1; have := HB1.out.2.2.1; omega)).mono ?_
  rintro e w2 ⟨ys, rfl, ly, hy, vy, ky, by_⟩
  have D2 := hid (chain D1.out by_ (Nat.le_refl _))
  obtain ⟨l2, LY⟩ : ∃ l2, Hid (ys.length = l2) := ⟨_, rfl⟩
  have HY := hid hy
  have VY := hid vy
  have ky1 : l2 ≤ 2 * Nm.tsize zb := by have := LY.out; omega
  obtain ⟨g1, G1⟩ : ∃ g1, w.heap.size = g1 := ⟨_, rfl⟩
  obtain ⟨g2, G2⟩ : ∃ g2, w1.heap.size = g2 := ⟨_, rfl⟩
  have LX2 := LX0.out.below by_ (Nat.le_refl _)
  rw [G1] at LX2
  have ly2 := ly
  rw [G2] at ly2
  have CX : Hid (∀ i, i < l1 → w2.cell? ⟨g1, i, none⟩ = some (.int .u64 (xs.getD i 0))) := fun i hi => by have := LX2.cells i (by have := LX.out; omega); rwa [Nat.zero_add] at this
  have CY : Hid (∀ i, i < l2 → w2.cell? ⟨g2, i, none⟩ = some (.int .u64 (ys.getD i 0))) := fun i hi => by have := ly2.cells i (by have := LY.out; omega); rwa [Nat.zero_add] at this
  obtain ⟨g, Gg⟩ : ∃ g, Hid (w2.heap.size = g) := ⟨_, rfl⟩
  have BX : Hid (∀ {j : Nat}, j < l1 → g1 < g) := fun {j} hj => by rw [← Gg.out]; exact cell_lt (CX.out j hj)
  have BY : Hid (∀ {j : Nat}, j < l2 → g2 < g) := fun {j} hj => by rw [← Gg.out]; exact cell_lt (CY.out j hj)
  rw [LY.out, G1, G2]
  clear ly hy vy ky by_ LX0 LX2 ly2 HB1 D1 G2
  have hmk := make64_room l1 (by omega) w2
  rw [Gg.out] at hmk
  have bm := hid ((Below.refl w2.heap.size w2).alloc (Nat.le_refl _) (.cells (madeCells #[.int .u64 0] l1) 26))
  have gm := hid (Grown.made w2 l1)
  rw [Gg.out] at bm gm
  generalize w2.alloc (.cells (madeCells #[.int .u64 0] l1) 26) = wm at hmk bm gm
  go_wp2
  clear hmk
  go_loopw [7, 8, 9] (fun a c i wr => ∃ (j : Nat) (cc : Int) (ss : List Int), j ≤ l1 ∧ i = .int .i64 j ∧ a = .slice (some ⟨g, 0, none⟩) j l1 ∧ c = .int .u64 cc ∧ 0 ≤ cc ∧ cc ≤ 1 ∧ Hid (Grown wr g ss (l1 - j)) ∧ Hid (ss.length = j) ∧ Hid (Nm.Halves ss) ∧ Hid (Nm.v32 ss + Nm.p32 j * (-cc) = Nm.v32 (xs.take j) - Nm.v32 (ys.take j)) ∧ Below g w2 wr) (fun _ _ i _ => l1 - (intOf i).toNat)
  case atStart => exact ⟨0, 0, [], Nat.zero_le _, rfl, rfl, rfl, by omega, by omega, gm.out, rfl, Nm.Halves.nil, rfl, bm.out⟩
  case round =>
    obtain ⟨j, cc, ss, hj, rfl, rfl, rfl, hc0, hc1, G, L, HS, V, hB⟩ := hrel
    by_cases h1 : j < l1
    · obtain ⟨x, hx, X⟩ : ∃ x, wr.cell? ⟨g1, j, none⟩ = some (.int .u64 x) ∧ Hid (x = xs.getD j 0) := ⟨_, (hB.cell (p := ⟨g1, j, none⟩) (BX.out h1)).trans (CX.out j h1), rfl⟩
      have hx0 : 0 ≤ x := by have := HX.out.at j; have := X.out; omega
      have hx1 : x < 4294967296 := by have := HX.out.at j; have := X.out; omega
      have h1' : (j : Int) < (l1 : Int) := by omega
      have G' := G.out
      rw [show l1 - j = (l1 - j - 1) + 1 by omega] at G'
      by_cases h2 : j < l2
      · skip
        obtain ⟨y, hy, Y⟩ : ∃ y, wr.cell? ⟨g2, j, none⟩ = some (.int .u64 y) ∧ Hid (y = ys.getD j 0) := ⟨_, (hB.cell (p := ⟨g2, j, none⟩) (BY.out h2)).trans (CY.out j h2), rfl⟩
        have hy0 : 0 ≤ y := by have := HY.out.at j; have := Y.out; omega
        have hy1 : y < 4294967296 := by have := HY.out.at j; have := Y.out; omega
        have h2' : (j : Int) < (l2 : Int) := by omega
        obtain ⟨o, ho, O⟩ : ∃ o, IntKind.u64.wrap (cc + y) = o ∧ Hid (o = cc + y) := ⟨_, by rw [IntKind.wrap_u64, Int.emod_eq_of_lt (by omega) (by omega)], rfl⟩
        have ho0 : 0 ≤ o := by have := O.out; omega
        have ho1 : o ≤ 4294967296 := by have := O.out; omega
        by_cases hd : x < o
        · skip
          obtain ⟨d, hd1, DD⟩ : ∃ d, IntKind.u64.wrap (x + 4294967296) = d ∧ Hid (d = x + 4294967296) := ⟨_, by rw [IntKind.wrap_u64, Int.emod_eq_of_lt (by omega) (by omega)], rfl⟩
          have hd2 : 4294967296 ≤ d := by have := DD.out; omega
          have hd3 : d < 8589934592 := by have := DD.out; omega
          obtain ⟨z, hz, Z⟩ : ∃ z, IntKind.u64.wrap (d - o) = z ∧ Hid (z = d - o) := ⟨_, by rw [IntKind.wrap_u64, Int.emod_eq_of_lt (by omega) (by omega)], rfl⟩
          have BZ : Hid (0 ≤ z ∧ z < 4294967296) := by have := Z.out; have := DD.out; show _ ∧ _; omega
          have ST : Hid (z + 4294967296 * (-1) = (-cc) + x + (-y)) := by have := Z.out; have := DD.out; have := O.out; show _ = _; omega
          obtain ⟨w2, ap, gr, be, sz⟩ := push64 g j (l1 - j - 1) l1 ss z wr L.out (by omega) G'
          have AP := hid ap
          have GR := hid gr
          have BE := hid (hB.trans be)
          clear ap gr be sz hB G G'
          go_wp2_with (at_builtin; refine wpList_append_row rfl _ _ rfl AP.out (by rfl) (by rfl) ?_; clear AP)
          go_roundw
          case rel =>
            refine ⟨j + 1, 1, ss ++ [z], by omega, by go_num, rfl, rfl, by omega, by omega, GR.out, ?_, HS.out.snoc BZ.out.1 BZ.out.2, ?_, BE.out⟩
            · have := L.out; simp only [Hid, List.length_append, List.length_cons, List.length_nil]; omega
            · exact Nm.less_step L.out V.out (by rw [← X.out, ← Y.out]; exact ST.out)
          case measure => simp [intOf]; omega
        · skip
          obtain ⟨z, hz, Z⟩ : ∃ z, IntKind.u64.wrap (x - o) = z ∧ Hid (z = x - o) := ⟨_, by rw [IntKind.wrap_u64, Int.emod_eq_of_lt (by omega) (by omega)], rfl⟩
          have BZ : Hid (0 ≤ z ∧ z < 4294967296) := by have := Z.out; show _ ∧ _; omega
          have ST : Hid (z + 4294967296 * (-0) = (-cc) + x + (-y)) := by have := Z.out; have := O.out; show _ = _; omega
          obtain ⟨w2, ap, gr, be, sz⟩ := push64 g j (l1 - j - 1) l1 ss z wr L.out (by omega) G'
          have AP := hid ap
          have GR := hid gr
          have BE := hid (hB.trans be)
          clear ap gr be sz hB G G'
          go_wp2_with (at_builtin; refine wpList_append_row rfl _ _ rfl AP.out (by rfl) (by rfl) ?_; clear AP)
          go_roundw
          case rel =>
            refine ⟨j + 1, 0, ss ++ [z], by omega, by go_num, rfl, rfl, by omega, by omega, GR.out, ?_, HS.out.snoc BZ.out.1 BZ.out.2, ?_, BE.out⟩
            · have := L.out; simp only [Hid, List.length_append, List.length_cons, List.length_nil]; omega
            · exact Nm.less_step L.out V.out (by rw [← X.out, ← Y.out]; exact ST.out)
          case measure => simp [intOf]; omega
      · skip
        obtain ⟨y, hy0, Y⟩ : ∃ y : Int, y = 0 ∧ Hid (y = ys.getD j 0) := ⟨0, rfl, by simp [Hid, List.getD, List.getElem?_eq_none (show ys.length ≤ j by have := LY.out; omega)]⟩
        have h2' : ¬ (j : Int) < (l2 : Int) := by omega
        have O : Hid (cc = cc + y) := by show _ = _; omega
        by_cases hd : x < cc
        · skip
          obtain ⟨d, hd1, DD⟩ : ∃ d, IntKind.u64.wrap (x + 4294967296) = d ∧ Hid (d = x + 4294967296) := ⟨_, by rw [IntKind.wrap_u64, Int.emod_eq_of_lt (by omega) (by omega)], rfl⟩
          have hd2 : 4294967296 ≤ d := by have := DD.out; omega
          have hd3 : d < 8589934592 := by have := DD.out; omega
          obtain ⟨z, hz, Z⟩ : ∃ z, IntKind.u64.wrap (d - cc) = z ∧ Hid (z = d - cc) := ⟨_, by rw [IntKind.wrap_u64, Int.emod_eq_of_lt (by omega) (by omega)], rfl⟩
          have BZ : Hid (0 ≤ z ∧ z < 4294967296) := by have := Z.out; have := DD.out; show _ ∧ _; omega
          have ST : Hid (z + 4294967296 * (-1) = (-cc) + x + (-y)) := by have := Z.out; have := DD.out; have := O.out; show _ = _; omega
          obtain ⟨w2, ap, gr, be, sz⟩ := push64 g j (l1 - j - 1) l1 ss z wr L.out (by omega) G'
          have AP := hid ap
          have GR := hid gr
          have BE := hid (hB.trans be)
          clear ap gr be sz hB G G'
          go_wp2_with (at_builtin; refine wpList_append_row rfl _ _ rfl AP.out (by rfl) (by rfl) ?_; clear AP)
          go_roundw
          case rel =>
            refine ⟨j + 1, 1, ss ++ [z], by omega, by go_num, rfl, rfl, by omega, by omega, GR.out, ?_, HS.out.snoc BZ.out.1 BZ.out.2, ?_, BE.out⟩
            · have := L.out; simp only [Hid, List.length_append, List.length_cons, List.length_nil]; omega
            · exact Nm.less_step L.out V.out (by rw [← X.out, ← Y.out]; exact ST.out)
          case measure => simp [intOf]; omega
        · skip
          obtain ⟨z, hz, Z⟩ : ∃ z, IntKind.u64.wrap (x - cc) = z ∧ Hid (z = x - cc) := ⟨_, by rw [IntKind.wrap_u64, Int.emod_eq_of_lt (by omega) (by omega)], rfl⟩
          have BZ : Hid (0 ≤ z ∧ z < 4294967296) := by have := Z.out; show _ ∧ _; omega
          have ST : Hid (z + 4294967296 * (-0) = (-cc) + x + (-y)) := by have := Z.out; have := O.out; show _ = _; omega
          obtain ⟨w2, ap, gr, be, sz⟩ := push64 g j (l1 - j - 1) l1 ss z wr L.out (by omega) G'
          have AP := hid ap
          have GR := hid gr
          have BE := hid (hB.trans be)
          clear ap gr be sz hB G G'
          go_wp2_with (at_builtin; refine wpList_append_row rfl _ _ rfl AP.out (by rfl) (by rfl) ?_; clear AP)
          go_roundw
          case rel =>
            refine ⟨j + 1, 0, ss ++ [z], by omega, by go_num, rfl, rfl, by omega, by omega, GR.out, ?_, HS.out.snoc BZ.out.1 BZ.out.2, ?_, BE.out⟩
            · have := L.out; simp only [Hid, List.length_append, List.length_cons, List.length_nil]; omega
            · exact Nm.less_step L.out V.out (by rw [← X.out, ← Y.out]; exact ST.out)
          case measure => simp [intOf]; omega
    · have h1' : ¬ (j : Int) < (l1 : Int) := by omega
      obtain rfl : j = l1 := by omega
      have D3 := hid (chain D2.out (by rw [Gg.out]; exact hB) (Nat.le_refl _))
      have VV : Hid (Nm.v32 ss = Nm.val za - Nm.val zb) := Nm.less_end L.out LX.out HS.out HY.out VX.out VY.out hc0 LE.out V.out
      have AG : Hid (Arg wr (some ⟨g, 0, none⟩) j j ss) := ⟨L.out, Nat.le_refl _, by omega, G.out.lies, HS.out.limbs⟩
      have hw3 : Hid (w.heap.size ≤ wr.heap.size) := D3.out.size
      clear hB G
      go_wp2_with fail
      refine (rlimbs_any _ j j ss _ AG.out HS.out).mono ?_
      rintro e w4 ⟨r, os, rfl, hA, hb⟩
      rw [VV.out] at hA
      have A4 := hid (hA.mono hw3.out)
      have D4 := hid (chain D3.out hb (Nat.le_refl _))
      clear hA hb
      go_wp2
      go_ret
      exact ⟨r, os, rfl, A4.out, D4.out⟩
end Go.Proofs.YtmakkfekomnpbaaGreatDoor

namespace Go.Proofs.YtmakkfekomnpbaaGreatDoor
open Go.RowKit Go.Deep

theorem refToUint_any (p : Option Addr) (n cap : Nat) (zs : List Int) (w : World) (ha : Arg w p n cap zs) :
    Calls Tryz.prog 49 #[.slice p n cap] w fun e w' => e = .returned (.tuple #[.int .u64 (toU zs), .bool (decide (Nm.tsize zs ≤ 1))]) ∧ w' = w := by
  obtain ⟨a1, a2, a3, a4, a5⟩ := ha
  have tl := Nm.tsize_le zs
  have S1 := refSize_any p n cap zs w a1 (by omega) a4
  rcases (show Nm.tsize zs = 0 ∨ Nm.tsize zs = 1 ∨ 1 < Nm.tsize zs by omega) with h | h | h
  · have E : Hid (0 = toU zs ∧ true = decide (Nm.tsize zs ≤ 1)) := by simp [Hid, toU, h]
    rw [h] at S1
    have HS := hid S1
    clear S1 h
    go_enter Tryz.func49, Tryz.ntmps49
    go_wp2_with fail
    refine HS.out.mono ?_
    rintro e w' ⟨rfl, rfl⟩
    go_wp2
    go_ret2
    exact ⟨ret_to E.out.1 E.out.2, rfl⟩
  · have E : Hid (zs.getD 0 0 = toU zs ∧ true = decide (Nm.tsize zs ≤ 1)) := by simp [Hid, toU, h]
    obtain ⟨b, off, rfl, hbw, HC⟩ := a4.at (by omega)
    have hc := HC.out 0 (by omega)
    rw [Nat.add_zero] at hc
    have hn : (0 : Int) < (n : Int) := by omega
    rw [h] at S1
    have HS := hid S1
    clear S1 h
    go_enter Tryz.func49, Tryz.ntmps49
    go_wp2_with fail
    refine HS.out.mono ?_
    rintro e w' ⟨rfl, rfl⟩
    go_wp2
    go_ret2
    exact ⟨ret_to E.out.1 E.out.2, rfl⟩
  · have E : Hid (0 = toU zs ∧ false = decide (Nm.tsize zs ≤ 1)) := by
      refine ⟨?_, ?_⟩
      · rw [toU, if_neg (by omega)]
      · simp; omega
    have h1 : ((Nm.tsize zs : Int) == 0) = false := by rw [beq_eq_false_iff_ne]; omega
    have h2 : (1 : Int) < (Nm.tsize zs : Int) := by omega
    have HS := hid S1
    clear S1 h
    go_enter Tryz.func49, Tryz.ntmps49
    go_wp2_with fail
    refine HS.out.mono ?_
    rintro e w' ⟨rfl, rfl⟩
    go_wp2
    go_ret2
    exact ⟨ret_to E.out.1 E.out.2, rfl⟩
end Go.Proofs.YtmakkfekomnpbaaGreatDoor

/-
  The document's layer 6: Split (made by mkusplit.py).
-/
namespace Go.Proofs.YtmakkfekomnpbaaGreatDoor
open Go Go.RowKit Go.Deep

namespace Ie
theorem split_stay {d : Int} (h0 : 0 ≤ d) (h1 : d < 18446744073709551616) (hf : fin d) (he : 0 ≤ de d) : SplitIs d d (sg (ngd d) 0) := by
  obtain ⟨-, -, g, -⟩ := dec_f d hf
  obtain ⟨k, hk⟩ : ∃ k : Nat, (k : Int) = de d := ⟨(de d).toNat, by omega⟩
  have e := g (k + 1074) (by omega)
  have u : un (ab d) = dm d * 2 ^ k * 2 ^ 1074 := by rw [← e, Nm.two_add, Int.mul_assoc]
  have p := Nm.two_pos 1074
  refine ⟨fun k => (by rw [(fin_kinds hf).1] at k; cases k), fun k => (by rw [(fin_kinds hf).2] at k; cases k), fun _ => ⟨ab d, 0, sg_ab d h0 h1, rfl, (ab_bd d).1, hf, ?_, by omega, by omega, ?_⟩⟩
  · rw [u, Int.mul_ediv_cancel _ (by omega)]
  · rw [u, un_zero, Int.mul_emod_left]

theorem split_of {d r z : Int} {k : Nat} (hf : fin d) (hk : de d = -(k : Int)) (k2 : k ≤ 1074) (hW : WIs d false r) (hz : Rnd (dm d % 2 ^ k) 1 (-(k : Int)) false z) : SplitIs d r (sg (ngd d) z) := by
  obtain ⟨⟨m0, m1⟩, -, g, -⟩ := dec_f d hf
  obtain ⟨c, hc⟩ : ∃ c : Nat, (c : Int) = -(k : Int) + 1074 := ⟨1074 - k, by omega⟩
  have u := g c (by omega)
  have e : (2 : Int) ^ 1074 = 2 ^ k * 2 ^ c := by rw [← Nm.two_add]; congr 1; omega
  have pk := Nm.two_pos k
  have pc := Nm.two_pos c
  have r0 := Int.emod_nonneg (dm d) (show (2 : Int) ^ k ≠ 0 by omega)
  have r1 : dm d % 2 ^ k ≤ dm d := by
    have h1 := Int.emod_add_mul_ediv (dm d) (2 ^ k)
    have h2 : 0 ≤ 2 ^ k * (dm d / 2 ^ k) := Int.mul_nonneg (by omega) (Int.ediv_nonneg m0 (by omega))
    omega
  obtain ⟨q1, q2, q3⟩ := rnd_rep hc r0 (by omega) (by omega) hz
  have mo : un z = un (ab d) % 2 ^ 1074 := by rw [q1, ← u, e, emod_scale _ _ _ pc]
  refine ⟨fun k => (by rw [(fin_kinds hf).1] at k; cases k), fun k => (by rw [(fin_kinds hf).2] at k; cases k), fun _ => ?_⟩
  obtain ⟨y, rfl, y0, y1, a, b⟩ := hW.2.2 hf
  refine ⟨y, z, rfl, rfl, y0, y1, ?_, q2, q3, mo⟩
  cases i : intg d
  · rw [b i, wup]; rfl
  · rw [a i]
    have h := (intg_iff_un hf).1 i
    have h1 := Int.emod_add_mul_ediv (un (ab d)) (2 ^ 1074)
    rw [h, Int.zero_add, Int.mul_comm] at h1
    exact h1.symm
end Ie

theorem uTo (wx : World) (r : Option Addr) (os : List Int) (B : Nat) (V : Int) (A : Ans B wx r os V) (hb : V < 18446744073709551616) :
    Calls Tryz.prog 49 #[.slice r os.length os.length] wx fun e w' => e = .returned (.tuple #[.int .u64 V, .bool true]) ∧ w' = wx := by
  have lt : V < Nm.pw 4096 := by have := Nm.pw_mono (show 1 ≤ 4096 by omega); have e : Nm.pw 1 = 18446744073709551616 := by decide
                                 omega
  have h1 := refToUint_any r _ _ os wx (A.argT lt)
  rw [toU_val A.2.1 (by rw [A.2.2.2.1]; exact hb), A.2.2.2.1] at h1
  have h2 : Nm.tsize os ≤ 1 := (Nm.tsize_le_iff A.2.1 1).2 (by rw [A.2.2.2.1]; exact hb)
  simpa [h2] using h1

set_option maxRecDepth 100000 in
set_option maxHeartbeats 8000000 in
theorem usplit_any (d : Int) (w : World) (h0 : 0 ≤ d) (h1 : d < 18446744073709551616) :
    Calls Tryz.prog 22 #[.int .u64 d] w fun e w' => ∃ r s, e = .returned (.tuple #[.int .u64 r, .int .u64 s]) ∧ Ie.SplitIs d r s ∧ Below w.heap.size w w' := by
  have D := hid (fun (wx : World) => zdecode_any d wx h0 h1)
  rw [← Ie.ngd] at D
  have c4 := Ie.isn_cls d
  have c3 := Ie.isi_cls d
  have SG := hid (fun (wx : World) => usigned_any (Ie.ngd d) 0 wx (by omega) (by omega))
  simp only [partsOf] at D
  rcases Ie.kinds d with g | ⟨g, g', g''⟩ | ⟨g, g', g''⟩
  · have E : Hid (Ie.SplitIs d 9221120237041090560 9221120237041090560) := ⟨fun _ => ⟨rfl, rfl⟩, fun k => (by simp only [Ie.isn, Ie.isi, decide_eq_true_iff] at g k; omega), fun k => (by simp only [Ie.isn, Ie.fin, decide_eq_true_iff] at g k; omega)⟩
    obtain ⟨c, hc⟩ : ∃ c, Ie.cls d = c := ⟨_, rfl⟩
    rw [g, hc, beq_iff_eq] at c4
    rw [hc] at D
    subst c4
    clear c3 g hc SG
    generalize Ie.dm d = m at *
    generalize Ie.de d = x at *
    generalize Ie.ngd d = neg at *
    go_enter Tryz.func22, Tryz.ntmps22
    go_wp2_with fail
    refine (D.out _).mono ?_
    rintro e w1 ⟨rfl, hB⟩
    have hb := hB.trans ((alloc_b w1 (.cells #[.bool neg, .int .i64 4, .int .u64 m, .int .i64 x] 40)).mono hB.size)
    have P := Row4.new w1 40 (.bool neg) (.int .i64 4) (.int .u64 m) (.int .i64 x)
    go_upto_region 2 with fail
    have HB1 := hid hb
    have PH := hid P
    obtain ⟨⟨p0, p1, p2, p3⟩, -⟩ := P.cells
    clear hB hb P D
    generalize w1.alloc (.cells #[.bool neg, .int .i64 4, .int .u64 m, .int .i64 x] 40) = wA at *
    generalize w1.heap.size = b at *
    go_wp2_with fail
    go_ret2
    exact ⟨_, _, rfl, E.out, HB1.out⟩
  · have E : Hid (Ie.SplitIs d d (Ie.sg (Ie.ngd d) 0)) := ⟨fun k => (by rw [g] at k; cases k), fun _ => ⟨rfl, rfl⟩, fun k => absurd k g''⟩
    obtain ⟨c, hc⟩ : ∃ c, Ie.cls d = c := ⟨_, rfl⟩
    rw [g', hc, beq_iff_eq] at c3
    rw [hc] at D
    subst c3
    clear c4 g g' g'' hc
    generalize Ie.dm d = m at *
    generalize Ie.de d = x at *
    generalize Ie.ngd d = neg at *
    go_enter Tryz.func22, Tryz.ntmps22
    go_wp2_with fail
    refine (D.out _).mono ?_
    rintro e w1 ⟨rfl, hB⟩
    have hb := hB.trans ((alloc_b w1 (.cells #[.bool neg, .int .i64 3, .int .u64 m, .int .i64 x] 40)).mono hB.size)
    have P := Row4.new w1 40 (.bool neg) (.int .i64 3) (.int .u64 m) (.int .i64 x)
    go_upto_region 2 with fail
    have HB1 := hid hb
    have PH := hid P
    obtain ⟨⟨p0, p1, p2, p3⟩, -⟩ := P.cells
    clear hB hb P D
    generalize w1.alloc (.cells #[.bool neg, .int .i64 3, .int .u64 m, .int .i64 x] 40) = wA at *
    generalize w1.heap.size = b at *
    go_wp2_with fail
    refine (SG.out _).mono ?_
    rintro e wz ⟨rfl, hz⟩
    replace hz := hz.symm
    subst hz
    go_wp2_with fail
    go_ret2
    exact ⟨_, _, rfl, E.out, HB1.out⟩
  · obtain ⟨⟨m0, m1⟩, ⟨e0, e1⟩, -, -⟩ := Ie.dec_f d g''
    rw [g] at c4
    rw [g'] at c3
    by_cases he : 0 ≤ Ie.de d
    · have E := hid (Ie.split_stay h0 h1 g'' he)
      have he' : Ie.de d ≥ 0 := he
      clear g g' g'' m0 m1 e0 e1 he
      generalize Ie.cls d = c at *
      generalize Ie.dm d = m at *
      generalize Ie.de d = x at *
      generalize Ie.ngd d = neg at *
      go_enter Tryz.func22, Tryz.ntmps22
      go_wp2_with fail
      refine (D.out _).mono ?_
      rintro e w1 ⟨rfl, hB⟩
      have hb := hB.trans ((alloc_b w1 (.cells #[.bool neg, .int .i64 c, .int .u64 m, .int .i64 x] 40)).mono hB.size)
      have P := Row4.new w1 40 (.bool neg) (.int .i64 c) (.int .u64 m) (.int .i64 x)
      go_upto_region 2 with fail
      have HB1 := hid hb
      have PH := hid P
      obtain ⟨⟨p0, p1, p2, p3⟩, -⟩ := P.cells
      clear hB hb P D
      generalize w1.alloc (.cells #[.bool neg, .int .i64 c, .int .u64 m, .int .i64 x] 40) = wA at *
      generalize w1.heap.size = b at *
      go_wp2_with fail
      refine (SG.out _).mono ?_
      rintro e wz ⟨rfl, hz⟩
      replace hz := hz.symm
      subst hz
      go_wp2_with fail
      go_ret2
      exact ⟨_, _, rfl, E.out, HB1.out⟩
    · obtain ⟨k, hk⟩ : ∃ k : Nat, Ie.de d = -(k : Int) := ⟨(-Ie.de d).toNat, by omega⟩
      have WH := hid (fun (wx : World) => uwhole_f0 d k wx h0 h1 g'' hk (by omega) (by omega))
      have FI := hid (fun (r z : Int) (hW : Ie.WIs d false r) (hz : Ie.Rnd (Ie.dm d % 2 ^ k) 1 (-(k : Int)) false z) => Ie.split_of g'' hk (by omega) hW hz)
      have CU := hid (fun (wx : World) => cut_any (Ie.ngd d) (Ie.cls d) (Ie.dm d) k wx m0 m1 (by omega) (by omega))
      have k1 : 1 ≤ k := by omega
      have k2 : k ≤ 1074 := by omega
      have ge : ¬ -(k : Int) ≥ 0 := by omega
      simp only [partsOf] at CU
      rw [hk] at D
      have pk := Nm.two_pos k
      have W0 : 0 ≤ Ie.dm d / 2 ^ k := Int.ediv_nonneg m0 (by omega)
      have Wm : Ie.dm d / 2 ^ k ≤ Ie.dm d := Int.ediv_le_self _ m0
      have key := Int.emod_add_mul_ediv (Ie.dm d) (2 ^ k)
      rw [Int.mul_comm] at key
      have R0 := Int.emod_nonneg (Ie.dm d) (show (2 : Int) ^ k ≠ 0 by omega)
      clear g g' g'' SG he hk e0 e1
      generalize Ie.cls d = c at *
      generalize Ie.dm d = m at *
      generalize Ie.ngd d = neg at *
      obtain ⟨W, hW⟩ : ∃ W, m / 2 ^ k = W := ⟨_, rfl⟩
      obtain ⟨R, hR⟩ : ∃ R, m % 2 ^ k = R := ⟨_, rfl⟩
      rw [hW] at CU W0 Wm key
      rw [hR] at FI key R0
      have KEY := hid key
      have Wk0 : 0 ≤ W * 2 ^ k := Int.mul_nonneg W0 (by omega)
      have R1 : R ≤ m := by omega
      have LE := hid (show W * 2 ^ k ≤ m by omega)
      clear key Wk0 hW hR pk
      have UT := hid (fun (wx : World) (r : Option Addr) (os : List Int) (B : Nat) (A : Ans B wx r os R) => uTo wx r os B R A (by omega))
      have AR := hid (fun (wx : World) (v : Int) (v0 : 0 ≤ v) (v1 : v < 9007199254740992) => arg_new wx v v0 (by omega))
      have ZR := hid (fun (wx : World) => zround_lit neg R (-(k : Int)) wx R0 (by omega))
      have LI := hid (fun (wx : World) (bb : Nat) (u : Int) (hu : u = (k : Int)) (A : Arg wx (some ⟨bb, 0, none⟩) 1 1 [W]) => ulift W k W0 (by omega) (by omega) wx bb u hu A)
      rcases (show W = 0 ∨ 0 < W by omega) with z | z
      · have Rm : m = R := by have := KEY.out; rw [z, Int.zero_mul] at this; omega
        subst z
        subst Rm
        clear KEY LE UT LI
        go_enter Tryz.func22, Tryz.ntmps22
        go_wp2_with fail
        refine (D.out _).mono ?_
        rintro e w1 ⟨rfl, hB⟩
        have hb := hB.trans ((alloc_b w1 (.cells #[.bool neg, .int .i64 c, .int .u64 m, .int .i64 (-(k : Int))] 40)).mono hB.size)
        have P := Row4.new w1 40 (.bool neg) (.int .i64 c) (.int .u64 m) (.int .i64 (-(k : Int)))
        go_upto_region 2 with fail
        have HB1 := hid hb
        have PH := hid P
        obtain ⟨⟨p0, p1, p2, p3⟩, -⟩ := P.cells
        clear hB hb P D
        generalize w1.alloc (.cells #[.bool neg, .int .i64 c, .int .u64 m, .int .i64 (-(k : Int))] 40) = wA at *
        generalize w1.heap.size = b at *
        go_wp2_with fail
        refine (CU.out _).mono ?_
        rintro e w2 ⟨rfl, hB⟩
        have HB2 := hid (HB1.out.trans (hB.mono HB1.out.size))
        have PH2 := hid (PH.out.below hB PH.out.lt)
        clear hB HB1 PH p0 p1 p2 p3 CU
        obtain ⟨⟨p0, p1, p2, p3⟩, -⟩ := PH2.out.cells
        have lt := PH2.out.lt
        have z3 := ((alloc_b w2 (.cells #[.int .u64 m] 26)).cell (p := ⟨b, 3, none⟩) lt).trans p3
        clear PH2
        go_wp2_with fail
        refine (ZR.out _).mono ?_
        rintro e w8 ⟨y, rfl, hy, hB⟩
        have HB8 := hid (HB2.out.trans (hB.mono HB2.out.size))
        have HY := hid hy
        clear hB hy HB2 z3 p0 p1 p2 p3 lt
        go_wp2_with fail
        refine (WH.out _).mono ?_
        rintro e w9 ⟨r, rfl, hr, hB⟩
        have HB9 := hid (HB8.out.trans (hB.mono HB8.out.size))
        have KK := hid (FI.out r y hr HY.out)
        clear hB hr HB8
        go_wp2_with fail
        go_ret2
        exact ⟨_, _, rfl, KK.out, HB9.out⟩
      · have wp : W > 0 := by omega
        go_enter Tryz.func22, Tryz.ntmps22
        go_wp2_with fail
        refine (D.out _).mono ?_
        rintro e w1 ⟨rfl, hB⟩
        have hb := hB.trans ((alloc_b w1 (.cells #[.bool neg, .int .i64 c, .int .u64 m, .int .i64 (-(k : Int))] 40)).mono hB.size)
        have P := Row4.new w1 40 (.bool neg) (.int .i64 c) (.int .u64 m) (.int .i64 (-(k : Int)))
        go_upto_region 2 with fail
        have HB1 := hid hb
        have PH := hid P
        obtain ⟨⟨p0, p1, p2, p3⟩, -⟩ := P.cells
        clear hB hb P D
        generalize w1.alloc (.cells #[.bool neg, .int .i64 c, .int .u64 m, .int .i64 (-(k : Int))] 40) = wA at *
        generalize w1.heap.size = b at *
        go_wp2_with fail
        refine (CU.out _).mono ?_
        rintro e w2 ⟨rfl, hB⟩
        have HB2 := hid (HB1.out.trans (hB.mono HB1.out.size))
        have PH2 := hid (PH.out.below hB PH.out.lt)
        clear hB HB1 PH p0 p1 p2 p3 CU
        obtain ⟨⟨p0, p1, p2, p3⟩, -⟩ := PH2.out.cells
        have lt := PH2.out.lt
        have z3 := ((alloc_b w2 (.cells #[.int .u64 W] 26)).cell (p := ⟨b, 3, none⟩) lt).trans p3
        have LI2 := hid (fun (u : Int) (hu : u = (k : Int)) => LI.out _ _ u hu (AR.out w2 W W0 (by omega)))
        clear LI
        go_wp2_with fail
        refine (LI2.out _ (by omega)).mono ?_
        rintro e w3 ⟨ro, oo, rfl, AO, hB⟩
        have hb := (alloc_b w2 (.cells #[.int .u64 W] 26)).trans (hB.mono (alloc_b w2 (.cells #[.int .u64 W] 26)).size)
        have HB3 := hid (HB2.out.trans (hb.mono HB2.out.size))
        have PH3 := hid (PH2.out.below hb PH2.out.lt)
        have lo : W * 2 ^ k < Nm.pw 4096 := by have := LE.out; have := Nm.pw_mono (show 1 ≤ 4096 by omega); have e : Nm.pw 1 = 18446744073709551616 := by decide
                                               omega
        have AO2 := AO.below (alloc_b w3 (.cells #[.int .u64 m] 26)) (Nat.le_refl _)
        have LS := hid (less_any _ ro _ _ _ _ [m] oo _ (AR.out w3 m m0 m1) (AO2.argT lo) (by have := Nm.tsize_le [m]; simp at this; omega) (by rw [AO.2.2.2.1, show Nm.val [m] = m by simp [Nm.val]]; exact LE.out))
        rw [AO.2.2.2.1, show Nm.val [m] = m by simp [Nm.val], show m - W * 2 ^ k = R by have := KEY.out; omega] at LS
        clear hb hB HB2 PH2 p0 p1 p2 p3 z3 lt AO AO2 LI2 lo
        obtain ⟨⟨p0, p1, p2, p3⟩, -⟩ := PH3.out.cells
        go_wp2_with fail
        refine LS.out.mono ?_
        rintro e w4 ⟨rd, od, rfl, AD, hB⟩
        have hb := (alloc_b w3 (.cells #[.int .u64 m] 26)).trans (hB.mono (alloc_b w3 (.cells #[.int .u64 m] 26)).size)
        have HB4 := hid (HB3.out.trans (hb.mono HB3.out.size))
        have PH4 := hid (PH3.out.below hb PH3.out.lt)
        have TO := hid (UT.out w4 rd od _ AD)
        clear hb hB HB3 PH3 p0 p1 p2 p3 AD LS UT
        obtain ⟨⟨p0, p1, p2, p3⟩, -⟩ := PH4.out.cells
        go_wp2_with fail
        refine TO.out.mono ?_
        rintro e wz ⟨rfl, hz⟩
        replace hz := hz.symm
        subst hz
        clear LE KEY TO
        have lt := PH4.out.lt
        have z3 := ((alloc_b w4 (.cells #[.int .u64 R] 26)).cell (p := ⟨b, 3, none⟩) lt).trans p3
        clear PH4
        go_wp2_with fail
        refine (ZR.out _).mono ?_
        rintro e w8 ⟨y, rfl, hy, hB⟩
        have HB8 := hid (HB4.out.trans (hB.mono HB4.out.size))
        have HY := hid hy
        clear hB hy HB4 z3 p0 p1 p2 p3 lt
        go_wp2_with fail
        refine (WH.out _).mono ?_
        rintro e w9 ⟨r, rfl, hr, hB⟩
        have HB9 := hid (HB8.out.trans (hB.mono HB8.out.size))
        have KK := hid (FI.out r y hr HY.out)
        clear hB hr HB8
        go_wp2_with fail
        go_ret2
        exact ⟨_, _, rfl, KK.out, HB9.out⟩
end Go.Proofs.YtmakkfekomnpbaaGreatDoor

/-
  What is left, as numbers, at a common exponent.
-/
namespace Go.Proofs.YtmakkfekomnpbaaGreatDoor
namespace Ie

theorem left_nums {a b x : Int} {i j : Nat} (fa : fin a) (fb : fin b) (zb : ab b ≠ 0) (hx : x = de a ∨ x = de b) (hi : (i : Int) = de a - x) (hj : (j : Int) = de b - x) :
    (dm a * 2 ^ i < Nm.pw 4096 ∧ dm b * 2 ^ j < Nm.pw 4096 ∧ 0 < dm b * 2 ^ j ∧ 0 ≤ dm a * 2 ^ i) ∧ dm a * 2 ^ i / (dm b * 2 ^ j) = un (ab a) / un (ab b) ∧
    (∃ P, 0 < P ∧ un (ab b) = dm b * 2 ^ j * P ∧ un (ab a) % un (ab b) = dm a * 2 ^ i % (dm b * 2 ^ j) * P) ∧
    ∀ (up : Bool) (y : Int), (up = true → un (ab b) ≤ 2 * (un (ab a) % un (ab b))) → Rnd (lft (dm a * 2 ^ i) (dm b * 2 ^ j) up) 1 x false y → un y = lft (un (ab a)) (un (ab b)) up ∧ 0 ≤ y ∧ y < 9218868437227405312 := by
  obtain ⟨⟨ma0, ma1⟩, ⟨ea0, ea1⟩, gA, -⟩ := dec_f a fa
  obtain ⟨⟨mb0, mb1⟩, ⟨eb0, eb1⟩, gB, mz⟩ := dec_f b fb
  have mbp : 0 < dm b := by have := fun g => zb (mz.1 g); omega
  have e53 : (2 : Int) ^ 53 = 9007199254740992 := by decide
  obtain ⟨c, hc, hc2, hA, hB⟩ := left_un (x := x) (by omega) hi hj ea0 eb0 ea1 gA gB
  obtain ⟨v2, v1, r0, r1, r2, r3⟩ := left_bd (i := i) (j := j) (by omega) ma0 ma1 mbp mb1
  have l1 := sh_room (m := dm a) (i := i) (K := 53) (by omega) (by omega)
  have l2 := sh_room (m := dm b) (i := j) (K := 53) (by omega) (by omega)
  have hp := Nm.two_pos c
  rw [hA, hB]
  generalize dm a * 2 ^ i = V1 at *
  generalize dm b * 2 ^ j = V2 at *
  refine ⟨⟨l1, l2, v2, v1⟩, (ediv_scale _ _ _ hp).symm, ⟨2 ^ c, hp, rfl, emod_scale _ _ _ hp⟩, fun up y UP hy => ?_⟩
  have t1 : 2 * (V1 * 2 ^ c % (V2 * 2 ^ c)) = V1 % V2 * 2 ^ 1 * 2 ^ c := by rw [emod_scale _ _ _ hp, Int.pow_one, Int.mul_comm (V1 % V2) 2, Int.mul_assoc]
  have key : lft (V1 * 2 ^ c) (V2 * 2 ^ c) up = lft V1 V2 up * 2 ^ c := by
    rw [lft, lft, emod_scale _ _ _ hp]
    split
    · rw [Int.sub_mul]
    · rfl
  rw [key]
  refine rnd_rep hc ?_ ?_ hc2 hy
  · rw [lft]; split <;> omega
  · rw [lft]
    split
    · rename_i hu
      have u1 := UP hu
      rw [t1] at u1
      have u2 := Int.le_of_mul_le_mul_right u1 hp
      rw [Int.pow_one] at u2
      exact r3 (by omega)
    · exact r2
end Ie
end Go.Proofs.YtmakkfekomnpbaaGreatDoor

namespace Go.Proofs.YtmakkfekomnpbaaGreatDoor
open Go.RowKit Go.Deep

/-- The number of limbs, as the statements count it. -/
theorem top_any (p : Option Addr) (n cap : Nat) (zs : List Int) (w : World) (hn : zs.length = n) (hm : n ≤ 140737488355328) (h : Lies w p zs) :
    Calls Tryz.prog 118 #[.slice p n cap] w fun e w' => e = .returned (.int .i64 (Nm.tsize zs)) ∧ w' = w := by
  rcases h with rfl | ⟨b, off, rfl, hcell⟩
  · have hn0 : n = 0 := by simpa using hn.symm
    subst hn0
    go_enter Tryz.func118, Tryz.ntmps118
    go_wp2
    refine wp_loop_rounds 1 ?_
    rw [rounds_succ]
    go_wp2
    go_ret
    exact ⟨rfl, rfl⟩
  · have H : Hid (zs.length = n) := hn
    have HC : Hid (∀ i, i < zs.length → w.cell? ⟨b, off + i, none⟩ = some (.int .u64 (zs.getD i 0))) := hcell
    clear hn hcell
    go_enter Tryz.func118, Tryz.ntmps118
    go_wp2
    go_loop [3] (fun t => ∃ k : Nat, k ≤ n ∧ t = .int .i64 k ∧ Hid (∀ j, k ≤ j → zs.getD j 0 = 0)) (fun t => (intOf t).toNat)
    case atStart => exact ⟨n, Nat.le_refl _, rfl, fun j hj => by simp [List.getD, List.getElem?_eq_none (show zs.length ≤ j by have := H.out; omega)]⟩
    case round =>
      obtain ⟨k, hk, rfl, hz⟩ := hrel
      by_cases h0 : k = 0
      · subst h0
        go_wp2
        go_ret
        exact ⟨by rw [Nm.tsize_unique zs 0 hz.out (.inl rfl)]; rfl, rfl⟩
      · obtain ⟨j, rfl⟩ : ∃ j, k = j + 1 := ⟨k - 1, by omega⟩
        obtain ⟨x, hx, X⟩ : ∃ x, w.cell? ⟨b, off + j, none⟩ = some (.int .u64 x) ∧ Hid (x = zs.getD j 0) := ⟨_, HC.out j (by have := H.out; omega), rfl⟩
        by_cases hx0 : x = 0
        · subst hx0
          go_wp2
          go_round
          case rel =>
            refine ⟨j, by omega, rfl, fun i hi => ?_⟩
            by_cases e : i = j
            · subst e; exact X.out.symm
            · exact hz.out i (by omega)
          case measure => simp [intOf]
        · go_wp2
          go_ret
          exact ⟨by rw [Nm.tsize_unique zs (j + 1) hz.out (.inr (by rw [Nat.add_sub_cancel, ← X.out]; exact hx0))]; rfl, rfl⟩
end Go.Proofs.YtmakkfekomnpbaaGreatDoor

namespace Go.Proofs.YtmakkfekomnpbaaGreatDoor
open Go.RowKit Go.Deep

theorem qcmp_at3 {zs ys : List Int} (hz : Nm.Limbs zs) (hy : Nm.Limbs ys) (hl : (Nm.trim zs).length = (Nm.trim ys).length) (t : Nat) (ht : t < (Nm.trim zs).length) (he : ∀ i, t + 1 ≤ i → (Nm.trim zs).getD i 0 = (Nm.trim ys).getD i 0) {x y : Int}
    (hx : x = (Nm.trim zs).getD t 0) (hy' : y = (Nm.trim ys).getD t 0) : (x < y → cmpI (Nm.val zs) (Nm.val ys) = -1) ∧ (y < x → cmpI (Nm.val zs) (Nm.val ys) = 1) := by
  refine ⟨fun h => ?_, fun h => ?_⟩
  · rw [← cmp_at hz hy hl t ht he hx hy' (by omega)]
    simp [sgn]; omega
  · rw [← cmp_at hz hy hl t ht he hx hy' (by omega)]
    simp [sgn, h]

set_option maxHeartbeats 2000000 in
theorem order_any (p q : Option Addr) (n cap m cap' : Nat) (zs ys : List Int) (w : World) (ha : Arg w p n cap zs) (hb : Arg w q m cap' ys) :
    Calls Tryz.prog 89 #[.slice p n cap, .slice q m cap'] w fun e w' => e = .returned (.int .i64 (cmpI (Nm.val zs) (Nm.val ys))) ∧ Below w.heap.size w w' := by
  obtain ⟨a1, a2, a3, a4, a5⟩ := ha
  obtain ⟨b1, b2, b3, b4, b5⟩ := hb
  have tl := Nm.tsize_le zs
  have tl' := Nm.tsize_le ys
  have S1 := hid (top_any p n cap zs w a1 (by omega) a4)
  have S2 := hid (top_any q m cap' ys w b1 (by omega) b4)
  by_cases h1 : Nm.tsize zs < Nm.tsize ys
  · have E := hid (cmpI_lt (val_lt_of_tsize a5 b5 h1))
    have h1' : (Nm.tsize zs : Int) < (Nm.tsize ys : Int) := by omega
    clear h1
    go_enter Tryz.func89, Tryz.ntmps89
    go_wp2_with fail
    refine S1.out.mono ?_
    rintro e w' ⟨rfl, rfl⟩
    go_wp2_with fail
    refine S2.out.mono ?_
    rintro e w' ⟨rfl, rfl⟩
    go_wp2
    go_ret
    exact ⟨ret_i64 E.out.symm, Below.refl _ _⟩
  by_cases h2 : Nm.tsize ys < Nm.tsize zs
  · have E := hid (cmpI_gt (val_lt_of_tsize b5 a5 h2))
    have h1' : ¬ (Nm.tsize zs : Int) < (Nm.tsize ys : Int) := by omega
    have h2' : (Nm.tsize ys : Int) < (Nm.tsize zs : Int) := by omega
    clear h1 h2
    go_enter Tryz.func89, Tryz.ntmps89
    go_wp2_with fail
    refine S1.out.mono ?_
    rintro e w' ⟨rfl, rfl⟩
    go_wp2_with fail
    refine S2.out.mono ?_
    rintro e w' ⟨rfl, rfl⟩
    go_wp2
    go_ret
    exact ⟨ret_i64 E.out.symm, Below.refl _ _⟩
  obtain ⟨N, HN⟩ : ∃ N, Hid (Nm.tsize zs = N) := ⟨_, rfl⟩
  have HN' : Hid (Nm.tsize ys = N) := by have := HN.out; exact (show Nm.tsize ys = N by omega)
  have T1 := S1.out
  have T2 := S2.out
  rw [HN.out] at T1
  rw [HN'.out] at T2
  have HT1 := hid T1
  have HT2 := hid T2
  have hN : N ≤ 17592186044416 := by have := HN.out; omega
  have L1 := hid (Nm.trim_length zs)
  have L2 := hid (Nm.trim_length ys)
  clear h1 h2 tl tl' T1 T2 S1 S2
  have FIN : Hid (Nm.trim zs = Nm.trim ys → cmpI (Nm.val zs) (Nm.val ys) = 0) := fun h => cmpI_eq (by rw [← Nm.val_trim zs, ← Nm.val_trim ys, h])
  by_cases h0 : N = 0
  · subst h0
    go_enter Tryz.func89, Tryz.ntmps89
    go_wp2_with fail
    refine HT1.out.mono ?_
    rintro e w' ⟨rfl, rfl⟩
    go_wp2_with fail
    refine HT2.out.mono ?_
    rintro e w' ⟨rfl, rfl⟩
    go_wp2_with fail
    refine wp_loop_rounds 1 ?_
    rw [rounds_succ]
    go_wp2
    go_ret
    exact ⟨ret_i64 (FIN.out (by rw [List.eq_nil_of_length_eq_zero (L1.out.trans HN.out), List.eq_nil_of_length_eq_zero (L2.out.trans HN'.out)])).symm, Below.refl _ _⟩
  · obtain ⟨b, off, rfl, hbw, HC⟩ := a4.trim.at (by have := L1.out; have := HN.out; omega)
    obtain ⟨b', off', rfl, hbw', HC'⟩ := b4.trim.at (by have := L2.out; have := HN'.out; omega)
    have hNn : N ≤ n := by have := HN.out; have := Nm.tsize_le zs; omega
    have hNm : N ≤ m := by have := HN'.out; have := Nm.tsize_le ys; omega
    go_enter Tryz.func89, Tryz.ntmps89
    go_wp2_with fail
    refine HT1.out.mono ?_
    rintro e w' ⟨rfl, rfl⟩
    go_wp2_with fail
    refine HT2.out.mono ?_
    rintro e w' ⟨rfl, rfl⟩
    go_wp2_with fail
    go_loopw [7] (fun i wr => ∃ j : Nat, j ≤ N ∧ i = .int .i64 ((j : Int) - 1) ∧ Hid (∀ t, j ≤ t → (Nm.trim zs).getD t 0 = (Nm.trim ys).getD t 0) ∧ Below w'.heap.size w' wr) (fun i _ => (intOf i + 1).toNat)
    case atStart => exact ⟨N, Nat.le_refl _, rfl, fun t ht => by rw [List.getD, List.getElem?_eq_none (by have := L1.out; have := HN.out; omega), List.getD, List.getElem?_eq_none (by have := L2.out; have := HN'.out; omega)], Below.refl _ _⟩
    case round =>
      obtain ⟨j, hj, rfl, hE, hB⟩ := hrel
      by_cases hj0 : j = 0
      · subst hj0
        have HB := hid hB
        clear hB
        go_wp2
        go_ret
        refine ⟨ret_i64 (FIN.out ?_).symm, HB.out⟩
        have e := Nm.drop_eq_of_getD (by rw [L1.out, L2.out, HN.out, HN'.out]) 0 hE.out
        simpa using e
      · obtain ⟨t, rfl⟩ : ∃ t, j = t + 1 := ⟨j - 1, by omega⟩
        obtain ⟨x, hx, X⟩ : ∃ x, wr.cell? ⟨b, off + t, none⟩ = some (.int .u64 x) ∧ Hid (x = (Nm.trim zs).getD t 0) := ⟨_, (hB.cell (p := ⟨b, off + t, none⟩) hbw).trans (HC.out t (by have := L1.out; have := HN.out; omega)), rfl⟩
        obtain ⟨y, hy, Y⟩ : ∃ y, wr.cell? ⟨b', off' + t, none⟩ = some (.int .u64 y) ∧ Hid (y = (Nm.trim ys).getD t 0) := ⟨_, (hB.cell (p := ⟨b', off' + t, none⟩) hbw').trans (HC'.out t (by have := L2.out; have := HN'.out; omega)), rfl⟩
        have HB := hid hB
        have CM := hid (qcmp_at3 a5 b5 (by rw [L1.out, L2.out, HN.out, HN'.out]) t (by rw [L1.out, HN.out]; omega) hE.out X.out Y.out)
        clear hB
        have htn : (t : Int) < (n : Int) := by omega
        have htm : (t : Int) < (m : Int) := by omega
        by_cases hxy : x < y
        · go_wp2_with fail
          go_quiet (fail)
          go_wp2
          go_ret
          exact ⟨ret_i64 (CM.out.1 hxy).symm, below_drewN HB.out _⟩
        · go_wp2_with fail
          go_quiet (fail)
          have hx2 : (wr.drewN nq).cell? ⟨b, off + t, none⟩ = some (.int .u64 x) := hx
          have hy2 : (wr.drewN nq).cell? ⟨b', off' + t, none⟩ = some (.int .u64 y) := hy
          have HB2 := hid (below_drewN HB.out nq)
          clear hx hy HB
          generalize wr.drewN nq = wq at *
          by_cases hyx : y < x
          · go_wp2_with fail
            go_quiet (fail)
            go_wp2
            go_ret
            exact ⟨ret_i64 (CM.out.2 hyx).symm, below_drewN HB2.out _⟩
          · have EQ : Hid (x = y) := by show _ = _; omega
            go_wp2_with fail
            go_quiet (fail)
            go_wp2
            go_roundw
            case rel =>
              refine ⟨t, by omega, by go_num, fun i hi => ?_, below_drewN HB2.out _⟩
              by_cases e : i = t
              · subst e; rw [← X.out, ← Y.out]; exact EQ.out
              · exact hE.out i (by omega)
            case measure => simp [intOf]

theorem order_is (c : Int) (p q : Option Addr) (n cap m cap' : Nat) (zs ys : List Int) (w : World) (ha : Arg w p n cap zs) (hb : Arg w q m cap' ys) (hc : cmpI (Nm.val zs) (Nm.val ys) = c) :
    Calls Tryz.prog 89 #[.slice p n cap, .slice q m cap'] w fun e w' => e = .returned (.int .i64 c) ∧ Below w.heap.size w w' := by
  rw [← hc]
  exact order_any p q n cap m cap' zs ys w ha hb
end Go.Proofs.YtmakkfekomnpbaaGreatDoor

namespace Go.Proofs.YtmakkfekomnpbaaGreatDoor
open Go.RowKit Go.Deep

theorem eq_of_getD {a b : List Int} (hl : a.length = b.length) (h : ∀ i, i < a.length → a.getD i 0 = b.getD i 0) : a = b := by
  have e := Nm.drop_eq_of_getD hl 0 (fun j _ => by
    by_cases hj : j < a.length
    · exact h j hj
    · rw [List.getD, List.getElem?_eq_none (by omega), List.getD, List.getElem?_eq_none (by omega)])
  simpa using e

set_option maxRecDepth 100000 in
set_option maxHeartbeats 1000000 in
/-- Short: the trimmed list, in a block of its own. -/
theorem short_any (p : Option Addr) (n cap : Nat) (zs : List Int) (N : Nat) (w : World) (hn : zs.length = n) (hm : n ≤ 17592186044416) (h : Lies w p zs) (hN : Nm.tsize zs = N) :
    Calls Tryz.prog 88 #[.slice p n cap] w fun e w' => e = .returned (.slice (some ⟨w.heap.size, 0, none⟩) N N) ∧ Own w' w.heap.size (Nm.trim zs) ∧ Below w.heap.size w w' := by
  have T := top_any p n cap zs w hn (by omega) h
  rw [hN] at T
  have HT := hid T
  have tl := Nm.tsize_le zs
  have hNn : N ≤ n := by omega
  have hmk := make64 N (by omega) w
  have ho : Own (w.alloc (.cells (madeCells #[.int .u64 0] N) 26)) w.heap.size (List.replicate N 0) := by
    rw [made_zero]; exact Own.alloc w _
  have hb0 : Below w.heap.size w (w.alloc (.cells (madeCells #[.int .u64 0] N) 26)) := (Below.refl _ _).alloc (Nat.le_refl _) _
  obtain ⟨W0, hW0⟩ : ∃ W0, w.alloc (.cells (madeCells #[.int .u64 0] N) 26) = W0 := ⟨_, rfl⟩
  rw [hW0] at hmk ho hb0
  have LT := hid ((Nm.trim_length zs).trans hN)
  have TG : Hid (∀ i, i < N → (Nm.trim zs).getD i 0 = zs.getD i 0) := fun i hi => by rw [Nm.trim, Nm.getD_take, if_pos (by omega)]
  have HO := hid ho
  have HB0 := hid hb0
  have HN := hid hn
  have HL := hid h
  clear hW0 ho hb0 T tl hN hn h
  by_cases h0 : N = 0
  · subst h0
    have E : Hid (Own W0 w.heap.size (Nm.trim zs)) := by
      rw [List.eq_nil_of_length_eq_zero LT.out]
      exact HO.out
    have hmk1 : (Instr.makeSlice 43 (.int .i64 0) (.int .i64 0)).run Tryz.prog w = .ok (.slice (some ⟨w.heap.size, 0, none⟩) 0 0) W0 := hmk
    clear hmk
    go_enter Tryz.func88, Tryz.ntmps88
    go_wp2_with fail
    refine HT.out.mono ?_
    rintro e w' ⟨rfl, rfl⟩
    go_wp2_with fail
    refine wp_loop_rounds 1 ?_
    rw [rounds_succ]
    go_wp2_with fail
    go_ret
    exact ⟨rfl, E.out, HB0.out⟩
  · obtain ⟨b, off, rfl, hbw, HC⟩ := HL.out.at (by have := HN.out; omega)
    go_enter Tryz.func88, Tryz.ntmps88
    go_wp2_with fail
    refine HT.out.mono ?_
    rintro e w' ⟨rfl, rfl⟩
    go_wp2_with fail
    go_loopw [5] (fun i wr => ∃ (j : Nat) (os : List Int), j ≤ N ∧ i = .int .i64 j ∧ Hid (Own wr w'.heap.size os ∧ os.length = N ∧ (∀ t, t < j → os.getD t 0 = zs.getD t 0) ∧ Below w'.heap.size w' wr)) (fun i _ => N - (intOf i).toNat)
    case atStart => exact ⟨0, _, Nat.zero_le _, rfl, HO.out, by simp, fun t ht => by omega, HB0.out⟩
    case round =>
      clear hmk HO HB0
      obtain ⟨j, os, hj, rfl, I⟩ := hrel
      by_cases hlt : j < N
      · obtain ⟨i1, i2, i3, i4⟩ := I.out
        obtain ⟨x, hx, X⟩ : ∃ x, wr.cell? ⟨b, off + j, none⟩ = some (.int .u64 x) ∧ Hid (x = zs.getD j 0) := ⟨_, (i4.cell (p := ⟨b, off + j, none⟩) hbw).trans (HC.out j (by have := HN.out; omega)), rfl⟩
        obtain ⟨y, hy⟩ : ∃ y, wr.cell? ⟨w'.heap.size, j, none⟩ = some (.int .u64 y) := ⟨_, i1.cell j (by omega)⟩
        have hfr := i1.free j
        have J : Hid (Own (wr.setCell ⟨w'.heap.size, j, none⟩ (.int .u64 x)) w'.heap.size (os.set j x) ∧ (os.set j x).length = N ∧ (∀ t, t < j + 1 → (os.set j x).getD t 0 = zs.getD t 0) ∧ Below w'.heap.size w' (wr.setCell ⟨w'.heap.size, j, none⟩ (.int .u64 x))) := by
          refine ⟨i1.set j x, by simpa using i2, fun t ht => ?_, i4.setCell (p := ⟨w'.heap.size, j, none⟩) (Nat.le_refl _) _⟩
          rw [Nm.getD_set _ _ _ _ (by omega)]
          by_cases e : t = j
          · rw [if_pos e, e, X.out]
          · rw [if_neg e]; exact i3 t (by omega)
        have hjn : (j : Int) < (n : Int) := by omega
        have hjN : (j : Int) < (N : Int) := by omega
        clear i1 i2 i3 i4 I
        go_wp2
        go_roundw
        case rel => exact ⟨j + 1, _, by omega, by go_num, J.out⟩
        case measure => simp [intOf]; omega
      · have hjN : j = N := by omega
        subst hjN
        have E : Hid (Own wr w'.heap.size (Nm.trim zs) ∧ Below w'.heap.size w' wr) := by
          obtain ⟨i1, i2, i3, i4⟩ := I.out
          have e : os = Nm.trim zs := eq_of_getD (by rw [i2, LT.out]) (fun i hi => by rw [i3 i (by omega), TG.out i (by omega)])
          rw [← e]
          exact ⟨i1, i4⟩
        clear I
        go_wp2
        go_ret
        exact ⟨rfl, E.out.1, E.out.2⟩

/-- One limb of a double. -/
theorem twice_limb (x sp : Int) (x0 : 0 ≤ x) (x1 : x < 18446744073709551616) (s0 : 0 ≤ sp) (s1 : sp ≤ 1) :
    ∃ A s sp', IntKind.u64.wrap (x * 2) = A ∧ bits .or .u64 A sp = s ∧ x / 9223372036854775808 = sp' ∧ (0 ≤ s ∧ s < 18446744073709551616) ∧ (0 ≤ sp' ∧ sp' ≤ 1) ∧ Hid (s + 18446744073709551616 * sp' = x * 2 + sp) := by
  obtain ⟨A, s, sp', u1, u2, u3, u4, u5, u6⟩ := Sh.up x sp 1 (by omega) x0 x1 s0 (by rw [show (2 : Int) ^ 1 = 2 by decide]; omega)
  have e1 : (2 : Int) ^ 1 = 2 := by decide
  have e2 : (2 : Int) ^ (64 - 1) = 9223372036854775808 := by decide
  rw [e1] at u1 u5 u6
  rw [e2] at u3
  exact ⟨A, s, sp', u1, u2, u3, u4, by omega, u6⟩

set_option maxRecDepth 100000 in
set_option maxHeartbeats 1000000 in
/-- doubled: twice the number and a bit, one limb longer, in a block of its own. -/
theorem doubled_any (p : Option Addr) (n cap : Nat) (zs : List Int) (bit : Int) (w : World) (hn : zs.length = n) (hm : n ≤ 17592186044416) (h : Lies w p zs) (hz : Nm.Limbs zs) (b0 : 0 ≤ bit) (b1 : bit ≤ 1) :
    Calls Tryz.prog 90 #[.slice p n cap, .int .u64 bit] w fun e w' => ∃ os, e = .returned (.slice (some ⟨w.heap.size, 0, none⟩) (n + 1) (n + 1)) ∧ Hid (Own w' w.heap.size os ∧ os.length = n + 1 ∧ Nm.Limbs os ∧ Nm.val os = 2 * Nm.val zs + bit ∧ Below w.heap.size w w') := by
  have hmk := make64 (n + 1) (by omega) w
  have em : ((n + 1 : Nat) : Int) = (n : Int) + 1 := by omega
  rw [em] at hmk
  clear em
  have ho : Own (w.alloc (.cells (madeCells #[.int .u64 0] (n + 1)) 26)) w.heap.size (List.replicate (n + 1) 0) := by
    rw [made_zero]; exact Own.alloc w _
  have hb0 : Below w.heap.size w (w.alloc (.cells (madeCells #[.int .u64 0] (n + 1)) 26)) := (Below.refl _ _).alloc (Nat.le_refl _) _
  obtain ⟨W0, hW0⟩ : ∃ W0, w.alloc (.cells (madeCells #[.int .u64 0] (n + 1)) 26) = W0 := ⟨_, rfl⟩
  rw [hW0] at hmk ho hb0
  have I0 : MaInv w.heap.size (n + 1) W0 (2 * Nm.val (zs.take 0) + bit) 0 bit (List.replicate (n + 1) 0) W0 :=
    ⟨⟨ho, by simp, Nm.Limbs.replicate _, by simp [Nm.val_replicate, Nm.val, Nm.pw], Below.refl _ _, rfl⟩, by omega, fun i _ => getD_replicate _ _⟩
  have HB0 := hid hb0
  have HN := hid hn
  have HL := hid h
  have HZ := hid hz
  have HI0 := hid I0
  clear hW0 ho hb0 hn h hz I0
  by_cases h0 : n = 0
  · subst h0
    have E : Hid (Own (W0.setCell ⟨w.heap.size, 0, none⟩ (.int .u64 bit)) w.heap.size ((List.replicate 1 0).set 0 bit) ∧ ((List.replicate 1 (0 : Int)).set 0 bit).length = 0 + 1 ∧ Nm.Limbs ((List.replicate 1 0).set 0 bit) ∧ Nm.val ((List.replicate 1 0).set 0 bit) = 2 * Nm.val zs + bit ∧ Below w.heap.size w (W0.setCell ⟨w.heap.size, 0, none⟩ (.int .u64 bit))) := by
      refine ⟨HI0.out.1.1.set 0 bit, by simp, HI0.out.1.2.2.1.set 0 b0 (by omega), ?_, HB0.out.setCell (p := ⟨w.heap.size, 0, none⟩) (Nat.le_refl _) _⟩
      rw [List.eq_nil_of_length_eq_zero HN.out]
      simp [Nm.val]
    obtain ⟨y, hy⟩ : ∃ y, W0.cell? ⟨w.heap.size, 0, none⟩ = some (.int .u64 y) := ⟨_, HI0.out.1.1.cell 0 (by simp)⟩
    have hfr := HI0.out.1.1.free 0
    have hmk1 : (Instr.makeSlice 43 (.int .i64 1) (.int .i64 1)).run Tryz.prog w = .ok (.slice (some ⟨w.heap.size, 0, none⟩) 1 1) W0 := hmk
    clear HI0 hmk
    go_enter Tryz.func90, Tryz.ntmps90
    go_wp2_with fail
    refine wp_loop_rounds 1 ?_
    rw [rounds_succ]
    go_wp2_with fail
    go_ret
    exact ⟨_, rfl, E⟩
  · obtain ⟨b, off, rfl, hbw, HC⟩ := HL.out.at (by have := HN.out; omega)
    go_enter Tryz.func90, Tryz.ntmps90
    go_wp2_with fail
    go_loopw [6, 7] (fun c i wr => ∃ (j : Nat) (cc : Int) (os : List Int), j ≤ n ∧ i = .int .i64 j ∧ c = .int .u64 cc ∧ (0 ≤ cc ∧ cc ≤ 1) ∧ Hid (MaInv w.heap.size (n + 1) W0 (2 * Nm.val (zs.take j) + bit) j cc os wr)) (fun _ i _ => n - (intOf i).toNat)
    case atStart => exact ⟨0, bit, _, Nat.zero_le _, rfl, rfl, ⟨b0, b1⟩, HI0.out⟩
    case round =>
      clear HI0 hmk
      obtain ⟨j, cc, os, hj, rfl, rfl, ⟨c0, c1⟩, I⟩ := hrel
      by_cases hlt : j < n
      · obtain ⟨x, hx, X⟩ : ∃ x, wr.cell? ⟨b, off + j, none⟩ = some (.int .u64 x) ∧ Hid (x = zs.getD j 0) := ⟨_, ((HB0.out.trans I.out.1.2.2.2.2.1).cell (p := ⟨b, off + j, none⟩) hbw).trans (HC.out j (by have := HN.out; omega)), rfl⟩
        have hx0 := HZ.out.at j
        rw [← X.out] at hx0
        obtain ⟨hx0, hx1⟩ := hx0
        obtain ⟨y, hyc⟩ : ∃ y, wr.cell? ⟨w.heap.size, j, none⟩ = some (.int .u64 y) := ⟨_, I.out.1.1.cell j (by have := I.out.1.2.1; omega)⟩
        have hfr := I.out.1.1.free j
        obtain ⟨A, s, sp', u1, u2, u3, us, usp, E⟩ := twice_limb x cc hx0 hx1 c0 c1
        have I2 := I.out.step (by omega) (x := x * 2) (s := s) (c' := sp') us ⟨usp.1, by omega⟩ E.out
        have T2 : 2 * Nm.val (zs.take j) + bit + Nm.pw j * (x * 2) = 2 * Nm.val (zs.take (j + 1)) + bit := by
          rw [Nm.val_take_succ zs j (by have := HN.out; omega), ← X.out, ← Int.mul_assoc]
          omega
        rw [T2] at I2
        have HI2 := hid I2
        have HU := hid usp
        obtain ⟨y2, hx2⟩ : ∃ y2, (wr.setCell ⟨w.heap.size, j, none⟩ (.int .u64 s)).cell? ⟨b, off + j, none⟩ = some (.int .u64 y2) ∧ y2 = x := ⟨x, by
          have hb : Below w.heap.size wr (wr.setCell ⟨w.heap.size, j, none⟩ (.int .u64 s)) := (Below.refl _ _).setCell (p := ⟨w.heap.size, j, none⟩) (Nat.le_refl _) _
          rw [hb.cell (p := ⟨b, off + j, none⟩) hbw]
          exact hx, rfl⟩
        obtain ⟨hx2, e2⟩ := hx2
        subst e2
        have hjn : (j : Int) < (n : Int) := by omega
        have hjn1 : (j : Int) < (n : Int) + 1 := by omega
        clear T2 E I2 us usp I
        go_wp2
        go_roundw
        case rel => exact ⟨j + 1, sp', _, by omega, by go_num, rfl, HU.out, HI2.out⟩
        case measure => simp [intOf]; omega
      · have hjn : j = n := by omega
        subst hjn
        obtain ⟨⟨i1, i2, i3, i4, i5, i6⟩, i7, i8⟩ := I.out
        have E : Hid (Own (wr.setCell ⟨w.heap.size, j, none⟩ (.int .u64 cc)) w.heap.size (os.set j cc) ∧ (os.set j cc).length = j + 1 ∧ Nm.Limbs (os.set j cc) ∧ Nm.val (os.set j cc) = 2 * Nm.val zs + bit ∧ Below w.heap.size w (wr.setCell ⟨w.heap.size, j, none⟩ (.int .u64 cc))) := by
          refine ⟨i1.set j cc, by simpa using i2, i3.set j c0 (by omega), ?_, (HB0.out.trans i5).setCell (p := ⟨w.heap.size, j, none⟩) (Nat.le_refl _) _⟩
          rw [Nm.val_set _ _ _ (by omega), i8 j (Nat.le_refl _), Int.sub_zero, i4, List.take_of_length_le (by have := HN.out; omega)]
        obtain ⟨y, hy⟩ : ∃ y, wr.cell? ⟨w.heap.size, j, none⟩ = some (.int .u64 y) := ⟨_, i1.cell j (by omega)⟩
        have hfr := i1.free j
        clear i1 i2 i3 i4 i5 i6 i7 i8 I
        go_wp2
        go_ret
        exact ⟨_, rfl, E⟩
end Go.Proofs.YtmakkfekomnpbaaGreatDoor

namespace Go.Proofs.YtmakkfekomnpbaaGreatDoor
open Go.RowKit Go.Deep

theorem part_getD (rs : List Int) (j M i : Nat) (hi : i < M) : (Qd.part rs j M).getD i 0 = rs.getD (j + i) 0 := by
  rw [Qd.part, Nm.getD_take, if_pos hi]
  simp [List.getD, List.getElem?_drop]

set_option maxRecDepth 100000 in
set_option maxHeartbeats 1000000 in
/-- holds: are the limbs from place j on at least those of ms? -/
theorem holds_any (p q : Option Addr) (R cap M cap' j : Nat) (rs ms : List Int) (ji : Int) (w : World) (hr : rs.length = R) (hR : R ≤ 17592186044416) (hm : ms.length = M) (hM : 0 < M) (hjM : j + M ≤ R) (h1 : Lies w p rs) (h2 : Lies w q ms) (hlr : Nm.Limbs rs) (hlm : Nm.Limbs ms) (hji : ji = (j : Int)) :
    Calls Tryz.prog 91 #[.slice p R cap, .int .i64 ji, .slice q M cap'] w fun e w' => e = .returned (.bool (decide (Nm.val ms ≤ Nm.val (Qd.part rs j M)))) ∧ Below w.heap.size w w' := by
  subst hji
  obtain ⟨b, off, rfl, hbw, HC⟩ := h1.at (by omega)
  obtain ⟨b', off', rfl, hbw', HC'⟩ := h2.at (by omega)
  have PL := hid (Qd.part_length (rs := rs) (t := j) (n1 := M) (by omega))
  have HR := hid hr
  have HM := hid hm
  have HPL : Hid (Nm.Limbs (Qd.part rs j M)) := (hlr.drop j).take M
  have HML := hid hlm
  clear hr hm h1 h2 hlr hlm
  go_enter Tryz.func91, Tryz.ntmps91
  go_wp2_with fail
  go_loopw [7] (fun i wr => ∃ k : Nat, k ≤ M ∧ i = .int .i64 ((k : Int) - 1) ∧ Hid (∀ t, k ≤ t → (Qd.part rs j M).getD t 0 = ms.getD t 0) ∧ Hid (Below w.heap.size w wr)) (fun i _ => (intOf i + 1).toNat)
  case atStart => exact ⟨M, Nat.le_refl _, rfl, fun t ht => by rw [List.getD, List.getElem?_eq_none (by have := PL.out; omega), List.getD, List.getElem?_eq_none (by have := HM.out; omega)], Below.refl _ _⟩
  case round =>
    obtain ⟨k, hk, rfl, hE, HB⟩ := hrel
    by_cases hk0 : k = 0
    · subst hk0
      have E : Hid (decide (Nm.val ms ≤ Nm.val (Qd.part rs j M)) = true) := by
        have e := Nm.drop_eq_of_getD (by rw [PL.out, HM.out]) 0 hE.out
        simp only [List.drop_zero] at e
        simp only [Hid, decide_eq_true_eq]
        rw [e]
        exact Int.le_refl _
      go_wp2_with fail
      go_ret
      exact ⟨ret_bool E.out.symm, HB.out⟩
    · obtain ⟨t, rfl⟩ : ∃ t, k = t + 1 := ⟨k - 1, by omega⟩
      obtain ⟨x, hx, X⟩ : ∃ x, wr.cell? ⟨b, off + (j + t), none⟩ = some (.int .u64 x) ∧ Hid (x = (Qd.part rs j M).getD t 0) := ⟨_, (HB.out.cell (p := ⟨b, off + (j + t), none⟩) hbw).trans (HC.out (j + t) (by have := HR.out; omega)), by show _ = _; rw [part_getD rs j M t (by omega)]⟩
      obtain ⟨y, hy, Y⟩ : ∃ y, wr.cell? ⟨b', off' + t, none⟩ = some (.int .u64 y) ∧ Hid (y = ms.getD t 0) := ⟨_, (HB.out.cell (p := ⟨b', off' + t, none⟩) hbw').trans (HC'.out t (by have := HM.out; omega)), rfl⟩
      have LTS : Hid ((y < x → Nm.val ms < Nm.val (Qd.part rs j M)) ∧ (x < y → Nm.val (Qd.part rs j M) < Nm.val ms)) := by
        have hd := Nm.drop_eq_of_getD (by rw [PL.out, HM.out]) (t + 1) hE.out
        refine ⟨fun h => ?_, fun h => ?_⟩
        · exact Nm.val_lt_at HML.out HPL.out t (by have := HM.out; omega) (by rw [PL.out, HM.out]) (by rw [← X.out, ← Y.out]; exact h) hd.symm
        · exact Nm.val_lt_at HPL.out HML.out t (by have := PL.out; omega) (by rw [PL.out, HM.out]) (by rw [← X.out, ← Y.out]; exact h) hd
      have htR : (j : Int) + (t : Int) < (R : Int) := by omega
      have htM : (t : Int) < (M : Int) := by omega
      by_cases hxy : y < x
      · have E : Hid (decide (Nm.val ms ≤ Nm.val (Qd.part rs j M)) = true) := by
          simp only [Hid, decide_eq_true_eq]
          have := LTS.out.1 hxy
          omega
        go_wp2_with fail
        go_quiet (fail)
        go_wp2
        go_ret
        exact ⟨ret_bool E.out.symm, below_drewN HB.out _⟩
      · go_wp2_with fail
        go_quiet (fail)
        have hx2 : (wr.drewN nq).cell? ⟨b, off + (j + t), none⟩ = some (.int .u64 x) := hx
        have hy2 : (wr.drewN nq).cell? ⟨b', off' + t, none⟩ = some (.int .u64 y) := hy
        have HB2 := hid (below_drewN HB.out nq)
        clear hx hy HB
        generalize wr.drewN nq = wq at *
        by_cases hyx : x < y
        · have E : Hid (decide (Nm.val ms ≤ Nm.val (Qd.part rs j M)) = false) := by
            simp only [Hid, decide_eq_false_iff_not]
            have := LTS.out.2 hyx
            omega
          go_wp2_with fail
          go_quiet (fail)
          go_wp2
          go_ret
          exact ⟨ret_bool E.out.symm, below_drewN HB2.out _⟩
        · have EQ : Hid (x = y) := by show _ = _; omega
          go_wp2_with fail
          go_quiet (fail)
          go_wp2
          go_roundw
          case rel =>
            refine ⟨t, by omega, by go_num, fun i hi => ?_, below_drewN HB2.out _⟩
            by_cases e : i = t
            · subst e; rw [← X.out, ← Y.out]; exact EQ.out
            · exact hE.out i (by omega)
          case measure => simp [intOf]

/-- The limb of one round of takeOff: the ways. -/
theorem off_ways (x y bw : Int) (x0 : 0 ≤ x) (x1 : x < 18446744073709551616) (y0 : 0 ≤ y) (y1 : y < 18446744073709551616) (b0 : 0 ≤ bw) (b1 : bw ≤ 1) :
    ∃ t d b', IntKind.u64.wrap (x - y) = t ∧ IntKind.u64.wrap (t - bw) = d ∧ (0 ≤ t ∧ t < 18446744073709551616) ∧ (0 ≤ d ∧ d < 18446744073709551616) ∧ Hid (d + 18446744073709551616 * (-b') = x + (-y) + (-bw)) ∧
      ((x < y ∧ b' = 1) ∨ (x = y ∧ bw = 1 ∧ b' = 1) ∨ (x = y ∧ bw = 0 ∧ b' = 0) ∨ (y < x ∧ b' = 0)) := by
  refine ⟨_, _, if x < y ∨ (x = y ∧ bw = 1) then 1 else 0, rfl, rfl, ?_, ?_, ?_, ?_⟩
  · rw [wrap_mod]; omega
  · rw [wrap_mod]; omega
  · show _ = _
    rw [wrap_mod, wrap_mod]
    split <;> omega
  · split <;> omega

set_option maxRecDepth 100000 in
set_option maxHeartbeats 1000000 in
/-- takeOff: ms, from limb j on, out of a block of our own that holds it. -/
theorem takeOff_any (g C R cap M cap' j : Nat) (rs : List Int) (q : Option Addr) (ms : List Int) (ji : Int) (w : World) (ho : Own w g rs) (hr : rs.length = C) (hRC : R ≤ C) (hR : R ≤ 17592186044416) (hm : ms.length = M) (hM : 0 < M) (hjM : j + M ≤ R) (hlr : Nm.Limbs rs) (h2 : Lies w q ms) (hlm : Nm.Limbs ms) (hq : ∀ a, q = some a → a.block ≠ g) (hji : ji = (j : Int))
    (hge : Nm.pw j * Nm.val ms ≤ Nm.val rs) (hlt : Nm.val rs < Nm.pw (j + M)) :
    Calls Tryz.prog 92 #[.slice (some ⟨g, 0, none⟩) R cap, .int .i64 ji, .slice q M cap'] w fun e w' => ∃ os, e = .returned (.tuple #[]) ∧ Hid (Own w' g os ∧ os.length = C ∧ Nm.Limbs os ∧ Nm.val os = Nm.val rs - Nm.pw j * Nm.val ms ∧ Below g w w' ∧ w'.heap.size = w.heap.size ∧ ∀ b, b ≠ g → w'.heap[b]? = w.heap[b]?) := by
  subst hji
  obtain ⟨b', off', rfl, hbw', HC'⟩ := h2.at (by omega)
  have hbg : b' ≠ g := hq _ rfl
  have I0 : PartInv g C (j + M) w rs (Nm.val rs + Nm.pw j * (-Nm.val (ms.take 0))) (j + 0) (-0) rs w := ⟨⟨ho, hr, hlr, by simp [Nm.val], Below.refl _ _, rfl⟩, fun _ _ => rfl, fun _ _ => rfl⟩
  have fin : ∀ (os : List Int) (bw : Int) (wr : World), 0 ≤ bw → bw ≤ 1 → PartInv g C (j + M) w rs (Nm.val rs + Nm.pw j * (-Nm.val ms)) (j + M) (-bw) os wr →
      Own wr g os ∧ os.length = C ∧ Nm.Limbs os ∧ Nm.val os = Nm.val rs - Nm.pw j * Nm.val ms ∧ Below g w wr ∧ wr.heap.size = w.heap.size ∧ ∀ b, b ≠ g → wr.heap[b]? = w.heap[b]? := by
    intro os bw wr b0 b1 P
    obtain ⟨⟨p1, p2, p3, p4, p5, p6⟩, p7, p8⟩ := P
    have hz : Nm.val os < Nm.pw (j + M) := by
      have h1 := Nm.val_take_of_zero os (j + M) (fun i hi => by rw [p7 i hi]; exact Nm.zero_of_lt hlr hlt i hi)
      have h2 := (Nm.val_bd _ (p3.take (j + M))).2
      rw [List.length_take, Nat.min_eq_left (by omega)] at h2
      omega
    rw [Int.mul_neg, Int.mul_neg] at p4
    have hb : bw = 0 := by
      rcases (show bw = 0 ∨ bw = 1 by omega) with h | h
      · exact h
      · rw [h, Int.mul_one] at p4; omega
    rw [hb, Int.mul_zero] at p4
    exact ⟨p1, p2, p3, by omega, p5, p6, p8⟩
  have FIN := hid fin
  have HI0 := hid I0
  have HM : Hid (ms.length = M) := hm
  have HML : Hid (Nm.Limbs ms) := hlm
  clear fin I0 hm hlm hq ho hr hlr h2 hge hlt
  go_enter Tryz.func92, Tryz.ntmps92
  go_wp2_with fail
  go_loopw [6, 7] (fun c i wr => ∃ (k : Nat) (bw : Int) (os : List Int), k ≤ M ∧ i = .int .i64 k ∧ c = .int .u64 bw ∧ (0 ≤ bw ∧ bw ≤ 1) ∧ Hid (PartInv g C (j + M) w rs (Nm.val rs + Nm.pw j * (-Nm.val (ms.take k))) (j + k) (-bw) os wr)) (fun _ i _ => M - (intOf i).toNat)
  case atStart => exact ⟨0, 0, rs, Nat.zero_le _, rfl, rfl, by omega, HI0.out⟩
  case round =>
    clear HI0
    obtain ⟨k, bw, os, hk, rfl, rfl, ⟨bw0, bw1⟩, I⟩ := hrel
    by_cases hlt : k < M
    · obtain ⟨y, hy, Y⟩ : ∃ y, wr.cell? ⟨b', off' + k, none⟩ = some (.int .u64 y) ∧ Hid (y = ms.getD k 0) := ⟨_, by
        have h := I.out.2.2 b' hbg
        have e : wr.cell? ⟨b', off' + k, none⟩ = w.cell? ⟨b', off' + k, none⟩ := by simp only [World.cell?, h]
        rw [e]
        exact HC'.out k (by have := HM.out; omega), rfl⟩
      obtain ⟨x, hx, X⟩ : ∃ x, wr.cell? ⟨g, j + k, none⟩ = some (.int .u64 x) ∧ Hid (x = os.getD (j + k) 0) := ⟨_, I.out.1.1.cell (j + k) (by have := I.out.1.2.1; omega), rfl⟩
      have hfr := I.out.1.1.free (j + k)
      have hx0 : 0 ≤ x ∧ x < 18446744073709551616 := by have := I.out.1.2.2.1.at (j + k); have := X.out; omega
      have hy0 : 0 ≤ y ∧ y < 18446744073709551616 := by have := HML.out.at k; have := Y.out; omega
      obtain ⟨hx0, hx1⟩ := hx0
      obtain ⟨hy0, hy1⟩ := hy0
      obtain ⟨t, d, b2, r1, r2, ⟨t0, t1⟩, ⟨d0, d1⟩, E, W⟩ := off_ways x y bw hx0 hx1 hy0 hy1 bw0 bw1
      have ST := hid (I.out.step (by omega) (by omega) (x := -y) (s := d) (c' := -b2) ⟨d0, d1⟩ (by rw [← X.out]; exact E.out))
      have T2 : Hid (Nm.val rs + Nm.pw j * (-Nm.val (ms.take k)) + Nm.pw (j + k) * (-y) = Nm.val rs + Nm.pw j * (-Nm.val (ms.take (k + 1)))) := by
        show _ = _
        rw [Nm.val_take_succ ms k (by have := HM.out; omega), ← Y.out, Nm.pw_add, Int.mul_neg, Int.mul_neg, Int.mul_neg, Int.mul_add, Int.mul_assoc]
        omega
      rw [T2.out] at ST
      have htR : (j : Int) + (k : Int) < (R : Int) := by omega
      have hb2 : 0 ≤ b2 ∧ b2 ≤ 1 := by omega
      have HB2 := hid hb2
      clear I E hb2 T2
      rcases W with ⟨c, rfl⟩ | ⟨c, c2, rfl⟩ | ⟨c, c2, rfl⟩ | ⟨c, rfl⟩
      · go_wp2
        go_roundw
        case rel => exact ⟨k + 1, 1, _, by omega, by go_num, rfl, HB2.out, ST.out⟩
        case measure => simp [intOf]; omega
      · subst c2
        have c3 : (x == y) = true := by simp [c]
        have c4 : ¬ x < y := by omega
        have C := hid c
        clear c
        go_wp2
        go_roundw
        case rel => exact ⟨k + 1, 1, _, by omega, by go_num, rfl, HB2.out, ST.out⟩
        case measure => simp [intOf]; omega
      · subst c2
        have c3 : (x == y) = true := by simp [c]
        have c4 : ¬ x < y := by omega
        have C := hid c
        have hdt : d = t := by rw [← r2, wrap_mod]; omega
        subst hdt
        clear c r2
        go_wp2
        go_roundw
        case rel => exact ⟨k + 1, 0, _, by omega, by go_num, rfl, HB2.out, ST.out⟩
        case measure => simp [intOf]; omega
      · have c3 : (x == y) = false := by rw [beq_eq_false_iff_ne]; omega
        have c4 : ¬ x < y := by omega
        go_wp2
        go_roundw
        case rel => exact ⟨k + 1, 0, _, by omega, by go_num, rfl, HB2.out, ST.out⟩
        case measure => simp [intOf]; omega
    · have hkM : k = M := by omega
      subst hkM
      have e := I.out
      rw [List.take_of_length_le (by have := HM.out; omega)] at e
      have F := hid (FIN.out os bw wr bw0 bw1 e)
      clear e I
      go_wp2
      go_end0
      exact ⟨os, rfl, F⟩
end Go.Proofs.YtmakkfekomnpbaaGreatDoor

namespace Go.Proofs.YtmakkfekomnpbaaGreatDoor
open Go.RowKit Go.Deep

theorem zero64 (n : Nat) : Builtin.zeroCells #[Value.int .u64 0] n = ((List.replicate n (0 : Int)).map (Value.int .u64)).toArray := by
  apply Array.ext'
  simp only [Builtin.zeroCells, Array.toList_map, List.map_replicate, Array.toList_range, List.size_toArray, List.length_cons, List.length_nil, Nat.zero_add, Nat.mul_one, Nat.mod_one]
  exact List.eq_replicate_iff.2 ⟨by simp, fun v hv => by
    obtain ⟨i, _, rfl⟩ := List.mem_map.1 hv
    rfl⟩

/-- append(l, x): l fills its block, so that a new one is made, of unknown room. -/
theorem grow64 (g Y : Nat) (xs : List Int) (x : Int) (w : World) (hx : xs.length = Y) (hY : Y ≤ 1099511627776) (ho : Own w g xs) :
    ∃ cap w', (Builtin.append_ #[43, 43] 43 #[.slice (some ⟨g, 0, none⟩) Y Y, .slice (some ⟨w.heap.size, 0, none⟩) 1 1]).run Tryz.prog (w.alloc (.cells #[.int .u64 x] 26)) = .ok (.slice (some ⟨w.heap.size + 1, 0, none⟩) (Y + 1) cap) w' ∧
      Y + 1 ≤ cap ∧ Own w' (w.heap.size + 1) (xs ++ [x] ++ List.replicate (cap - (Y + 1)) 0) ∧ Below w.heap.size w w' := by
  obtain ⟨i, hi, hz⟩ := Option.map_eq_some_iff.1 info64
  simp only [Prod.mk.injEq] at hz
  obtain ⟨z1, z2, z3⟩ := hz
  have hg := ho.lt
  have bm : Below w.heap.size w (w.alloc (.cells #[.int .u64 x] 26)) := (Below.refl _ _).alloc (Nat.le_refl _) _
  have ho' := ho.below bm hg
  have hl : Own (w.alloc (.cells #[.int .u64 x] 26)) w.heap.size [x] := Own.alloc w [x]
  have hr := run_append_grow (P := Tryz.prog) (w.alloc (.cells #[.int .u64 x] 26)) 43 43 26 i (.int .u64 0) Tryz.underlying43 hi z1 ⟨g, 0, none⟩ Y Y (xs.map (Value.int .u64)) (by rw [z2, List.length_map, hx]; omega)
    (fun j v hv => by
      simp only [List.getElem?_map, Option.map_eq_some_iff] at hv
      obtain ⟨z, hz, rfl⟩ := hv
      have hj : j < xs.length := (List.getElem?_eq_some_iff.1 hz).1
      rw [Go.WideShapes.add_plain, Nat.zero_add, ho'.cell j hj]
      simp [List.getD, hz])
    ⟨w.heap.size, 0, none⟩ 1 1 [Value.int .u64 x] (by rw [z2]; rfl)
    (fun j v hv => by
      cases j with
      | zero =>
        simp at hv
        subst hv
        rw [Go.WideShapes.add_plain, hl.cell 0 (by simp)]
        rfl
      | succ j => simp at hv)
    (by omega) (by omega) (growslice_fits (by omega) (by rw [z3]; omega))
  have hge := grownCap_ge (w.alloc (.cells #[.int .u64 x] 26)) (Y + 1) Y 26
  have hs : (w.alloc (.cells #[.int .u64 x] 26)).heap.size = w.heap.size + 1 := World.size_alloc _ _
  obtain ⟨cap, hcap⟩ : ∃ c, grownCap (w.alloc (.cells #[.int .u64 x] 26)) (Y + 1) Y 26 = c := ⟨_, rfl⟩
  rw [hcap] at hr hge
  have e : ((xs.map (Value.int .u64)).toArray ++ [Value.int .u64 x].toArray ++ Builtin.zeroCells (Value.cells (.int .u64 0)) (cap - (Y + 1))) = ((xs ++ [x] ++ List.replicate (cap - (Y + 1)) 0).map (Value.int .u64)).toArray := by
    rw [show Value.cells (.int .u64 0) = #[Value.int .u64 0] from rfl, zero64]
    simp
  rw [e, hs] at hr
  refine ⟨cap, _, hr, hge, ?_, ?_⟩
  · have := Own.alloc (w.alloc (.cells #[.int .u64 x] 26)).drew (xs ++ [x] ++ List.replicate (cap - (Y + 1)) 0)
    rw [show (w.alloc (.cells #[.int .u64 x] 26)).drew.heap.size = w.heap.size + 1 from hs] at this
    exact this
  · exact bm.drew.alloc (by show w.heap.size ≤ (w.alloc (.cells #[.int .u64 x] 26)).heap.size; rw [hs]; omega) _

/-- A block of limbs of the number V, Y + 1 of them at least. -/
def Mv (Y : Nat) (V : Int) (w : World) (g : Nat) : Prop := ∃ os, Own w g os ∧ Y + 1 ≤ os.length ∧ Nm.Limbs os ∧ Nm.val os = V

theorem Mv.lies {Y : Nat} {V : Int} {w : World} {g : Nat} (h : Mv Y V w g) (hV : V < Nm.pw (Y + 1)) : ∃ ms, Lies w (some ⟨g, 0, none⟩) ms ∧ ms.length = Y + 1 ∧ Nm.Limbs ms ∧ Nm.val ms = V := by
  obtain ⟨os, h1, h2, h3, h4⟩ := h
  refine ⟨os.take (Y + 1), h1.lies.take _, by simp; omega, h3.take _, ?_⟩
  rw [Nm.val_take_of_zero os (Y + 1) (fun j hj => Nm.zero_of_lt h3 (by rw [h4]; exact hV) j hj), h4]

theorem Mv.below {Y : Nat} {V : Int} {w w' : World} {g : Nat} (h : Mv Y V w g) (hb : Below w.heap.size w w') : Mv Y V w' g := by
  obtain ⟨os, h1, h2⟩ := h
  exact ⟨os, h1.below hb h1.lt, h2⟩

theorem Mv.lt {Y : Nat} {V : Int} {w : World} {g : Nat} (h : Mv Y V w g) : g < w.heap.size := by
  obtain ⟨os, h1, h2⟩ := h
  exact h1.lt

/-- A header of Y + 1 limbs. -/
def hdr (Y : Nat) (e : Nat × Nat) : Value := .slice (some ⟨e.1, 0, none⟩) (Y + 1) e.2

theorem info64s : (Tryz.prog.info? 43).map (fun i => (i.zero, i.size, i.bytes)) = some (some (.slice none 0 0), 1, 24) := by kernel_rfl

/-- The list of headers, behind another one is appended. -/
theorem pushHdr (base Y n : Nat) (mv : Value) (l : List (Nat × Nat)) (e : Nat × Nat) (w : World) (hn : l.length = n) (hY : n ≤ 1000) (hb : base ≤ w.heap.size) (ho : w.ownsRow base 43 1 mv n (l.map (hdr Y))) :
    ∃ mv' w', (Builtin.append_ #[84, 84] 84 #[mv, .slice (some ⟨w.heap.size, 0, none⟩) 1 1]).run Tryz.prog (w.alloc (.cells #[hdr Y e] 43)) = .ok mv' w' ∧ w'.ownsRow base 43 1 mv' (n + 1) ((l ++ [e]).map (hdr Y)) ∧ Below base w w' ∧ (∀ V g, Mv Y V w g → Mv Y V w' g) ∧ w.heap.size ≤ w'.heap.size := by
  obtain ⟨i, hi, hz⟩ := Option.map_eq_some_iff.1 info64s
  simp only [Prod.mk.injEq] at hz
  obtain ⟨z1, z2, z3⟩ := hz
  have bm : Below w.heap.size w (w.alloc (.cells #[hdr Y e] 43)) := (Below.refl _ _).alloc (Nat.le_refl _) _
  have hs : (w.alloc (.cells #[hdr Y e] 43)).heap.size = w.heap.size + 1 := World.size_alloc _ _
  have ho' := ho.alloc (.cells #[hdr Y e] 43)
  have hcell : (w.alloc (.cells #[hdr Y e] 43)).cell? ⟨w.heap.size, 0, none⟩ = some (hdr Y e) := by
    have : (w.alloc (.cells #[hdr Y e] 43)).heap[w.heap.size]? = some (.cells #[hdr Y e] 43 (0, 0)) := by
      show (w.heap.push _)[w.heap.size]? = _
      rw [Array.getElem?_push, if_pos rfl]
    simp only [World.cell?, this]
    rfl
  obtain ⟨v', w', hr, h1, h2, _⟩ := run_append_own (P := Tryz.prog) (w.alloc (.cells #[hdr Y e] 43)) base 84 84 43 i (.slice none 0 0) 1 24 Tryz.underlying84 hi z1 z2 z3 rfl (by omega) mv n (l.map (hdr Y)) ho'
    ⟨w.heap.size, 0, none⟩ 1 1 [hdr Y e] rfl
    (fun j v hv => by
      cases j with
      | zero =>
        simp at hv
        subst hv
        rw [Go.WideShapes.add_plain]
        exact hcell
      | succ j => simp at hv)
    (fun u hu => by simp at hu; subst hu; rfl) (by simp only [maxLen]; omega) (by omega) (by rw [hs]; omega)
  refine ⟨v', w', hr, by simpa using h1, ?_, ?_, by have := h2.size; omega⟩
  · have hb2 : Below base (w.alloc (.cells #[hdr Y e] 43)) w' := by
      refine ⟨h2.os, h2.tape, h2.output, h2.size, fun j hj => h2.block j (by rw [hs]; omega) ?_⟩
      intro hk
      have := (ho'.lt j hk.symm).1
      omega
    exact (bm.mono hb).trans hb2
  · intro V g hm
    obtain ⟨os, m1, m2, m3, m4⟩ := hm
    have m1' := m1.below bm m1.lt
    have hne : some g ≠ mv.ownBlock := by
      intro hk
      rcases ho'.2 with ⟨rfl, _⟩ | ⟨g', cp, cur, rfl, _, hcur, _⟩
      · simp [Value.ownBlock] at hk
      · simp only [Value.ownBlock, Option.some.injEq] at hk
        subst hk
        simp only [Own] at m1'
        rw [m1'] at hcur
        simp only [Option.some.injEq, Obj.cells.injEq] at hcur
        exact absurd hcur.2.1 (by decide)
    refine ⟨os, ?_, m2, m3, m4⟩
    simp only [Own] at m1' ⊢
    rw [h2.block g (by rw [hs]; have := m1.lt; omega) hne]
    exact m1'
end Go.Proofs.YtmakkfekomnpbaaGreatDoor

namespace Go.Proofs.YtmakkfekomnpbaaGreatDoor
open Go.RowKit Go.Deep

/-- An append whose run is known. -/
theorem wpList_append_q {ty : TypeId} {ops : Array Oper} {rest : List Oper} {o : Oper} {a : Act} {Q : Exit → Act → World → Prop} (hgd : o.guard = none) (s x : Operand)
    (ho : o.op = .call { callee := .builtin .append, args := #[s, x], argTypes := #[ty, ty] }) {v y v' : Value} {w w' : World} (hr : (Builtin.append_ #[ty, ty] o.type #[v, y]).run Tryz.prog w = .ok v' w') (hs : a.eval s = v) (hx : a.eval x = y)
    (h : wpList Tryz.prog ops Q rest (a.put o.dst v') w') : wpList Tryz.prog ops Q (o :: rest) a w := by
  refine wpList_plain hgd fun K hK => ?_
  unfold Oper.wp execOp
  simp only [ho, resolve, invoke, builtin, Sem.run_bind, Sem.run_pure, Result.andThen_ok, List.map_toArray, List.map_cons, List.map_nil, hs, hx, hr]
  exact hK _ _ h

theorem qtwo_lt {B : Int} {Y k : Nat} (hB : B < Nm.pw Y) (hB0 : 0 ≤ B) (hk : k ≤ 64) : B * 2 ^ k < Nm.pw (Y + 1) := by
  have h1 := Nm.two_mono hk
  rw [Nm.two_64] at h1
  have h2 : B * 2 ^ k ≤ B * 18446744073709551616 := Int.mul_le_mul_of_nonneg_left h1 hB0
  rw [Nm.pw_succ]
  omega

/-- Before bit k of limb t of the quotient. -/
structure InI (w : World) (g g2 C K : Nat) (A b : Int) (t k : Nat) (os rs : List Int) (wr : World) : Prop where
  own : Own wr g rs
  len : rs.length = C
  lim : Nm.Limbs rs
  own2 : Own wr g2 os
  len2 : os.length = K
  lim2 : Nm.Limbs os
  zero : ∀ i, i < t → os.getD i 0 = 0
  bit : ∃ h, 0 ≤ h ∧ os.getD t 0 = h * 2 ^ k
  eq : Nm.val os * b + Nm.val rs = A
  lt : Nm.val rs < Nm.pw t * (b * 2 ^ k)
  low : Below g w wr

theorem InI.first {w : World} {g g2 C K : Nat} {A b : Int} {t : Nat} {os rs : List Int} {wr : World} (h : DivI w g g2 C K A b (t + 1) os rs wr) : InI w g g2 C K A b t 64 os rs wr := by
  refine ⟨h.own, h.len, h.lim, h.own2, h.len2, h.lim2, fun i hi => h.zero i (by omega), ⟨0, Int.le_refl _, by rw [h.zero t (by omega)]; omega⟩, h.eq, ?_, h.low⟩
  have := h.lt
  rw [Nm.pw_succ] at this
  rw [Nm.two_64]
  have e : Nm.pw t * (b * 18446744073709551616) = 18446744073709551616 * Nm.pw t * b := by rw [Int.mul_left_comm, Int.mul_comm b, Int.mul_comm (Nm.pw t)]
  omega

theorem InI.last {w : World} {g g2 C K : Nat} {A b : Int} {t : Nat} {os rs : List Int} {wr : World} (h : InI w g g2 C K A b t 0 os rs wr) : DivI w g g2 C K A b t os rs wr := by
  refine ⟨h.own, h.len, h.lim, h.own2, h.len2, h.lim2, h.zero, h.eq, ?_, h.low⟩
  have := h.lt
  rw [Int.pow_zero, Int.mul_one] at this
  exact this

/-- The bit is 0. -/
theorem InI.skip {w : World} {g g2 C K : Nat} {A b : Int} {t s : Nat} {os rs : List Int} {wr wr' : World} (h : InI w g g2 C K A b t (s + 1) os rs wr) (hb : Below wr.heap.size wr wr') (hlt : Nm.val rs < Nm.pw t * (b * 2 ^ s)) : InI w g g2 C K A b t s os rs wr' := by
  obtain ⟨x, x0, hx⟩ := h.bit
  have hg := h.own.lt
  exact ⟨h.own.below hb hg, h.len, h.lim, h.own2.below hb h.own2.lt, h.len2, h.lim2, h.zero, ⟨x * 2, by omega, by rw [hx, Nm.two_succ, Int.mul_assoc]⟩, h.eq, hlt, h.low.trans (hb.mono (by omega))⟩

/-- The bit is 1: what stands in the limb, and what it becomes. -/
theorem InI.orr {w : World} {g g2 C K : Nat} {A b : Int} {t s : Nat} {os rs : List Int} {wr : World} (h : InI w g g2 C K A b t (s + 1) os rs wr) (hs : s ≤ 63) :
    bits .or .u64 (os.getD t 0) (2 ^ s) = os.getD t 0 + 2 ^ s ∧ (0 ≤ os.getD t 0 + 2 ^ s ∧ os.getD t 0 + 2 ^ s < 18446744073709551616) := by
  obtain ⟨x, x0, hx⟩ := h.bit
  have hl := h.lim2.at t
  have p1 := Nm.two_pos s
  have e1 := Nm.two_succ s
  have e2 := Nm.two_mono (show s + 1 ≤ 64 by omega)
  rw [Nm.two_64] at e2
  have hdiv : x * 2 ^ (s + 1) + 2 ^ (s + 1) ≤ 18446744073709551616 := by
    have e3 : (2 : Int) ^ (64 - (s + 1)) * 2 ^ (s + 1) = 18446744073709551616 := by rw [← Nm.two_add, show 64 - (s + 1) + (s + 1) = 64 by omega, Nm.two_64]
    have hx1 : x < 2 ^ (64 - (s + 1)) := by
      rcases Int.lt_or_le x (2 ^ (64 - (s + 1))) with c | c
      · exact c
      · exfalso
        have : 2 ^ (64 - (s + 1)) * 2 ^ (s + 1) ≤ x * 2 ^ (s + 1) := Int.mul_le_mul_of_nonneg_right c (by omega)
        omega
    have : (x + 1) * 2 ^ (s + 1) ≤ 2 ^ (64 - (s + 1)) * 2 ^ (s + 1) := Int.mul_le_mul_of_nonneg_right (by omega) (by omega)
    rw [Int.add_mul, Int.one_mul] at this
    omega
  have ho := or_sum x (2 ^ s) (s + 1) x0 (by omega) (by omega) (by omega) (by omega)
  rw [← hx] at ho hdiv
  exact ⟨ho, by omega⟩

theorem InI.take {w : World} {g g2 C K : Nat} {A b : Int} {t s : Nat} {os rs rs' : List Int} {wr w1 w2 : World} (h : InI w g g2 C K A b t (s + 1) os rs wr) (htK : t < K) (hgl : g < g2) (hb : Below wr.heap.size wr w1)
    (ho : Own w2 g rs') (hl : rs'.length = C) (hlim : Nm.Limbs rs') (hv : Nm.val rs' = Nm.val rs - Nm.pw t * (b * 2 ^ s)) (hb2 : Below g w1 w2) (hoth : ∀ b, b ≠ g → w2.heap[b]? = w1.heap[b]?) (hs : s ≤ 63) :
    Own w2 g2 os ∧ InI w g g2 C K A b t s (os.set t (os.getD t 0 + 2 ^ s)) rs' (w2.setCell ⟨g2, t, none⟩ (.int .u64 (os.getD t 0 + 2 ^ s))) := by
  have hor := h.orr hs
  obtain ⟨x, x0, hx⟩ := h.bit
  have o2 : Own w2 g2 os := by
    have h1 := h.own2.below hb h.own2.lt
    simp only [Own] at h1 ⊢
    rw [hoth g2 (by omega)]
    exact h1
  have hlow : Below g w w2 := (h.low.trans (hb.mono (Nat.le_of_lt h.own.lt))).trans hb2
  have hgg : g2 ≠ g := by omega
  refine ⟨o2, ?_⟩
  have p1 := Nm.two_pos s
  have e1 := Nm.two_succ s
  refine ⟨ho.other hgg t _, hl, hlim, o2.set t _, by simpa using h.len2, h.lim2.set t hor.2.1 hor.2.2, fun i hi => ?_, ⟨x * 2 + 1, by omega, ?_⟩, ?_, ?_, ?_⟩
  · rw [Nm.getD_set _ _ _ _ (by rw [h.len2]; exact htK), if_neg (by omega)]
    exact h.zero i hi
  · rw [Nm.getD_set _ _ _ _ (by rw [h.len2]; exact htK), if_pos rfl, hx, e1, Int.add_mul, Int.one_mul, Int.mul_assoc]
  · rw [Nm.val_set _ _ _ (by rw [h.len2]; exact htK), show os.getD t 0 + 2 ^ s - os.getD t 0 = 2 ^ s by omega, Int.add_mul, hv]
    have e2 : Nm.pw t * 2 ^ s * b = Nm.pw t * (b * 2 ^ s) := by rw [Int.mul_assoc, Int.mul_comm (2 ^ s) b]
    have := h.eq
    omega
  · rw [hv]
    have := h.lt
    rw [e1] at this
    have e3 : Nm.pw t * (b * (2 * 2 ^ s)) = Nm.pw t * (b * 2 ^ s) + Nm.pw t * (b * 2 ^ s) := by rw [Int.mul_left_comm b, Int.mul_left_comm (Nm.pw t)]; omega
    omega
  · exact hlow.setCell (p := ⟨g2, t, none⟩) (Nat.le_of_lt hgl) _
end Go.Proofs.YtmakkfekomnpbaaGreatDoor
