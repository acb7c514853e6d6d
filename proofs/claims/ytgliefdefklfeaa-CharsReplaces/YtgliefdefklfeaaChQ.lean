/-
  abacusref20: Replace, whole; law20: replaces.
-/
import Derived.Test.YtgliefdefklfeaaChQAn
import Derived.Test.YtgliefdefklfeaaChQAp
import Derived.Test.YtgliefdefklfeaaChQBn
import Derived.Test.YtgliefdefklfeaaChQBp
import Derived.Test.YtgliefdefklfeaaChQCn
import Derived.Test.YtgliefdefklfeaaChQCp
import Derived.Test.YtgliefdefklfeaaChQDn
import Derived.Test.YtgliefdefklfeaaChQDp
import Derived.Test.YtgliefdefklfeaaChQEn
import Derived.Test.YtgliefdefklfeaaChQEp
import Derived.Test.YtgliefdefklfeaaChR2
namespace Go.Proofs.Ytgliefdefklfeaa
open Go Go.RowKit Go.Deep Go.Shelf

theorem rreplace_any (s old new : ByteArray) (most : Int) (w : World) (hs : s.size ≤ 16777216) (ho : old.size ≤ 140737488355328) (hn : new.size ≤ 140737488355328) (m0 : -9223372036854775808 ≤ most) (m1 : most ≤ 9223372036854775807) :
    Calls Try.prog 21 #[.string s, .string old, .string new, .int .i64 most] w (RpTold s.data.toList old.data.toList new.data.toList most w) := by
  obtain ⟨all, hSc⟩ := Ch.sc_ex s.data.toList old.data.toList (s.data.toList.length + 1) 0 (Ch.bud s.data.toList most) (by omega)
  obtain ⟨t1, t2, t3⟩ := Ch.sc_all new.data.toList hSc
  have hle := Ch.rn_le s.data.toList old.data.toList most
  have hcl := Ch.cn_le s.data.toList old.data.toList
  have hri := Ch.rk_int old.data.toList new.data.toList (Ch.rn s.data.toList old.data.toList most) s.data.toList hle
  have hro := Ch.cn_room old.data.toList (Ch.rn s.data.toList old.data.toList most) s.data.toList hle
  have F3 : ¬ (Ch.rk old.data.toList new.data.toList (Ch.rn s.data.toList old.data.toList most) s.data.toList).length ≤ 16777216 → ∀ w', Below w.heap.size w w' → RpTold s.data.toList old.data.toList new.data.toList most w (.returned (.tuple #[.string ⟨#[]⟩, .int .i64 0, .int .i64 3])) w' := fun q w' b =>
    ⟨by rw [Ch.rT, Ch.rC, Ch.rE, if_neg q, if_neg q, if_neg q]; rfl, b⟩
  have F0 : (Ch.rk old.data.toList new.data.toList (Ch.rn s.data.toList old.data.toList most) s.data.toList).length ≤ 16777216 → ∀ w', Below w.heap.size w w' → RpTold s.data.toList old.data.toList new.data.toList most w (.returned (.tuple #[.string (Ch.tx (Ch.rk old.data.toList new.data.toList (Ch.rn s.data.toList old.data.toList most) s.data.toList)), .int .i64 (Ch.rn s.data.toList old.data.toList most : Int), .int .i64 0])) w' := fun q w' b =>
    ⟨by rw [Ch.rT, Ch.rC, Ch.rE, if_pos q, if_pos q, if_pos q], b⟩
  rw [Ch.size_len, Ch.size_len, Ch.size_len] at hri
  rw [Ch.size_len, Ch.size_len] at hro
  rw [Ch.size_len] at hcl t1
  rw [Ch.size_len, Ch.size_len] at t3
  generalize Ch.rk old.data.toList new.data.toList (Ch.rn s.data.toList old.data.toList most) s.data.toList = T at *
  generalize Ch.rn s.data.toList old.data.toList most = N at *
  have hN : N ≤ 16777217 := by omega
  have e1 : ((N * new.size : Nat) : Int) = (N : Int) * (new.size : Int) := by push_cast; rfl
  have e2 : ((N * old.size : Nat) : Int) = (N : Int) * (old.size : Int) := by push_cast; rfl
  obtain ⟨P, hP⟩ : ∃ P : Int, (N : Int) * ((new.size : Int) - (old.size : Int)) = P := ⟨_, rfl⟩
  have hP2 : P = ((N * new.size : Nat) : Int) - ((N * old.size : Nat) : Int) := by rw [← hP, Int.mul_sub, e1, e2]
  have p0 : -16777216 ≤ P := by omega
  have hsum : (s.size : Int) + P = (T.length : Int) := by rw [hri, hP]
  by_cases n0 : N = 0
  · have hz : (0 : Int) = P := by rw [← hP, n0]; simp
    have n0i : ¬ (0 : Int) < (N : Int) := by omega
    have p1 : P ≤ 35184374185984 := by omega
    have big : T.length ≤ 16777216 := by omega
    by_cases sg : most < 0
    · exact rrep_An s old new most w _ _ _ T all N T.length P sg m0 m1 rfl rfl rfl hs ho hn hSc t2 t1 t3 rfl hN hP p0 p1 hsum n0i (by omega) (F0 big)
    · exact rrep_Ap s old new most w _ _ _ T all N T.length P sg m0 m1 rfl rfl rfl hs ho hn hSc t2 t1 t3 rfl hN hP p0 p1 hsum n0i (by omega) (F0 big)
  have n0i : (0 : Int) < (N : Int) := by omega
  by_cases g0 : (0 : Int) < (new.size : Int) - (old.size : Int)
  · obtain ⟨g, hg⟩ : ∃ g : Nat, (new.size : Int) - (old.size : Int) = (g : Int) := ⟨new.size - old.size, by omega⟩
    have gp : 0 < g := by omega
    have hPg : P = ((N * g : Nat) : Int) := by rw [← hP, hg]; push_cast; rfl
    have qe : (16777216 : Int) / ((new.size : Int) - (old.size : Int)) = ((16777216 / g : Nat) : Int) := by rw [hg, show (16777216 : Int) = ((16777216 : Nat) : Int) from rfl, ← Int.natCast_ediv]
    have qd : Int.tdiv 16777216 ((new.size : Int) - (old.size : Int)) = ((16777216 / g : Nat) : Int) := by rw [Int.tdiv_eq_ediv_of_nonneg (by decide), qe]
    have gz : ((new.size : Int) - (old.size : Int) == 0) = false := by rw [beq_eq_false_iff_ne]; omega
    have qb : 16777216 / g ≤ 16777216 := Nat.div_le_self _ _
    have hdv : 16777216 / g < N → 16777216 < N * g := fun q => (Nat.div_lt_iff_lt_mul gp).1 q
    have hdu : ¬ 16777216 / g < N → N * g ≤ 16777216 := fun q => Nat.le_trans (Nat.mul_le_mul_right g (Nat.le_of_not_lt q)) (Nat.div_mul_le_self _ _)
    generalize 16777216 / g = Q at *
    by_cases qn : Q < N
    · have hbig : 16777216 < N * g := hdv qn
      have p1 : P ≤ P := Int.le_refl _
      have big : ¬ T.length ≤ 16777216 := by omega
      by_cases sg : most < 0
      · exact rrep_Cn s old new most w _ _ _ T all N T.length P sg m0 m1 rfl rfl rfl hs ho hn hSc t2 t1 t3 rfl hN hP p0 p1 hsum n0i g0 _ qd qe gz (by omega) (by omega) (by omega) (F3 big)
      · exact rrep_Cp s old new most w _ _ _ T all N T.length P sg m0 m1 rfl rfl rfl hs ho hn hSc t2 t1 t3 rfl hN hP p0 p1 hsum n0i g0 _ qd qe gz (by omega) (by omega) (by omega) (F3 big)
    · have hsm := hdu qn
      have p1 : P ≤ 35184374185984 := by omega
      by_cases big : T.length ≤ 16777216
      · by_cases sg : most < 0
        · exact rrep_Dn s old new most w _ _ _ T all N T.length P sg m0 m1 rfl rfl rfl hs ho hn hSc t2 t1 t3 rfl hN hP p0 p1 hsum n0i g0 _ qd qe gz (by omega) (by omega) (by omega) (by omega) (F0 big)
        · exact rrep_Dp s old new most w _ _ _ T all N T.length P sg m0 m1 rfl rfl rfl hs ho hn hSc t2 t1 t3 rfl hN hP p0 p1 hsum n0i g0 _ qd qe gz (by omega) (by omega) (by omega) (by omega) (F0 big)
      · by_cases sg : most < 0
        · exact rrep_En s old new most w _ _ _ T all N T.length P sg m0 m1 rfl rfl rfl hs ho hn hSc t2 t1 t3 rfl hN hP p0 p1 hsum n0i g0 _ qd qe gz (by omega) (by omega) (by omega) (by omega) (F3 big)
        · exact rrep_Ep s old new most w _ _ _ T all N T.length P sg m0 m1 rfl rfl rfl hs ho hn hSc t2 t1 t3 rfl hN hP p0 p1 hsum n0i g0 _ qd qe gz (by omega) (by omega) (by omega) (by omega) (F3 big)
  · have hle2 : N * new.size ≤ N * old.size := Nat.mul_le_mul_left _ (by omega)
    have big : T.length ≤ 16777216 := by omega
    have p1 : P ≤ 35184374185984 := by omega
    by_cases sg : most < 0
    · exact rrep_Bn s old new most w _ _ _ T all N T.length P sg m0 m1 rfl rfl rfl hs ho hn hSc t2 t1 t3 rfl hN hP p0 p1 hsum n0i g0 (by omega) (F0 big)
    · exact rrep_Bp s old new most w _ _ _ T all N T.length P sg m0 m1 rfl rfl rfl hs ho hn hSc t2 t1 t3 rfl hN hP p0 p1 hsum n0i g0 (by omega) (F0 big)

set_option maxRecDepth 100000 in
set_option maxHeartbeats 2000000 in
theorem lreplaces_yes (s old new : ByteArray) (most : Int) (w : World) (hm : ML w) (hs : s.size ≤ 16777216) (ho : old.size ≤ 140737488355328) (hn : new.size ≤ 140737488355328) (m0 : -9223372036854775808 ≤ most) (m1 : most ≤ 9223372036854775807) :
    Calls Try.prog 12 #[.string s, .string old, .string new, .int .i64 most] w fun e w' => e = .returned (.bool true) ∧ Below w.heap.size w w' := by
  have R1 := hid (rreplace_any s old new most w hs ho hn m0 m1)
  have R2 : Hid (∀ wx, Below w.heap.size w wx → Calls Try.prog 16 #[.string s, .string old, .string new, .int .i64 most] wx (RpTold s.data.toList old.data.toList new.data.toList most wx)) := fun wx b => creplace_all s old new most wx (hm.b b) (by omega) (by omega) (by omega) m0 m1
  unfold RpTold at R1 R2
  clear hm hs ho hn m0 m1
  generalize Ch.rT s.data.toList old.data.toList new.data.toList most = T at *
  generalize (Ch.rC s.data.toList old.data.toList new.data.toList most : Int) = C at *
  generalize Ch.rE s.data.toList old.data.toList new.data.toList most = E at *
  go_enter Try.func12, Try.ntmps12
  go_wp2_with fail
  refine R1.out.mono ?_
  rintro e w1 ⟨rfl, hb⟩
  have B1 := hid hb
  clear hb R1
  go_wp2_with fail
  refine (R2.out _ B1.out).mono ?_
  rintro e w2 ⟨rfl, hb⟩
  have B2 := hid (below_on B1.out hb)
  clear hb R2 B1
  go_wp2_with fail
  go_ret
  exact ⟨rfl, B2.out⟩
end Go.Proofs.Ytgliefdefklfeaa
