/-
  code's reader: number.
-/
import Derived.Test.YtnobafmleellhaaDoorCdRc
import Derived.Test.YtnobafmleellhaaDoorCdRp
namespace Go.Proofs.YtnobafmleellhaaDoor
open Go Go.RowKit Go.Deep Go.Shelf

set_option maxRecDepth 100000 in
set_option maxHeartbeats 8000000 in
theorem rnumber_any {w : World} {rb : Nat} {q : Option Addr} {B : Ch.L8} {cap : Nat} {s : Cd.Rd} (h : Cd.RT w rb q B cap s) :
    Calls Tryd.prog 66 #[.pointer (some ⟨rb, 0, none⟩)] w fun e w' => e = .returned (.int .i64 ((Cd.nb B s).1 : Int)) ∧ Cd.RT w' rb q B cap (Cd.nb B s).2 ∧ Re.Kp (fun b => b = rb) w w' := by
  have NX : Hid (∀ W s, Cd.RT W rb q B cap s → _) := fun W s hs => rnext_any hs
  obtain ⟨k0, k1, k2, k3⟩ := Cd.bx4 h.bx
  have hle := h.le
  have hll := h.len
  obtain ⟨a, ha⟩ : ∃ a, s.a = a := ⟨_, rfl⟩
  have RF : Hid (∀ W s, Cd.RT W rb q B cap s → _) := fun W s hs => rrefuse_any hs a (fun _ => by omega)
  obtain ⟨T, hT⟩ : ∃ T, Cd.nb B s = T := ⟨_, rfl⟩
  have S0 : Hid (Cd.RT w rb q B cap s ∧ Re.Kp (fun b => b = rb) w w ∧ Cd.nbl a 5 0 0 B s = T) := ⟨h, Re.Kp.refl _ _, by rw [← hT, ← ha]; rfl⟩
  rw [hT]
  rw [ha] at k1 hle
  clear h hT ha
  go_enter Tryd.func66, Tryd.ntmps66
  go_wp2_with fail
  clear k0 k1 k2 k3
  go_loopg [4, 11] 5 (fun m nv iv wr => ∃ k : Nat, k + m = 5 ∧ iv = .int .i64 (k : Int) ∧ ∃ (n : Nat) (s : Cd.Rd), nv = .int .u64 (n : Int) ∧ Hid (n < 2 ^ (7 * k)) ∧ Hid (Cd.RT wr rb q B cap s ∧ Re.Kp (fun b => b = rb) w wr ∧ Cd.nbl a m k n B s = T))
  case atStart => exact ⟨0, by omega, rfl, 0, s, rfl, (by decide : (0 : Nat) < 2 ^ (7 * 0)), S0⟩
  case round =>
    obtain ⟨k, hk, rfl, n, s2, rfl, hn, J⟩ := hrel
    clear S0
    by_cases kl : k < 5
    · have kli : (k : Int) < 5 := by omega
      have N1 := hid (NX.out wr s2 J.out.1)
      obtain ⟨m, rfl⟩ : ∃ m, gk = m + 1 := ⟨gk - 1, by omega⟩
      have cs : (k = 0 ∨ k = 1 ∨ k = 2 ∨ k = 3 ∨ k = 4) := by omega
      have KW := hid J.out.2.1
      have JE := hid J.out.2.2
      have EM : Hid (128 ≤ (Cd.next B s2).1.toNat → _) := fun h => Cd.nbl_more (first := a) (k := m) (i := k) (n := n) h
      have EL : Hid (¬ 128 ≤ (Cd.next B s2).1.toNat → _) := fun h => Cd.nbl_last (first := a) (k := m) (i := k) (n := n) h
      generalize Cd.next B s2 = XS at *
      obtain ⟨x, s3⟩ := XS
      have sz := x.toNat_lt
      have NY : Hid (∀ N, (x.toNat = 0 ∧ 0 < k) ∨ 2147483647 < N → Cd.nbe a k N x B s3 = (0, Cd.rf s3 a)) := fun N h => Cd.nbe_yes h
      have NO : Hid (∀ N, ¬ ((x.toNat = 0 ∧ 0 < k) ∨ 2147483647 < N) → Cd.nbe a k N x B s3 = (if s3.f.isSome then 0 else N, s3)) := fun N h => Cd.nbe_no h
      generalize x.toNat = c at *
      have c0 : (0 : Int) ≤ (c : Int) := by omega
      have c1 : (c : Int) < 256 := by omega
      clear NX J
      rcases cs with rfl | rfl | rfl | rfl | rfl
      · have hn' : n < 1 := hn.out
        by_cases hc : 128 ≤ c
        · have hci : (128 : Int) ≤ (c : Int) := by omega
          obtain ⟨N, hN⟩ : ∃ N, n + c % 128 * 2 ^ (7 * 0) = N := ⟨_, rfl⟩
          have hN2 : n + c % 128 * 1 = N := hN
          have hN3 : Hid (N < 2 ^ (7 * (0 + 1))) := by show N < 128; omega
          have hv : ((n : Int) + (c : Int) % 128) = (N : Int) := by omega
          have E1 : Hid (Cd.nbl a m (0 + 1) N B s3 = T) := by rw [Hid, ← JE.out, EM.out hc, hN]
          have hV := hid hv
          clear hN hN2 hv EM EL JE NY NO RF
          go_wp2_with (go_at_call 64; refine N1.out.mono ?_; rintro e w2 ⟨rfl, g1, g2⟩; have F2 := hid (And.intro g1 (And.intro (KW.out.trans g2) E1.out)); clear g1 g2 N1)
          go_roundg m
          case measure => omega
          case rel => exact ⟨0 + 1, by omega, by go_num, N, s3, congrArg (Value.int .u64) hV.out, hN3, F2⟩
        · have hci : ¬ (128 : Int) ≤ (c : Int) := by omega
          have E0 := EL.out hc
          rw [JE.out] at E0
          obtain ⟨N, hN⟩ : ∃ N, n + c * 2 ^ (7 * 0) = N := ⟨_, rfl⟩
          have hN2 : n + c * 1 = N := hN
          have hv : ((n : Int) + (c : Int) % 128) = (N : Int) := by omega
          have hNb : N < 128 := by omega
          rw [hN] at E0
          have EH := hid E0
          clear E0
          have hV := hid hv
          have hH := hid hNb
          clear hN hN2 EM EL JE hv hNb
          go_upto_region 8 with (go_at_call 64; refine N1.out.mono ?_; rintro e w2 ⟨rfl, g1, g2⟩; have G2 := hid (And.intro g1 (KW.out.trans g2)); clear g1 g2 N1)
          rw [hV.out]
          obtain ⟨-, -, l2, -⟩ := Cd.bx4 G2.out.1.bx
          have hNb := hH.out
          have hNi : (N : Int) < 128 := by omega
          clear hn hV
          by_cases hA : (c = 0 ∧ 0 < 0) ∨ 2147483647 < N
          · have TE := hid (EH.out.trans (NY.out N hA))
            have FT : Hid (T.1 = 0 ∧ T.2 = Cd.rf s3 a) := by rw [Hid, TE.out]; exact ⟨rfl, rfl⟩
            have RS := Cd.rf_some s3 a
            clear EH TE NY NO l2
            exfalso; omega
          · have TE := hid (EH.out.trans (NO.out N hA))
            have nA : ¬ (2147483647 : Int) < (N : Int) := by omega
            have nB : (N : Int) ≤ 2147483647 := by omega
            clear EH NY NO RF hA hn' hNb hNi hH
            cases hf : s3.f.isSome with
            | true =>
              rw [hf] at l2
              have FT : Hid (T.1 = 0 ∧ T.2 = s3) := by rw [Hid, TE.out, hf]; exact ⟨rfl, rfl⟩
              clear TE
              go_wp2_with fail
              all_goals
                go_ret
                rw [FT.out.1, FT.out.2]
                exact ⟨rfl, G2.out⟩
            | false =>
              rw [hf] at l2
              have FT : Hid (T.1 = N ∧ T.2 = s3) := by rw [Hid, TE.out, hf]; exact ⟨rfl, rfl⟩
              clear TE
              go_wp2_with fail
              all_goals
                go_ret
                rw [FT.out.1, FT.out.2]
                exact ⟨rfl, G2.out⟩
      · have hn' : n < 128 := hn.out
        by_cases hc : 128 ≤ c
        · have hci : (128 : Int) ≤ (c : Int) := by omega
          obtain ⟨N, hN⟩ : ∃ N, n + c % 128 * 2 ^ (7 * 1) = N := ⟨_, rfl⟩
          have hN2 : n + c % 128 * 128 = N := hN
          have hN3 : Hid (N < 2 ^ (7 * (1 + 1))) := by show N < 16384; omega
          have hv : ((n : Int) + (c : Int) % 128 * 128) = (N : Int) := by omega
          have E1 : Hid (Cd.nbl a m (1 + 1) N B s3 = T) := by rw [Hid, ← JE.out, EM.out hc, hN]
          have hV := hid hv
          clear hN hN2 hv EM EL JE NY NO RF
          go_wp2_with (go_at_call 64; refine N1.out.mono ?_; rintro e w2 ⟨rfl, g1, g2⟩; have F2 := hid (And.intro g1 (And.intro (KW.out.trans g2) E1.out)); clear g1 g2 N1)
          go_roundg m
          case measure => omega
          case rel => exact ⟨1 + 1, by omega, by go_num, N, s3, congrArg (Value.int .u64) hV.out, hN3, F2⟩
        · have hci : ¬ (128 : Int) ≤ (c : Int) := by omega
          have E0 := EL.out hc
          rw [JE.out] at E0
          obtain ⟨N, hN⟩ : ∃ N, n + c * 2 ^ (7 * 1) = N := ⟨_, rfl⟩
          have hN2 : n + c * 128 = N := hN
          have hv : ((n : Int) + (c : Int) % 128 * 128) = (N : Int) := by omega
          have hNb : N < 16384 := by omega
          rw [hN] at E0
          have EH := hid E0
          clear E0
          have hV := hid hv
          have hH := hid hNb
          clear hN hN2 EM EL JE hv hNb
          go_upto_region 8 with (go_at_call 64; refine N1.out.mono ?_; rintro e w2 ⟨rfl, g1, g2⟩; have G2 := hid (And.intro g1 (KW.out.trans g2)); clear g1 g2 N1)
          rw [hV.out]
          obtain ⟨-, -, l2, -⟩ := Cd.bx4 G2.out.1.bx
          have hNb := hH.out
          have hNi : (N : Int) < 16384 := by omega
          clear hn hV
          by_cases hA : (c = 0 ∧ 0 < 1) ∨ 2147483647 < N
          · have TE := hid (EH.out.trans (NY.out N hA))
            have FT : Hid (T.1 = 0 ∧ T.2 = Cd.rf s3 a) := by rw [Hid, TE.out]; exact ⟨rfl, rfl⟩
            have RS := Cd.rf_some s3 a
            clear EH TE NY NO l2
            by_cases hz : c = 0
            · have hzi : (c : Int) = 0 := by omega
              clear hA hz hn' hNb hNi hH
              go_upto_region 11 with (go_at_call 41; refine (RF.out _ _ G2.out.1).mono ?_; rintro e w3 ⟨rfl, g1, g2⟩; have G3 := hid (And.intro g1 (G2.out.2.trans g2)); obtain ⟨-, -, l2, -⟩ := Cd.bx4 g1.bx; rw [RS] at l2; clear g1 g2 RF)
              go_wp2_with fail
              go_ret
              rw [FT.out.1, FT.out.2]
              exact ⟨rfl, G3.out⟩
            · have hzi : ¬ (c : Int) = 0 := by omega
              exfalso; omega
          · have TE := hid (EH.out.trans (NO.out N hA))
            have nA : ¬ (2147483647 : Int) < (N : Int) := by omega
            have nB : (N : Int) ≤ 2147483647 := by omega
            have hzb : ((c : Int) == 0) = false := beq_eq_false_iff_ne.2 (by omega)
            clear EH NY NO RF hA hn' hNb hNi hH
            cases hf : s3.f.isSome with
            | true =>
              rw [hf] at l2
              have FT : Hid (T.1 = 0 ∧ T.2 = s3) := by rw [Hid, TE.out, hf]; exact ⟨rfl, rfl⟩
              clear TE
              go_wp2_with fail
              all_goals
                go_ret
                rw [FT.out.1, FT.out.2]
                exact ⟨rfl, G2.out⟩
            | false =>
              rw [hf] at l2
              have FT : Hid (T.1 = N ∧ T.2 = s3) := by rw [Hid, TE.out, hf]; exact ⟨rfl, rfl⟩
              clear TE
              go_wp2_with fail
              all_goals
                go_ret
                rw [FT.out.1, FT.out.2]
                exact ⟨rfl, G2.out⟩
      · have hn' : n < 16384 := hn.out
        by_cases hc : 128 ≤ c
        · have hci : (128 : Int) ≤ (c : Int) := by omega
          obtain ⟨N, hN⟩ : ∃ N, n + c % 128 * 2 ^ (7 * 2) = N := ⟨_, rfl⟩
          have hN2 : n + c % 128 * 16384 = N := hN
          have hN3 : Hid (N < 2 ^ (7 * (2 + 1))) := by show N < 2097152; omega
          have hv : ((n : Int) + (c : Int) % 128 * 16384) = (N : Int) := by omega
          have E1 : Hid (Cd.nbl a m (2 + 1) N B s3 = T) := by rw [Hid, ← JE.out, EM.out hc, hN]
          have hV := hid hv
          clear hN hN2 hv EM EL JE NY NO RF
          go_wp2_with (go_at_call 64; refine N1.out.mono ?_; rintro e w2 ⟨rfl, g1, g2⟩; have F2 := hid (And.intro g1 (And.intro (KW.out.trans g2) E1.out)); clear g1 g2 N1)
          go_roundg m
          case measure => omega
          case rel => exact ⟨2 + 1, by omega, by go_num, N, s3, congrArg (Value.int .u64) hV.out, hN3, F2⟩
        · have hci : ¬ (128 : Int) ≤ (c : Int) := by omega
          have E0 := EL.out hc
          rw [JE.out] at E0
          obtain ⟨N, hN⟩ : ∃ N, n + c * 2 ^ (7 * 2) = N := ⟨_, rfl⟩
          have hN2 : n + c * 16384 = N := hN
          have hv : ((n : Int) + (c : Int) % 128 * 16384) = (N : Int) := by omega
          have hNb : N < 2097152 := by omega
          rw [hN] at E0
          have EH := hid E0
          clear E0
          have hV := hid hv
          have hH := hid hNb
          clear hN hN2 EM EL JE hv hNb
          go_upto_region 8 with (go_at_call 64; refine N1.out.mono ?_; rintro e w2 ⟨rfl, g1, g2⟩; have G2 := hid (And.intro g1 (KW.out.trans g2)); clear g1 g2 N1)
          rw [hV.out]
          obtain ⟨-, -, l2, -⟩ := Cd.bx4 G2.out.1.bx
          have hNb := hH.out
          have hNi : (N : Int) < 2097152 := by omega
          clear hn hV
          by_cases hA : (c = 0 ∧ 0 < 2) ∨ 2147483647 < N
          · have TE := hid (EH.out.trans (NY.out N hA))
            have FT : Hid (T.1 = 0 ∧ T.2 = Cd.rf s3 a) := by rw [Hid, TE.out]; exact ⟨rfl, rfl⟩
            have RS := Cd.rf_some s3 a
            clear EH TE NY NO l2
            by_cases hz : c = 0
            · have hzi : (c : Int) = 0 := by omega
              clear hA hz hn' hNb hNi hH
              go_upto_region 11 with (go_at_call 41; refine (RF.out _ _ G2.out.1).mono ?_; rintro e w3 ⟨rfl, g1, g2⟩; have G3 := hid (And.intro g1 (G2.out.2.trans g2)); obtain ⟨-, -, l2, -⟩ := Cd.bx4 g1.bx; rw [RS] at l2; clear g1 g2 RF)
              go_wp2_with fail
              go_ret
              rw [FT.out.1, FT.out.2]
              exact ⟨rfl, G3.out⟩
            · have hzi : ¬ (c : Int) = 0 := by omega
              exfalso; omega
          · have TE := hid (EH.out.trans (NO.out N hA))
            have nA : ¬ (2147483647 : Int) < (N : Int) := by omega
            have nB : (N : Int) ≤ 2147483647 := by omega
            have hzb : ((c : Int) == 0) = false := beq_eq_false_iff_ne.2 (by omega)
            clear EH NY NO RF hA hn' hNb hNi hH
            cases hf : s3.f.isSome with
            | true =>
              rw [hf] at l2
              have FT : Hid (T.1 = 0 ∧ T.2 = s3) := by rw [Hid, TE.out, hf]; exact ⟨rfl, rfl⟩
              clear TE
              go_wp2_with fail
              all_goals
                go_ret
                rw [FT.out.1, FT.out.2]
                exact ⟨rfl, G2.out⟩
            | false =>
              rw [hf] at l2
              have FT : Hid (T.1 = N ∧ T.2 = s3) := by rw [Hid, TE.out, hf]; exact ⟨rfl, rfl⟩
              clear TE
              go_wp2_with fail
              all_goals
                go_ret
                rw [FT.out.1, FT.out.2]
                exact ⟨rfl, G2.out⟩
      · have hn' : n < 2097152 := hn.out
        by_cases hc : 128 ≤ c
        · have hci : (128 : Int) ≤ (c : Int) := by omega
          obtain ⟨N, hN⟩ : ∃ N, n + c % 128 * 2 ^ (7 * 3) = N := ⟨_, rfl⟩
          have hN2 : n + c % 128 * 2097152 = N := hN
          have hN3 : Hid (N < 2 ^ (7 * (3 + 1))) := by show N < 268435456; omega
          have hv : ((n : Int) + (c : Int) % 128 * 2097152) = (N : Int) := by omega
          have E1 : Hid (Cd.nbl a m (3 + 1) N B s3 = T) := by rw [Hid, ← JE.out, EM.out hc, hN]
          have hV := hid hv
          clear hN hN2 hv EM EL JE NY NO RF
          go_wp2_with (go_at_call 64; refine N1.out.mono ?_; rintro e w2 ⟨rfl, g1, g2⟩; have F2 := hid (And.intro g1 (And.intro (KW.out.trans g2) E1.out)); clear g1 g2 N1)
          go_roundg m
          case measure => omega
          case rel => exact ⟨3 + 1, by omega, by go_num, N, s3, congrArg (Value.int .u64) hV.out, hN3, F2⟩
        · have hci : ¬ (128 : Int) ≤ (c : Int) := by omega
          have E0 := EL.out hc
          rw [JE.out] at E0
          obtain ⟨N, hN⟩ : ∃ N, n + c * 2 ^ (7 * 3) = N := ⟨_, rfl⟩
          have hN2 : n + c * 2097152 = N := hN
          have hv : ((n : Int) + (c : Int) % 128 * 2097152) = (N : Int) := by omega
          have hNb : N < 268435456 := by omega
          rw [hN] at E0
          have EH := hid E0
          clear E0
          have hV := hid hv
          have hH := hid hNb
          clear hN hN2 EM EL JE hv hNb
          go_upto_region 8 with (go_at_call 64; refine N1.out.mono ?_; rintro e w2 ⟨rfl, g1, g2⟩; have G2 := hid (And.intro g1 (KW.out.trans g2)); clear g1 g2 N1)
          rw [hV.out]
          obtain ⟨-, -, l2, -⟩ := Cd.bx4 G2.out.1.bx
          have hNb := hH.out
          have hNi : (N : Int) < 268435456 := by omega
          clear hn hV
          by_cases hA : (c = 0 ∧ 0 < 3) ∨ 2147483647 < N
          · have TE := hid (EH.out.trans (NY.out N hA))
            have FT : Hid (T.1 = 0 ∧ T.2 = Cd.rf s3 a) := by rw [Hid, TE.out]; exact ⟨rfl, rfl⟩
            have RS := Cd.rf_some s3 a
            clear EH TE NY NO l2
            by_cases hz : c = 0
            · have hzi : (c : Int) = 0 := by omega
              clear hA hz hn' hNb hNi hH
              go_upto_region 11 with (go_at_call 41; refine (RF.out _ _ G2.out.1).mono ?_; rintro e w3 ⟨rfl, g1, g2⟩; have G3 := hid (And.intro g1 (G2.out.2.trans g2)); obtain ⟨-, -, l2, -⟩ := Cd.bx4 g1.bx; rw [RS] at l2; clear g1 g2 RF)
              go_wp2_with fail
              go_ret
              rw [FT.out.1, FT.out.2]
              exact ⟨rfl, G3.out⟩
            · have hzi : ¬ (c : Int) = 0 := by omega
              exfalso; omega
          · have TE := hid (EH.out.trans (NO.out N hA))
            have nA : ¬ (2147483647 : Int) < (N : Int) := by omega
            have nB : (N : Int) ≤ 2147483647 := by omega
            have hzb : ((c : Int) == 0) = false := beq_eq_false_iff_ne.2 (by omega)
            clear EH NY NO RF hA hn' hNb hNi hH
            cases hf : s3.f.isSome with
            | true =>
              rw [hf] at l2
              have FT : Hid (T.1 = 0 ∧ T.2 = s3) := by rw [Hid, TE.out, hf]; exact ⟨rfl, rfl⟩
              clear TE
              go_wp2_with fail
              all_goals
                go_ret
                rw [FT.out.1, FT.out.2]
                exact ⟨rfl, G2.out⟩
            | false =>
              rw [hf] at l2
              have FT : Hid (T.1 = N ∧ T.2 = s3) := by rw [Hid, TE.out, hf]; exact ⟨rfl, rfl⟩
              clear TE
              go_wp2_with fail
              all_goals
                go_ret
                rw [FT.out.1, FT.out.2]
                exact ⟨rfl, G2.out⟩
      · have hn' : n < 268435456 := hn.out
        by_cases hc : 128 ≤ c
        · have hci : (128 : Int) ≤ (c : Int) := by omega
          obtain ⟨N, hN⟩ : ∃ N, n + c % 128 * 2 ^ (7 * 4) = N := ⟨_, rfl⟩
          have hN2 : n + c % 128 * 268435456 = N := hN
          have hN3 : Hid (N < 2 ^ (7 * (4 + 1))) := by show N < 34359738368; omega
          have hv : ((n : Int) + (c : Int) % 128 * 268435456) = (N : Int) := by omega
          have E1 : Hid (Cd.nbl a m (4 + 1) N B s3 = T) := by rw [Hid, ← JE.out, EM.out hc, hN]
          have hV := hid hv
          clear hN hN2 hv EM EL JE NY NO RF
          go_wp2_with (go_at_call 64; refine N1.out.mono ?_; rintro e w2 ⟨rfl, g1, g2⟩; have F2 := hid (And.intro g1 (And.intro (KW.out.trans g2) E1.out)); clear g1 g2 N1)
          go_roundg m
          case measure => omega
          case rel => exact ⟨4 + 1, by omega, by go_num, N, s3, congrArg (Value.int .u64) hV.out, hN3, F2⟩
        · have hci : ¬ (128 : Int) ≤ (c : Int) := by omega
          have E0 := EL.out hc
          rw [JE.out] at E0
          obtain ⟨N, hN⟩ : ∃ N, n + c * 2 ^ (7 * 4) = N := ⟨_, rfl⟩
          have hN2 : n + c * 268435456 = N := hN
          have hv : ((n : Int) + (c : Int) % 128 * 268435456) = (N : Int) := by omega
          have hNb : N < 34359738368 := by omega
          rw [hN] at E0
          have EH := hid E0
          clear E0
          have hV := hid hv
          have hH := hid hNb
          clear hN hN2 EM EL JE hv hNb
          go_upto_region 8 with (go_at_call 64; refine N1.out.mono ?_; rintro e w2 ⟨rfl, g1, g2⟩; have G2 := hid (And.intro g1 (KW.out.trans g2)); clear g1 g2 N1)
          rw [hV.out]
          obtain ⟨-, -, l2, -⟩ := Cd.bx4 G2.out.1.bx
          have hNb := hH.out
          have hNi : (N : Int) < 34359738368 := by omega
          clear hn hV
          by_cases hA : (c = 0 ∧ 0 < 4) ∨ 2147483647 < N
          · have TE := hid (EH.out.trans (NY.out N hA))
            have FT : Hid (T.1 = 0 ∧ T.2 = Cd.rf s3 a) := by rw [Hid, TE.out]; exact ⟨rfl, rfl⟩
            have RS := Cd.rf_some s3 a
            clear EH TE NY NO l2
            by_cases hz : c = 0
            · have hzi : (c : Int) = 0 := by omega
              clear hA hz hn' hNb hNi hH
              go_upto_region 11 with (go_at_call 41; refine (RF.out _ _ G2.out.1).mono ?_; rintro e w3 ⟨rfl, g1, g2⟩; have G3 := hid (And.intro g1 (G2.out.2.trans g2)); obtain ⟨-, -, l2, -⟩ := Cd.bx4 g1.bx; rw [RS] at l2; clear g1 g2 RF)
              go_wp2_with fail
              go_ret
              rw [FT.out.1, FT.out.2]
              exact ⟨rfl, G3.out⟩
            · have hzb : ((c : Int) == 0) = false := beq_eq_false_iff_ne.2 (by omega)
              have h2i : (2147483647 : Int) < (N : Int) := by omega
              clear hA hz hn' hNb hNi hH
              go_upto_region 11 with (go_at_call 41; refine (RF.out _ _ G2.out.1).mono ?_; rintro e w3 ⟨rfl, g1, g2⟩; have G3 := hid (And.intro g1 (G2.out.2.trans g2)); obtain ⟨-, -, l2, -⟩ := Cd.bx4 g1.bx; rw [RS] at l2; clear g1 g2 RF)
              go_wp2_with fail
              go_ret
              rw [FT.out.1, FT.out.2]
              exact ⟨rfl, G3.out⟩
          · have TE := hid (EH.out.trans (NO.out N hA))
            have nA : ¬ (2147483647 : Int) < (N : Int) := by omega
            have nB : (N : Int) ≤ 2147483647 := by omega
            have hzb : ((c : Int) == 0) = false := beq_eq_false_iff_ne.2 (by omega)
            clear EH NY NO RF hA hn' hNb hNi hH
            cases hf : s3.f.isSome with
            | true =>
              rw [hf] at l2
              have FT : Hid (T.1 = 0 ∧ T.2 = s3) := by rw [Hid, TE.out, hf]; exact ⟨rfl, rfl⟩
              clear TE
              go_wp2_with fail
              all_goals
                go_ret
                rw [FT.out.1, FT.out.2]
                exact ⟨rfl, G2.out⟩
            | false =>
              rw [hf] at l2
              have FT : Hid (T.1 = N ∧ T.2 = s3) := by rw [Hid, TE.out, hf]; exact ⟨rfl, rfl⟩
              clear TE
              go_wp2_with fail
              all_goals
                go_ret
                rw [FT.out.1, FT.out.2]
                exact ⟨rfl, G2.out⟩
    · obtain rfl : k = 5 := by omega
      obtain rfl : gk = 0 := by omega
      have FT : Hid (T.1 = 0 ∧ T.2 = Cd.rf s2 a) := by rw [Hid, ← J.out.2.2]; exact ⟨rfl, rfl⟩
      have R2 := hid J.out.1
      have K2 := hid J.out.2.1
      clear J NX
      go_wp2_with (go_at_call 41; refine (RF.out _ _ R2.out).mono ?_; rintro e w3 ⟨rfl, g1, g2⟩; have G3 := hid (And.intro g1 (K2.out.trans g2)); clear g1 g2 RF)
      go_ret
      rw [FT.out.1, FT.out.2]
      exact ⟨rfl, G3.out⟩
end Go.Proofs.YtnobafmleellhaaDoor
