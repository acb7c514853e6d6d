/-
  numeral's natural.
-/
import Derived.Test.YtbdilikdenhnkaaDoorNLimb
import Derived.Test.YtbdilikdenhnkaaDoorNSTrim
import Derived.Test.YtbdilikdenhnkaaDoorMulAddW
import Derived.Test.YtbdilikdenhnkaaDoorQGives
import Derived.BigRegion
import Derived.Deep.LoopGhost
import Derived.Deep.CutRange
namespace Go.Proofs.YtbdilikdenhnkaaDoor
open Go.RowKit Go.Deep

/-- The k-th group lies from at on, up to en. -/
structure Grp (r W k at_ en : Nat) : Prop where
  e : en = r + k * W
  z : k = 0 → at_ = 0
  s : ∀ q, k = q + 1 → at_ = r + q * W

theorem Grp.next {r W k a b : Nat} (h : Grp r W k a b) : Grp r W (k + 1) b (b + W) :=
  ⟨by rw [h.e, Nat.add_mul]; omega, fun c => by omega, fun q hq => by obtain rfl : q = k := by omega
                                                                      exact h.e⟩

theorem Grp.le {r W k a b : Nat} (h : Grp r W k a b) (hr : r ≤ W) : a ≤ b ∧ b - a ≤ W ∧ (0 < k → b = a + W) := by
  cases k with
  | zero => have := h.z rfl; have := h.e; omega
  | succ q =>
    have h1 := h.s q rfl
    have h2 := h.e
    rw [Nat.add_mul] at h2
    omega

theorem Grp.in {r W k a b Q m : Nat} (h : Grp r W k a b) (hm : m = r + Q * W) (ha : a < m) : k ≤ Q ∧ b ≤ m := by
  have hk : k ≤ Q := by
    cases k with
    | zero => omega
    | succ q =>
      have h1 := h.s q rfl
      have : q * W < Q * W := by omega
      have := Nat.lt_of_mul_lt_mul_right this
      omega
  refine ⟨hk, ?_⟩
  have := Nat.mul_le_mul_right W hk
  have := h.e
  omega

theorem tv_group (B : Int) (ys : List Int) (a b : Nat) (hab : a ≤ b) : Dn.tv B 0 (ys.take b) = Dn.tv B 0 (ys.take a) * B ^ ((ys.drop a).take (b - a)).length + Dn.tv B 0 ((ys.drop a).take (b - a)) := by
  have e : ys.take b = ys.take a ++ (ys.drop a).take (b - a) := by
    rw [show b = a + (b - a) by omega, List.take_add]
    simp
  rw [e, Dn.tv_append, Dn.tv_acc]

theorem tv_grows {B : Int} (hB : 1 ≤ B) (ys : List Int) (hd : ∀ d ∈ ys, 0 ≤ d) (k : Nat) : Dn.tv B 0 (ys.take k) ≤ Dn.tv B 0 ys := by
  have e : Dn.tv B 0 ys = Dn.tv B 0 (ys.take k) * B ^ (ys.drop k).length + Dn.tv B 0 (ys.drop k) := by
    conv => lhs; rw [← List.take_append_drop k ys]
    rw [Dn.tv_append, Dn.tv_acc]
  have h0 := Dn.tv_nonneg (B := B) (by omega) 0 (ys.take k) (Int.le_refl _) (fun d h => hd d (List.mem_of_mem_take h))
  have h1 := Dn.tv_nonneg (B := B) (by omega) 0 (ys.drop k) (Int.le_refl _) (fun d h => hd d (List.mem_of_mem_drop h))
  have h2 : 1 ≤ B ^ (ys.drop k).length := by have : 0 < B ^ (ys.drop k).length := Int.pow_pos (by omega); omega
  have h3 := Int.mul_le_mul_of_nonneg_left h2 h0
  rw [Int.mul_one] at h3
  omega

theorem tv_zeros (B : Int) : ∀ (j : Nat) (ys : List Int), j ≤ ys.length → (∀ i, i < j → ys.getD i 0 = 0) → Dn.tv B 0 (ys.drop j) = Dn.tv B 0 ys
  | 0, ys, _, _ => by simp
  | j + 1, [], h, _ => by simp at h
  | j + 1, y :: ys, h, hz => by
    have h0 := hz 0 (by omega)
    simp at h0
    subst h0
    have ih := tv_zeros B j ys (by simpa using h) (fun i hi => by have := hz (i + 1) (by omega); simpa using this)
    simpa [Dn.tv] using ih

theorem getD_map_wv (xs : List Int) (i : Nat) (hi : i < xs.length) : (xs.map wv).getD i 0 = wv (xs.getD i 0) := by simp [List.getD, hi]

theorem digs_mem {xs : List Int} {B : Int} (hd : ∀ i, i < xs.length → wv (xs.getD i 0) < B) : ∀ d ∈ xs.map wv, 0 ≤ d ∧ d < B := by
  intro d hm
  obtain ⟨y, hy, rfl⟩ := List.mem_map.1 hm
  obtain ⟨i, hi, rfl⟩ := List.getElem_of_mem hy
  have := hd i hi
  simp only [List.getD, List.getElem?_eq_getElem hi, Option.getD_some] at this
  exact ⟨(wv_bd _).1, this⟩

set_option maxRecDepth 100000 in
set_option maxHeartbeats 4000000 in
theorem natural_any (s : ByteArray) (xs : List Int) (B : Int) (w : World) (hs : Str s xs) (hn : xs.length ≤ 140737488355329) (h2 : 2 ≤ B) (h36 : B ≤ 36) (hd : ∀ i, i < xs.length → wv (xs.getD i 0) < B) :
    Calls Tryd.prog 18 #[.string s, .int .u64 B] w fun e w' => Gives (Dn.tv B 0 (xs.map wv)) w e w' := by
  have ST := hid (strim_any s xs w hs (by omega))
  have GR := hid (group_any B w h2 h36)
  have HD := hid hd
  have HN := hid hn
  obtain ⟨T, HT0⟩ : ∃ T, ShutG (Dn.tv B 0 (xs.map wv) = T) := ⟨_, ⟨rfl⟩⟩
  rw [HT0.out]
  clear hs hd hn
  go_enter Tryd.func18, Tryd.ntmps18
  go_wp2_with fail
  refine ST.out.mono ?_
  rintro e w' ⟨⟨s', j, rfl, BA, -⟩, rfl⟩
  obtain ⟨ys, hys⟩ : ∃ ys, xs.drop j = ys := ⟨_, rfl⟩
  have SY : Hid (Str s' ys) := by rw [← hys]; exact BA.1
  have TV : Hid (Dn.tv B 0 (xs.map wv) = Dn.tv B 0 (ys.map wv)) := by
    show _ = _
    rw [← hys, List.map_drop, tv_zeros B j (xs.map wv) (by simpa using BA.2.1) (fun i hi => by
      rw [getD_map_wv xs i (by have := BA.2.1; omega), BA.2.2 i hi]
      rfl)]
  have DY : Hid (∀ i, i < ys.length → wv (ys.getD i 0) < B) := by
    intro i hi
    rw [← hys] at hi ⊢
    have := HD.out (j + i) (by simp at hi; omega)
    simpa [List.getD] using this
  obtain ⟨m, HM⟩ : ∃ m, Hid (ys.length = m) := ⟨_, rfl⟩
  have hm47 : (m : Int) ≤ 140737488355329 := by have := HM.out; rw [← hys] at this; have := HN.out; simp at *; omega
  have hsz : s'.size = m := by rw [SY.out.size, HM.out]
  have HT : ShutG (Dn.tv B 0 (ys.map wv) = T) := ⟨TV.out.symm.trans HT0.out⟩
  clear HT0 ST BA hys TV HD HN
  go_wp2_with fail
  refine GR.out.mono ?_
  rintro e w' ⟨⟨W, P, rfl, hP, hW1, hW63, hPl⟩, rfl⟩
  have HP := hid hP
  have HPL := hid hPl
  have hP0 : 0 ≤ P := by rw [hP]; exact Int.le_of_lt (Int.pow_pos (by omega))
  obtain ⟨r, HR⟩ : ∃ r, Hid (m % W = r) := ⟨_, rfl⟩
  obtain ⟨Q, HQ⟩ : ∃ Q, Hid (m / W = Q) := ⟨_, rfl⟩
  have MQ : Hid (m = r + Q * W) := by show _ = _; rw [← HR.out, ← HQ.out]; have := Nat.mod_add_div m W; rw [Nat.mul_comm] at this; omega
  have hrW : Hid (r < W) := by show _ < _; rw [← HR.out]; exact Nat.mod_lt _ (by omega)
  have q1 : (m : Int) % (W : Int) = (r : Int) := by rw [← HR.out]; simp
  have q2 : (m : Int).tmod (W : Int) = (r : Int) := by rw [Int.tmod_eq_emod_of_nonneg (by omega)]; exact q1
  have hW0 : ((W : Int) == 0) = false := by rw [beq_eq_false_iff_ne]; omega
  have hWi : (W : Int) ≤ 63 := by omega
  clear GR hP hPl
  go_upto_region 4 with fail
  go_cut [9, 10] from 19 to 22 (fun a b wx => a = .int .i64 0 ∧ b = .int .i64 (r : Int) ∧ Hid (Below w'.heap.size w' wx))
  case first =>
    go_region
    all_goals (go_wp2_with fail; go_meet; exact ⟨rfl, rfl, below_drewN (Below.refl _ _) _⟩)
  case rest =>
    clear q1 q2 HR HQ
    obtain ⟨rfl, rfl, D0⟩ := hcut
    have G0 : Hid (Grp r W 0 0 r) := ⟨by omega, fun _ => rfl, fun q h => by omega⟩
    have A0 : Hid (Ans w'.heap.size wc none [] (Dn.tv B 0 ((ys.map wv).take 0))) := ⟨Lies.nil _ _, Nm.Limbs.nil, rfl, rfl, fun a h => by cases h⟩
    go_wp2_with fail
    go_loopg [8, 9, 10, 11] (Q + 1) (fun x o a b _ wr => ∃ (k at_ en : Nat) (q : Option Addr) (os : List Int), o = .slice q (List.length os) (List.length os) ∧ a = .int .i64 (at_ : Int) ∧ b = .int .i64 (en : Int) ∧ Hid (x + k = Q + 1 ∧ Grp r W k at_ en ∧ at_ ≤ m) ∧ Hid (Ans w'.heap.size wr q os (Dn.tv B 0 ((ys.map wv).take at_)) ∧ Below w'.heap.size w' wr) ∧ ShutG (Dn.tv B 0 ((ys.map wv).take at_) < Nm.pw 4096))
    case atStart => exact ⟨0, 0, r, none, [], rfl, rfl, rfl, ⟨by omega, G0.out, Nat.zero_le _⟩, ⟨A0.out, D0.out⟩, ⟨by simp only [List.take_zero, Dn.tv]; exact Nm.pw_pos 4096⟩⟩
    case round =>
      clear A0 D0 G0
      obtain ⟨k, at_, en, q, os, rfl, rfl, rfl, GK, I, SM⟩ := hrel
      by_cases hlt : at_ < m
      · have hli : (at_ : Int) < (m : Int) := by omega
        have GI := GK.out.2.1.in MQ.out hlt
        have GL := GK.out.2.1.le (Nat.le_of_lt hrW.out)
        have hae : (at_ : Int) ≤ (en : Int) := by omega
        have hem : (en : Int) ≤ (m : Int) := by omega
        obtain ⟨zs, hzs⟩ : ∃ zs, (ys.drop at_).take (en - at_) = zs := ⟨_, rfl⟩
        have SZ : Str (s'.extract at_ en) zs := by rw [← hzs]; exact SY.out.extract at_ en
        have hzl : zs.length = en - at_ := by rw [← hzs]; have := HM.out; simp; omega
        have hzd : ∀ i, i < zs.length → wv (zs.getD i 0) < B := by
          intro i hi
          have := DY.out (at_ + i) (by have := HM.out; omega)
          rw [← hzs]
          simpa [List.getD, List.getElem?_take, show i < en - at_ by omega] using this
        have LB := hid (limb_any (s'.extract at_ en) zs zs.length W B wr SZ rfl (by omega) hW63 h2 h36 (by rw [← HP.out]; exact HPL.out) hzd)
        obtain ⟨v, HVv⟩ : ∃ v, Hid (Dn.tv B 0 (zs.map wv) = v) := ⟨_, rfl⟩
        rw [HVv.out] at LB
        have zdm := digs_mem hzd
        have hv0 : 0 ≤ v := by rw [← HVv.out]; exact Dn.tv_nonneg (by omega) 0 _ (Int.le_refl _) (fun d h => (zdm d h).1)
        have hv1 : v < 18446744073709551616 := by
          rw [← HVv.out]
          have h1 := Dn.tv_lt (show 0 < B by omega) (zs.map wv) zdm
          have h3 := Pn.pow_mono (show 1 ≤ B by omega) (show (zs.map wv).length ≤ W by simp; omega)
          have h4 := HPL.out
          rw [HP.out] at h4
          omega
        obtain ⟨O, HO⟩ : ∃ O, ShutG (Dn.tv B 0 ((ys.map wv).take at_) = O) := ⟨_, ⟨rfl⟩⟩
        have NX : ShutG (O * P + v = Dn.tv B 0 ((ys.map wv).take en)) := by
          refine ⟨?_⟩
          rw [tv_group B (ys.map wv) at_ en (by omega), HO.out]
          have e1 : ((ys.map wv).drop at_).take (en - at_) = zs.map wv := by rw [← hzs, List.map_take, List.map_drop]
          rw [e1, HVv.out]
          rcases Nat.eq_zero_or_pos k with c | c
          · have h0 := GK.out.2.1.z c
            have : O = 0 := by rw [← HO.out, h0]; rfl
            rw [this, Int.zero_mul, Int.zero_mul]
          · rw [HP.out, show (zs.map wv).length = W by rw [List.length_map, hzl]; have := GL.2.2 c; omega]
        rw [HO.out] at I SM
        have ydm := digs_mem DY.out
        have GROW : ShutG (Dn.tv B 0 ((ys.map wv).take en) ≤ T) := ⟨by rw [← HT.out]; exact tv_grows (by omega) _ (fun d h => (ydm d h).1) _⟩
        have D1 := hid I.out.2
        have AR := hid (I.out.1.argT SM.out)
        have TS := hid (I.out.1.tsT SM.out)
        have VO := hid I.out.1.2.2.2.1
        have GN := hid GK.out.2.1.next
        have hen : en ≤ m := by omega
        have hkQ : Hid (k ≤ Q) := GI.1
        have GKx := hid GK.out.1
        clear SZ hzl hzd zdm ydm hzs I GK GI GL
        go_wp2_with fail
        refine LB.out.mono ?_
        rintro e w1 ⟨rfl, d1⟩
        have MA := hid (mulAdd_any q _ _ os P v w1 (AR.out.below d1 (Nat.le_refl _)) TS.out hP0 HPL.out hv0 hv1)
        rw [VO.out, NX.out] at MA
        have D2 := hid (chain D1.out d1 (Nat.le_refl _))
        clear d1 LB D1 AR TS VO
        go_wp2_with fail
        refine MA.out.mono ?_
        rintro e w2 ⟨m1, m2, d2⟩
        have D3 := hid (chain D2.out d2 (Nat.le_refl _))
        by_cases hbig : Nm.pw 4096 ≤ Dn.tv B 0 ((ys.map wv).take en)
        · have e1 := m2 hbig
          subst e1
          have F : Hid (Gives T w' (.returned (.tuple #[.slice none 0 0, .int .i64 2])) w2) := ⟨.inr ⟨Int.le_trans hbig GROW.out, rfl⟩, D3.out⟩
          clear m1 m2 d2 hbig MA
          go_wp2_with fail
          go_ret2
          exact F.out
        · obtain ⟨q2, os2, he, A2⟩ := m1 (Int.not_le.1 hbig)
          subst he
          have SM2 : ShutG (Dn.tv B 0 ((ys.map wv).take en) < Nm.pw 4096) := ⟨Int.not_le.1 hbig⟩
          have A3 : Hid (Ans w'.heap.size w2 q2 os2 (Dn.tv B 0 ((ys.map wv).take en))) := A2.upT (by have := D2.out.size; exact this)
          clear m1 m2 d2 hbig MA A2
          go_wp2_with fail
          go_roundg (gk - 1)
          case measure => have := GKx.out; have := hkQ.out; omega
          case rel => exact ⟨k + 1, en, en + W, q2, os2, rfl, rfl, by go_num, ⟨by have := GKx.out; have := hkQ.out; omega, GN.out, hen⟩, ⟨A3.out, D3.out⟩, SM2⟩
      · have hle : (m : Int) ≤ (at_ : Int) := by omega
        have e1 : Dn.tv B 0 ((ys.map wv).take at_) = T := by rw [List.take_of_length_le (by have := HM.out; simp; omega), HT.out]
        rw [e1] at I SM
        have F : Hid (Gives T w' (.returned (.tuple #[.slice q (List.length os) (List.length os), .int .i64 0])) wr) := ⟨.inl ⟨SM.out, q, os, rfl, I.out.1⟩, I.out.2⟩
        clear I SM e1 GK
        go_wp2_with fail
        go_ret2
        exact F.out
end Go.Proofs.YtbdilikdenhnkaaDoor
