/-
  Texts put together: NNatural, NFrom, NDv, NRead, KTrueN, KNml, PNum.
-/
import Derived.Test.YthefpclblejbgaaGreatDoorRE
import Derived.Test.YthefpclblejbgaaGreatDoorQGives
import Derived.BigRegion
import Derived.Deep.LoopGhost
import Derived.Deep.CutRange
import Derived.OwnWalk
namespace Go.Proofs.YthefpclblejbgaaGreatDoor
open Go.RowKit Go.Deep

/-- The k-th group lies from at on, up to en. -/
structure Grp (r W k at_ en : Nat) : Prop where
  e : en = r + k * W
  z : k = 0 → at_ = 0
  s : ∀ q, k = q + 1 → at_ = r + q * W

theorem Grp.next {r W k a b : Nat} (h : Grp r W k a b) : Grp r W (k + 1) b (b + W) :=
  ⟨by rw [h.e, Nat.add_mul]; omega, fun c => by omega, fun q hq => by obtain rfl : q = k := by omega
                                                                      exact h.e⟩

theorem Grp.le {r W k a b : Nat} (h : Grp r W k a b) (hr : r ≤ W) : a ≤ b ∧ b - a ≤ W ∧ (0 < k → b = a + W) := by
  cases k with
  | zero => have := h.z rfl; have := h.e; omega
  | succ q =>
    have h1 := h.s q rfl
    have h2 := h.e
    rw [Nat.add_mul] at h2
    omega

theorem Grp.in {r W k a b Q m : Nat} (h : Grp r W k a b) (hm : m = r + Q * W) (ha : a < m) : k ≤ Q ∧ b ≤ m := by
  have hk : k ≤ Q := by
    cases k with
    | zero => omega
    | succ q =>
      have h1 := h.s q rfl
      have : q * W < Q * W := by omega
      have := Nat.lt_of_mul_lt_mul_right this
      omega
  refine ⟨hk, ?_⟩
  have := Nat.mul_le_mul_right W hk
  have := h.e
  omega

theorem tv_group (B : Int) (ys : List Int) (a b : Nat) (hab : a ≤ b) : Dn.tv B 0 (ys.take b) = Dn.tv B 0 (ys.take a) * B ^ ((ys.drop a).take (b - a)).length + Dn.tv B 0 ((ys.drop a).take (b - a)) := by
  have e : ys.take b = ys.take a ++ (ys.drop a).take (b - a) := by
    rw [show b = a + (b - a) by omega, List.take_add]
    simp
  rw [e, Dn.tv_append, Dn.tv_acc]

theorem tv_grows {B : Int} (hB : 1 ≤ B) (ys : List Int) (hd : ∀ d ∈ ys, 0 ≤ d) (k : Nat) : Dn.tv B 0 (ys.take k) ≤ Dn.tv B 0 ys := by
  have e : Dn.tv B 0 ys = Dn.tv B 0 (ys.take k) * B ^ (ys.drop k).length + Dn.tv B 0 (ys.drop k) := by
    conv => lhs; rw [← List.take_append_drop k ys]
    rw [Dn.tv_append, Dn.tv_acc]
  have h0 := Dn.tv_nonneg (B := B) (by omega) 0 (ys.take k) (Int.le_refl _) (fun d h => hd d (List.mem_of_mem_take h))
  have h1 := Dn.tv_nonneg (B := B) (by omega) 0 (ys.drop k) (Int.le_refl _) (fun d h => hd d (List.mem_of_mem_drop h))
  have h2 : 1 ≤ B ^ (ys.drop k).length := by have : 0 < B ^ (ys.drop k).length := Int.pow_pos (by omega); omega
  have h3 := Int.mul_le_mul_of_nonneg_left h2 h0
  rw [Int.mul_one] at h3
  omega

theorem tv_zeros (B : Int) : ∀ (j : Nat) (ys : List Int), j ≤ ys.length → (∀ i, i < j → ys.getD i 0 = 0) → Dn.tv B 0 (ys.drop j) = Dn.tv B 0 ys
  | 0, ys, _, _ => by simp
  | j + 1, [], h, _ => by simp at h
  | j + 1, y :: ys, h, hz => by
    have h0 := hz 0 (by omega)
    simp at h0
    subst h0
    have ih := tv_zeros B j ys (by simpa using h) (fun i hi => by have := hz (i + 1) (by omega); simpa using this)
    simpa [Dn.tv] using ih

theorem getD_map_wv (xs : List Int) (i : Nat) (hi : i < xs.length) : (xs.map wv).getD i 0 = wv (xs.getD i 0) := by simp [List.getD, hi]

theorem digs_mem {xs : List Int} {B : Int} (hd : ∀ i, i < xs.length → wv (xs.getD i 0) < B) : ∀ d ∈ xs.map wv, 0 ≤ d ∧ d < B := by
  intro d hm
  obtain ⟨y, hy, rfl⟩ := List.mem_map.1 hm
  obtain ⟨i, hi, rfl⟩ := List.getElem_of_mem hy
  have := hd i hi
  simp only [List.getD, List.getElem?_eq_getElem hi, Option.getD_some] at this
  exact ⟨(wv_bd _).1, this⟩

set_option maxRecDepth 100000 in
set_option maxHeartbeats 4000000 in
theorem natural_any (s : ByteArray) (xs : List Int) (B : Int) (w : World) (hs : Str s xs) (hn : xs.length ≤ 140737488355328) (h2 : 2 ≤ B) (h36 : B ≤ 36) (hd : ∀ i, i < xs.length → wv (xs.getD i 0) < B) :
    Calls Tryz.prog 180 #[.string s, .int .u64 B] w fun e w' => Gives (Dn.tv B 0 (xs.map wv)) w e w' := by
  have ST := hid (strim_any s xs w hs (by omega))
  have GR := hid (group_any B w h2 h36)
  have HD := hid hd
  have HN := hid hn
  obtain ⟨T, HT0⟩ : ∃ T, ShutG (Dn.tv B 0 (xs.map wv) = T) := ⟨_, ⟨rfl⟩⟩
  rw [HT0.out]
  clear hs hd hn
  go_enter Tryz.func180, Tryz.ntmps180
  go_wp2_with fail
  refine ST.out.mono ?_
  rintro e w' ⟨⟨s', j, rfl, BA, -⟩, rfl⟩
  obtain ⟨ys, hys⟩ : ∃ ys, xs.drop j = ys := ⟨_, rfl⟩
  have SY : Hid (Str s' ys) := by rw [← hys]; exact BA.1
  have TV : Hid (Dn.tv B 0 (xs.map wv) = Dn.tv B 0 (ys.map wv)) := by
    show _ = _
    rw [← hys, List.map_drop, tv_zeros B j (xs.map wv) (by simpa using BA.2.1) (fun i hi => by
      rw [getD_map_wv xs i (by have := BA.2.1; omega), BA.2.2 i hi]
      rfl)]
  have DY : Hid (∀ i, i < ys.length → wv (ys.getD i 0) < B) := by
    intro i hi
    rw [← hys] at hi ⊢
    have := HD.out (j + i) (by simp at hi; omega)
    simpa [List.getD] using this
  obtain ⟨m, HM⟩ : ∃ m, Hid (ys.length = m) := ⟨_, rfl⟩
  have hm47 : (m : Int) ≤ 140737488355328 := by have := HM.out; rw [← hys] at this; have := HN.out; simp at *; omega
  have hsz : s'.size = m := by rw [SY.out.size, HM.out]
  have HT : ShutG (Dn.tv B 0 (ys.map wv) = T) := ⟨TV.out.symm.trans HT0.out⟩
  clear HT0 ST BA hys TV HD HN
  go_wp2_with fail
  refine GR.out.mono ?_
  rintro e w' ⟨⟨W, P, rfl, hP, hW1, hW63, hPl⟩, rfl⟩
  have HP := hid hP
  have HPL := hid hPl
  have hP0 : 0 ≤ P := by rw [hP]; exact Int.le_of_lt (Int.pow_pos (by omega))
  obtain ⟨r, HR⟩ : ∃ r, Hid (m % W = r) := ⟨_, rfl⟩
  obtain ⟨Q, HQ⟩ : ∃ Q, Hid (m / W = Q) := ⟨_, rfl⟩
  have MQ : Hid (m = r + Q * W) := by show _ = _; rw [← HR.out, ← HQ.out]; have := Nat.mod_add_div m W; rw [Nat.mul_comm] at this; omega
  have hrW : Hid (r < W) := by show _ < _; rw [← HR.out]; exact Nat.mod_lt _ (by omega)
  have q1 : (m : Int) % (W : Int) = (r : Int) := by rw [← HR.out]; simp
  have q2 : (m : Int).tmod (W : Int) = (r : Int) := by rw [Int.tmod_eq_emod_of_nonneg (by omega)]; exact q1
  have hW0 : ((W : Int) == 0) = false := by rw [beq_eq_false_iff_ne]; omega
  have hWi : (W : Int) ≤ 63 := by omega
  clear GR hP hPl
  go_upto_region 4 with fail
  go_cut [9, 10] from 19 to 22 (fun a b wx => a = .int .i64 0 ∧ b = .int .i64 (r : Int) ∧ Hid (Below w'.heap.size w' wx))
  case first =>
    go_region
    all_goals (go_wp2_with fail; go_meet; exact ⟨rfl, rfl, below_drewN (Below.refl _ _) _⟩)
  case rest =>
    clear q1 q2 HR HQ
    obtain ⟨rfl, rfl, D0⟩ := hcut
    have G0 : Hid (Grp r W 0 0 r) := ⟨by omega, fun _ => rfl, fun q h => by omega⟩
    have A0 : Hid (Ans w'.heap.size wc none [] (Dn.tv B 0 ((ys.map wv).take 0))) := ⟨Lies.nil _ _, Nm.Limbs.nil, rfl, rfl, fun a h => by cases h⟩
    go_wp2_with fail
    go_loopg [8, 9, 10, 11] (Q + 1) (fun x o a b _ wr => ∃ (k at_ en : Nat) (q : Option Addr) (os : List Int), o = .slice q (List.length os) (List.length os) ∧ a = .int .i64 (at_ : Int) ∧ b = .int .i64 (en : Int) ∧ Hid (x + k = Q + 1 ∧ Grp r W k at_ en ∧ at_ ≤ m) ∧ Hid (Ans w'.heap.size wr q os (Dn.tv B 0 ((ys.map wv).take at_)) ∧ Below w'.heap.size w' wr) ∧ ShutG (Dn.tv B 0 ((ys.map wv).take at_) < Nm.pw 4096))
    case atStart => exact ⟨0, 0, r, none, [], rfl, rfl, rfl, ⟨by omega, G0.out, Nat.zero_le _⟩, ⟨A0.out, D0.out⟩, ⟨by simp only [List.take_zero, Dn.tv]; exact Nm.pw_pos 4096⟩⟩
    case round =>
      clear A0 D0 G0
      obtain ⟨k, at_, en, q, os, rfl, rfl, rfl, GK, I, SM⟩ := hrel
      by_cases hlt : at_ < m
      · have hli : (at_ : Int) < (m : Int) := by omega
        have GI := GK.out.2.1.in MQ.out hlt
        have GL := GK.out.2.1.le (Nat.le_of_lt hrW.out)
        have hae : (at_ : Int) ≤ (en : Int) := by omega
        have hem : (en : Int) ≤ (m : Int) := by omega
        obtain ⟨zs, hzs⟩ : ∃ zs, (ys.drop at_).take (en - at_) = zs := ⟨_, rfl⟩
        have SZ : Str (s'.extract at_ en) zs := by rw [← hzs]; exact SY.out.extract at_ en
        have hzl : zs.length = en - at_ := by rw [← hzs]; have := HM.out; simp; omega
        have hzd : ∀ i, i < zs.length → wv (zs.getD i 0) < B := by
          intro i hi
          have := DY.out (at_ + i) (by have := HM.out; omega)
          rw [← hzs]
          simpa [List.getD, List.getElem?_take, show i < en - at_ by omega] using this
        have LB := hid (limb_any (s'.extract at_ en) zs zs.length W B wr SZ rfl (by omega) hW63 h2 h36 (by rw [← HP.out]; exact HPL.out) hzd)
        obtain ⟨v, HVv⟩ : ∃ v, Hid (Dn.tv B 0 (zs.map wv) = v) := ⟨_, rfl⟩
        rw [HVv.out] at LB
        have zdm := digs_mem hzd
        have hv0 : 0 ≤ v := by rw [← HVv.out]; exact Dn.tv_nonneg (by omega) 0 _ (Int.le_refl _) (fun d h => (zdm d h).1)
        have hv1 : v < 18446744073709551616 := by
          rw [← HVv.out]
          have h1 := Dn.tv_lt (show 0 < B by omega) (zs.map wv) zdm
          have h3 := Pn.pow_mono (show 1 ≤ B by omega) (show (zs.map wv).length ≤ W by simp; omega)
          have h4 := HPL.out
          rw [HP.out] at h4
          omega
        obtain ⟨O, HO⟩ : ∃ O, ShutG (Dn.tv B 0 ((ys.map wv).take at_) = O) := ⟨_, ⟨rfl⟩⟩
        have NX : ShutG (O * P + v = Dn.tv B 0 ((ys.map wv).take en)) := by
          refine ⟨?_⟩
          rw [tv_group B (ys.map wv) at_ en (by omega), HO.out]
          have e1 : ((ys.map wv).drop at_).take (en - at_) = zs.map wv := by rw [← hzs, List.map_take, List.map_drop]
          rw [e1, HVv.out]
          rcases Nat.eq_zero_or_pos k with c | c
          · have h0 := GK.out.2.1.z c
            have : O = 0 := by rw [← HO.out, h0]; rfl
            rw [this, Int.zero_mul, Int.zero_mul]
          · rw [HP.out, show (zs.map wv).length = W by rw [List.length_map, hzl]; have := GL.2.2 c; omega]
        rw [HO.out] at I SM
        have ydm := digs_mem DY.out
        have GROW : ShutG (Dn.tv B 0 ((ys.map wv).take en) ≤ T) := ⟨by rw [← HT.out]; exact tv_grows (by omega) _ (fun d h => (ydm d h).1) _⟩
        have D1 := hid I.out.2
        have AR := hid (I.out.1.argT SM.out)
        have TS := hid (I.out.1.tsT SM.out)
        have VO := hid I.out.1.2.2.2.1
        have GN := hid GK.out.2.1.next
        have hen : en ≤ m := by omega
        have hkQ : Hid (k ≤ Q) := GI.1
        have GKx := hid GK.out.1
        clear SZ hzl hzd zdm ydm hzs I GK GI GL
        go_wp2_with fail
        refine LB.out.mono ?_
        rintro e w1 ⟨rfl, d1⟩
        have MA := hid (mulAdd_any q _ _ os P v w1 (AR.out.below d1 (Nat.le_refl _)) TS.out hP0 HPL.out hv0 hv1)
        rw [VO.out, NX.out] at MA
        have D2 := hid (chain D1.out d1 (Nat.le_refl _))
        clear d1 LB D1 AR TS VO
        go_wp2_with fail
        refine MA.out.mono ?_
        rintro e w2 ⟨m1, m2, d2⟩
        have D3 := hid (chain D2.out d2 (Nat.le_refl _))
        by_cases hbig : Nm.pw 4096 ≤ Dn.tv B 0 ((ys.map wv).take en)
        · have e1 := m2 hbig
          subst e1
          have F : Hid (Gives T w' (.returned (.tuple #[.slice none 0 0, .int .i64 2])) w2) := ⟨.inr ⟨Int.le_trans hbig GROW.out, rfl⟩, D3.out⟩
          clear m1 m2 d2 hbig MA
          go_wp2_with fail
          go_ret2
          exact F.out
        · obtain ⟨q2, os2, he, A2⟩ := m1 (Int.not_le.1 hbig)
          subst he
          have SM2 : ShutG (Dn.tv B 0 ((ys.map wv).take en) < Nm.pw 4096) := ⟨Int.not_le.1 hbig⟩
          have A3 : Hid (Ans w'.heap.size w2 q2 os2 (Dn.tv B 0 ((ys.map wv).take en))) := A2.upT (by have := D2.out.size; exact this)
          clear m1 m2 d2 hbig MA A2
          go_wp2_with fail
          go_roundg (gk - 1)
          case measure => have := GKx.out; have := hkQ.out; omega
          case rel => exact ⟨k + 1, en, en + W, q2, os2, rfl, rfl, by go_num, ⟨by have := GKx.out; have := hkQ.out; omega, GN.out, hen⟩, ⟨A3.out, D3.out⟩, SM2⟩
      · have hle : (m : Int) ≤ (at_ : Int) := by omega
        have e1 : Dn.tv B 0 ((ys.map wv).take at_) = T := by rw [List.take_of_length_le (by have := HM.out; simp; omega), HT.out]
        rw [e1] at I SM
        have F : Hid (Gives T w' (.returned (.tuple #[.slice q (List.length os) (List.length os), .int .i64 0])) wr) := ⟨.inl ⟨SM.out, q, os, rfl, I.out.1⟩, I.out.2⟩
        clear I SM e1 GK
        go_wp2_with fail
        go_ret2
        exact F.out
end Go.Proofs.YthefpclblejbgaaGreatDoor

namespace Go.Proofs.YthefpclblejbgaaGreatDoor
open Go.RowKit Go.Deep

/-- What FromBase tells. -/
inductive FromIs (xs : List Int) (B : Int) (w0 w' : World) : Option Addr → List Int → Int → Int → Prop
  | base : (B < 2 ∨ 36 < B) → FromIs xs B w0 w' none [] 0 32
  | empty : 2 ≤ B → B ≤ 36 → xs = [] → FromIs xs B w0 w' none [] 0 30
  | digit (t : Nat) : 2 ≤ B → B ≤ 36 → t < xs.length → (∀ i, i < t → wv (xs.getD i 0) < B) → B ≤ wv (xs.getD t 0) → FromIs xs B w0 w' none [] (t : Int) 31
  | big : 2 ≤ B → B ≤ 36 → (∀ i, i < xs.length → wv (xs.getD i 0) < B) → xs ≠ [] → Nm.pw 4096 ≤ Dn.tv B 0 (xs.map wv) → FromIs xs B w0 w' none [] 0 2
  | ok (r : Option Addr) (os : List Int) : 2 ≤ B → B ≤ 36 → (∀ i, i < xs.length → wv (xs.getD i 0) < B) → xs ≠ [] → Dn.tv B 0 (xs.map wv) < Nm.pw 4096 → Ans w0.heap.size w' r os (Dn.tv B 0 (xs.map wv)) → FromIs xs B w0 w' r os 0 0

def FromTold (xs : List Int) (B : Int) (w : World) (e : Ending) (w' : World) : Prop :=
  ∃ r os at_ E, e = .returned (.tuple #[.slice r (List.length os) (List.length os), .int .i64 at_, .int .i64 E]) ∧ FromIs xs B w w' r os at_ E ∧ Below w.heap.size w w'

set_option maxRecDepth 100000 in
set_option maxHeartbeats 4000000 in
theorem fromBase_any (s : ByteArray) (xs : List Int) (B : Int) (w : World) (hs : Str s xs) (hn : xs.length ≤ 140737488355328) (hB0 : -9223372036854775808 ≤ B) (hB1 : B ≤ 9223372036854775807) :
    Calls Tryz.prog 178 #[.string s, .int .i64 B] w fun e w' => FromTold xs B w e w' := by
  by_cases h1 : B < 2 ∨ 36 < B
  · have F : Hid (FromTold xs B w (.returned (.tuple #[.slice none 0 0, .int .i64 0, .int .i64 32])) w) := ⟨none, [], _, _, rfl, .base h1, Below.refl _ _⟩
    clear hs hn
    rcases h1 with h1 | h1
    · go_enter Tryz.func178, Tryz.ntmps178
      go_wp2_with fail
      go_ret3
      exact F.out
    · go_enter Tryz.func178, Tryz.ntmps178
      go_wp2_with fail
      go_ret3
      exact F.out
  have h2 : 2 ≤ B := by omega
  have h36 : B ≤ 36 := by omega
  by_cases h3 : xs = []
  · have F : Hid (FromTold xs B w (.returned (.tuple #[.slice none 0 0, .int .i64 0, .int .i64 30])) w) := ⟨none, [], _, _, rfl, .empty h2 h36 h3, Below.refl _ _⟩
    have hs0 : s = ⟨#[]⟩ := hs.inj (by rw [h3]; rfl)
    subst hs0
    clear hs hn h1 h3
    go_enter Tryz.func178, Tryz.ntmps178
    go_wp2_with fail
    go_ret3
    exact F.out
  have e1 : s.toList ≠ [] := by
    intro c
    apply h3
    rw [ByteArray.toList_eq] at c
    rw [← hs, c]
    rfl
  have e2 : (s.toList == []) = false := by rw [beq_eq_false_iff_ne]; exact e1
  have e3 : s.toList.isEmpty = false := by rw [List.isEmpty_eq_false_iff]; exact e1
  have WR := hid (wrong_any s xs xs.length B w hs rfl hn)
  have HS := hid hs
  have HN := hid hn
  have H3 := hid h3
  clear hs hn h1 h3
  go_enter Tryz.func178, Tryz.ntmps178
  go_wp2_with fail
  refine WR.out.mono ?_
  rintro e w' ⟨⟨r, rfl, k⟩, rfl⟩
  clear WR
  cases k with
  | here t a1 a2 a3 =>
    have F : Hid (FromTold xs B w' (.returned (.tuple #[.slice none 0 0, .int .i64 (t : Int), .int .i64 31])) w') := ⟨none, [], _, _, rfl, .digit t h2 h36 a1 a2 a3, Below.refl _ _⟩
    have ht : (0 : Int) ≤ (t : Int) := by omega
    clear a1 a2 a3
    go_wp2_with fail
    go_ret3
    exact F.out
  | none a1 =>
    have NA := hid (natural_any s xs B w' HS.out HN.out h2 h36 a1)
    have HA := hid a1
    clear a1
    go_wp2_with fail
    refine NA.out.mono ?_
    rintro e w1 ⟨h | h, d1⟩
    · obtain ⟨k1, r, os, rfl, A1⟩ := h
      have F : Hid (FromTold xs B w' (.returned (.tuple #[.slice r (List.length os) (List.length os), .int .i64 0, .int .i64 0])) w1) := ⟨r, os, _, _, rfl, .ok r os h2 h36 HA.out H3.out k1 A1, d1⟩
      clear k1 A1 d1 NA
      go_wp2_with fail
      go_ret3
      exact F.out
    · obtain ⟨k1, rfl⟩ := h
      have F : Hid (FromTold xs B w' (.returned (.tuple #[.slice none 0 0, .int .i64 0, .int .i64 2])) w1) := ⟨none, [], _, _, rfl, .big h2 h36 HA.out H3.out k1, d1⟩
      clear k1 d1 NA
      go_wp2_with fail
      go_ret3
      exact F.out
end Go.Proofs.YthefpclblejbgaaGreatDoor

namespace Go.Proofs.YthefpclblejbgaaGreatDoor
open Go.RowKit Go.Deep

/-- The number of a row of decimal digits. -/
def dv (ds : List Int) : Int := Dn.tv 10 0 (ds.map (fun d => d - 48))
def Digs (ds : List Int) : Prop := ∀ d ∈ ds, 48 ≤ d ∧ d ≤ 57

theorem dv_append (xs ys : List Int) : dv (xs ++ ys) = dv xs * 10 ^ ys.length + dv ys := by
  unfold dv
  rw [List.map_append, Dn.tv_append, Dn.tv_acc, List.length_map]

theorem dv_cons (x : Int) (ys : List Int) : dv (x :: ys) = (x - 48) * 10 ^ ys.length + dv ys := by
  have := dv_append [x] ys
  simpa [dv, Dn.tv] using this

theorem dv_zeros : ∀ k, dv (List.replicate k 48) = 0
  | 0 => rfl
  | k + 1 => by
    rw [List.replicate_succ, dv_cons, dv_zeros k]
    simp

theorem dv_nines : ∀ k, dv (List.replicate k 57) = 10 ^ k - 1
  | 0 => rfl
  | k + 1 => by
    rw [List.replicate_succ, dv_cons, dv_nines k, List.length_replicate, Int.pow_succ]
    omega

theorem dv_bd {ds : List Int} (h : Digs ds) : 0 ≤ dv ds ∧ dv ds < 10 ^ ds.length := by
  have hm : ∀ d ∈ ds.map (fun d => d - 48), 0 ≤ d ∧ d < 10 := fun d hd => by
    obtain ⟨e, he, rfl⟩ := List.mem_map.1 hd
    have := h e he
    omega
  have h2 := Dn.tv_lt (show (0 : Int) < 10 by omega) _ hm
  rw [List.length_map] at h2
  exact ⟨Dn.tv_nonneg (by omega) 0 _ (Int.le_refl _) (fun d hd => (hm d hd).1), h2⟩

theorem wv_dig {x : Int} (h : 48 ≤ x ∧ x ≤ 57) : wv x = x - 48 := by rw [wv, if_pos h]

theorem digs_at {xs : List Int} (h : Digs xs) (i : Nat) (hi : i < xs.length) : 48 ≤ xs.getD i 0 ∧ xs.getD i 0 ≤ 57 := by
  have e : xs.getD i 0 = xs[i] := by simp [List.getD, hi]
  rw [e]
  exact h _ (List.getElem_mem hi)
end Go.Proofs.YthefpclblejbgaaGreatDoor

namespace Go.Proofs.YthefpclblejbgaaGreatDoor
open Go.RowKit Go.Deep

theorem wv_map {xs : List Int} (h : Digs xs) : xs.map wv = xs.map (fun d => d - 48) := List.map_congr_left (fun x hx => wv_dig (h x hx))

set_option maxRecDepth 100000 in
theorem read_any (s : ByteArray) (xs : List Int) (w : World) (hs : Str s xs) (hl : xs.length ≤ 140737488355328) (hd : Digs xs) (h0 : xs ≠ []) (hv : dv xs < Nm.pw 4096) :
    Calls Tryz.prog 177 #[.string s] w fun e w' => ∃ r os, e = .returned (.tuple #[.slice r (List.length os) (List.length os), .int .i64 0, .int .i64 0]) ∧ Ans w.heap.size w' r os (dv xs) ∧ Below w.heap.size w w' := by
  have FB : Hid (Calls Tryz.prog 178 #[.string s, .int .i64 10] w fun e w' => ∃ r os, e = .returned (.tuple #[.slice r (List.length os) (List.length os), .int .i64 0, .int .i64 0]) ∧ Ans w.heap.size w' r os (dv xs) ∧ Below w.heap.size w w') := by
    refine (fromBase_any s xs 10 w hs hl (by omega) (by omega)).mono ?_
    rintro e w' ⟨r, os, at_, E, rfl, h, d⟩
    have ev : Dn.tv 10 0 (xs.map wv) = dv xs := by rw [wv_map hd]; rfl
    cases h with
    | base h => omega
    | empty _ _ h => exact absurd h h0
    | digit t _ _ h1 _ h3 =>
      have := digs_at hd t h1
      rw [wv_dig this] at h3
      omega
    | big _ _ _ _ h =>
      rw [ev] at h
      exact absurd hv (Int.not_lt.2 h)
    | ok r os _ _ _ _ _ h =>
      rw [ev] at h
      exact ⟨r, os, rfl, h, d⟩
  clear hs hl hd h0 hv
  go_enter Tryz.func177, Tryz.ntmps177
  go_wp2_with fail
  refine FB.out.mono ?_
  rintro e w1 ⟨r, os, rfl, A1, d1⟩
  have F := hid (And.intro A1 d1)
  clear A1 d1 FB
  go_wp2_with fail
  go_ret3
  exact ⟨r, os, rfl, F.out⟩

end Go.Proofs.YthefpclblejbgaaGreatDoor

namespace Go.Proofs.YthefpclblejbgaaGreatDoor
open Go Go.RowKit Go.Deep

theorem dw_tv (l : List Int) : ∀ a : Int, Dn.tv 10 a (l.map (fun d => d - 48)) = l.foldl (fun a d => 10 * a + (d - 48)) a := by
  induction l with
  | nil => intro a; rfl
  | cons x l ih =>
    intro a
    rw [List.map_cons, Dn.tv, List.foldl_cons, ih, Int.mul_comm a 10]
theorem dw_dv (l : List Int) : dv l = dw l := by unfold dv dw; exact dw_tv l 0

theorem dw_split {xs : List Int} (k : Nat) : dw xs = dw (xs.take k) * 10 ^ (xs.length - k) + dw (xs.drop k) := by
  have h := dv_append (xs.take k) (xs.drop k)
  rw [List.take_append_drop, List.length_drop] at h
  rw [dw_dv, dw_dv, dw_dv] at h
  exact h
theorem dw_range {xs : List Int} (h : Dig9 xs) : 0 ≤ dw xs ∧ dw xs < 10 ^ xs.length := by
  have := dw_bd h xs.length (Nat.le_refl _)
  rwa [List.take_length] at this
theorem Dig9.drop {xs : List Int} (h : Dig9 xs) (k : Nat) : Dig9 (xs.drop k) := fun x hx => h x (List.mem_of_mem_drop hx)

theorem dw_pos {xs : List Int} (h : Dig9 xs) (hn : xs ≠ []) (h0 : xs.getD 0 0 ≠ 48) : 0 < dw xs := by
  cases xs with
  | nil => exact absurd rfl hn
  | cons x l =>
    have h1 := dv_cons x l
    rw [dw_dv, dw_dv] at h1
    have h2 := h x (by simp)
    have h3 : x ≠ 48 := h0
    have h4 := (dw_range (xs := l) (fun y hy => h y (by simp [hy]))).1
    have p : (0 : Int) < 10 ^ l.length := Int.pow_pos (by decide)
    have h5 : 1 * 10 ^ l.length ≤ (x - 48) * 10 ^ l.length := Int.mul_le_mul_of_nonneg_right (by omega) (by omega)
    omega

theorem stq_in {v q x : Int} (h : Ie.Stq v q x true) (hv : 0 < v) : -342 ≤ q ∧ q ≤ 308 := by
  rcases h with h | h | h
  · omega
  · exact absurd h.2.2.2 (by simp)
  · exact ⟨h.2.1, h.2.2.1⟩
theorem stq_no {v q x : Int} (h : Ie.Stq v q x false) : x = 0 := by
  rcases h with h | h | ⟨h0, h1, h2, A, B, a, b, h⟩
  · exact absurd h.2.2 (by simp)
  · exact h.2.2.1
  · rcases h with h | h
    · exact absurd h.2.2 (by simp)
    · exact h.2.1

theorem tell_no {xs : List Int} {e x : Int} (h : TellIs xs e x false) : x = 0 := by
  rcases h with ⟨_, ⟨_, _, _, h, _⟩ | ⟨_, h⟩⟩ | ⟨_, x1, s1, _, ⟨_, rfl, _⟩ | ⟨_, x2, s2, _, ⟨_, _, _, h⟩ | ⟨_, rfl, _⟩⟩⟩
  · exact absurd h (by simp)
  · exact stq_no h
  · rfl
  · exact absurd h (by simp)
  · rfl

theorem tell_must {xs : List Int} {e x : Int} (hd : Dig9 xs) (h : TellIs xs e x false) : 15 < xs.length ∨ e < -22 ∨ 22 < e := by
  rcases (show xs.length ≤ 15 ∨ 15 < xs.length by omega) with g | g
  · right
    rcases h with ⟨_, ⟨_, _, _, h, _⟩ | ⟨h, _⟩⟩ | ⟨h, _⟩
    · exact absurd h (by simp)
    · rcases h with h | h
      · exfalso
        have b := (dw_range hd).2
        have h1 := Nat.pow_le_pow_right (show 0 < 10 by decide) g
        have e1 : ((10 ^ xs.length : Nat) : Int) = 10 ^ xs.length := by simp
        have e2 : ((10 ^ 15 : Nat) : Int) = 1000000000000000 := by decide +kernel
        omega
      · exact h
    · omega
  · exact .inl g

theorem tell_zero {x : Int} {s : Bool} (h : TellIs [48] 0 x s) : x = 0 ∧ s = true := by
  have d0 : dw [48] = 0 := by decide
  rcases h with ⟨_, ⟨_, _, _, hs, h⟩ | ⟨h, _⟩⟩ | ⟨h, _⟩
  · rw [d0] at h
    refine ⟨?_, hs⟩
    have h2 : Ie.Rnd 0 1 0 false x := by simpa using h
    exact Ie.Rnd.one (a := 0) (a' := 0) (by decide) (by decide) h2 (Ie.rnd_zero 1 0 false (by decide)) (by omega) rfl
  · rw [d0] at h; omega
  · simp at h

theorem dw_head {xs : List Int} (h : Dig9 xs) (h0 : xs.getD 0 0 ≠ 48) (k : Nat) (hk : 0 < k) (hn : k ≤ xs.length) : 0 < dw (xs.take k) := by
  refine dw_pos (h.take k) ?_ ?_
  · intro c
    have := congrArg List.length c
    rw [List.length_take, List.length_nil] at this
    omega
  · cases xs with
    | nil => simp at hn; omega
    | cons x l =>
      cases k with
      | zero => omega
      | succ k => simpa using h0

theorem tell_e {xs : List Int} {e x : Int} (hd : Dig9 xs) (h0 : xs.getD 0 0 ≠ 48) (hn : xs ≠ []) (h2 : xs.length ≤ 2000) (h : TellIs xs e x true) : -3000 ≤ e ∧ e ≤ 3000 := by
  rcases h with ⟨_, ⟨_, a, b, _, _⟩ | ⟨_, h⟩⟩ | ⟨h19, x1, s1, h1, ⟨_, _, h⟩ | ⟨hs, x2, s2, _, _⟩⟩
  · omega
  · have := stq_in h (dw_pos hd hn h0)
    omega
  · exact absurd h (by simp)
  · subst hs
    have := stq_in h1 (dw_head hd h0 19 (by omega) (by omega))
    omega

theorem tens_add {e q : Int} {r : Nat} (h : q = e + r) : (10 : Int) ^ r * (10 ^ e.toNat * 10 ^ (-q).toNat) = 10 ^ q.toNat * 10 ^ (-e).toNat := by
  rw [← Int.pow_add, ← Int.pow_add, ← Int.pow_add]
  congr 1
  omega

/-- Where Try is sure, it tells the number itself, rounded. -/
theorem tell_true {xs : List Int} {e x y : Int} (hd : Dig9 xs) (h : TellIs xs e x true) (hy : Ie.Rnd (dw xs * 10 ^ e.toNat) (10 ^ (-e).toNat) 0 false y) : x = y := by
  have V0 : 0 ≤ dw xs * 10 ^ e.toNat := Int.mul_nonneg (dw_range hd).1 (Int.le_of_lt (Int.pow_pos (by decide)))
  have D0 : (0 : Int) < 10 ^ (-e).toNat := Int.pow_pos (by decide)
  rcases h with ⟨_, ⟨_, _, _, _, h⟩ | ⟨_, h⟩⟩ | ⟨h19, x1, s1, h1, ⟨_, _, h⟩ | ⟨hs, x2, s2, h2, ⟨hs2, he, hx, _⟩ | ⟨_, _, h⟩⟩⟩
  · exact Ie.Rnd.one (a := 0) (a' := 0) D0 D0 h hy (by omega) rfl
  · exact h.stp.true rfl (dw_range hd).1 V0 D0 hy rfl
  · exact absurd h (by simp)
  · subst hs hs2
    rw [he] at h2
    rw [hx]
    obtain ⟨r, hr⟩ : ∃ r : Nat, xs.length = r + 19 := ⟨xs.length - 19, by omega⟩
    have hq : e + xs.length - 19 = e + r := by omega
    rw [hq] at h1 h2
    have sp := dw_split (xs := xs) 19
    rw [show xs.length - 19 = r by omega] at sp
    have tl := dw_range (hd.drop 19)
    rw [List.length_drop, show xs.length - 19 = r by omega] at tl
    have hv := (dw_range (hd.take 19)).1
    generalize dw (xs.take 19) = v at *
    generalize dw (xs.drop 19) = t at *
    generalize dw xs = D at *
    have ta := tens_add (e := e) (q := e + r) (r := r) rfl
    have pp : (0 : Int) < 10 ^ e.toNat * 10 ^ (-(e + r)).toNat := Int.mul_pos (Int.pow_pos (by decide)) (Int.pow_pos (by decide))
    have le1 : x1 ≤ y := by
      refine h1.stp.le rfl hv D0 hy ?_
      rw [Int.mul_assoc, ← ta, Int.mul_assoc, ← Int.mul_assoc v]
      exact Int.mul_le_mul_of_nonneg_right (by omega) (by omega)
    have ge1 : y ≤ x1 := by
      refine h2.stp.ge rfl (by omega) V0 D0 hy ?_
      rw [Int.mul_assoc (v + 1), ← ta, Int.mul_assoc D, ← Int.mul_assoc (v + 1)]
      refine Int.mul_le_mul_of_nonneg_right ?_ (by omega)
      rw [Int.add_mul, Int.one_mul]
      omega
    omega
  · exact absurd h (by simp)
end Go.Proofs.YthefpclblejbgaaGreatDoor

namespace Go.Proofs.YthefpclblejbgaaGreatDoor
open Go Go.RowKit Go.Deep

theorem nml_iff (xs : List Int) (e : Int) : Nml xs e ↔ xs ≠ [] ∧ -1152921504606846976 ≤ e ∧ e ≤ 1152921504606846976 ∧ (∀ i, i < xs.length → 48 ≤ xs.getD i 0 ∧ xs.getD i 0 ≤ 57) ∧ ((xs = [48] ∧ e = 0) ∨ (xs ≠ [48] ∧ xs.getD 0 0 ≠ 48 ∧ xs.getD (xs.length - 1) 0 ≠ 48)) := by
  constructor
  · rintro ⟨h, k⟩
    refine ⟨h.1, h.2.1, h.2.2.1, fun i hi => (isdec_dig h).at hi, ?_⟩
    by_cases c : Sc.lz xs = xs.length
    · rw [Sc.nrm_zero c] at k
      injection k with k1 k2 k3
      exact .inl ⟨k2.symm, k3.symm⟩
    · rw [Sc.nrm_pos c] at k
      injection k with k1 k2 k3
      have tz0 : Sc.tz xs = 0 := by omega
      have hl := congrArg List.length k2
      rw [List.length_take, List.length_drop, tz0] at hl
      have le := Sc.lz_le xs
      have lz0 : Sc.lz xs = 0 := by omega
      have e1 := Sc.lz_end xs
      rw [lz0] at e1
      have e2 := Sc.tz_end (ds := xs) (by omega)
      rw [tz0] at e2
      refine .inr ⟨?_, e1, e2⟩
      rintro rfl
      exact e1 rfl
  · rintro ⟨h1, h2, h3, h4, h5⟩
    have dg : ∀ x ∈ xs, Sc.dg x = true := fun x hx => by
      obtain ⟨i, hi, rfl⟩ := List.getElem_of_mem hx
      have := h4 i hi
      rw [show xs.getD i 0 = xs[i] by simp [List.getD, hi]] at this
      exact Sc.dg_iff.2 this
    rcases h5 with ⟨rfl, rfl⟩ | ⟨_, e1, e2⟩
    · decide +kernel
    · have hp : 0 < xs.length := by
        rcases Nat.eq_zero_or_pos xs.length with c | c
        · exact absurd (List.length_eq_zero_iff.1 c) h1
        · exact c
      have lz0 : Sc.lz xs = 0 := Sc.lz_is (fun i hi => by omega) e1
      have tz0 : Sc.tz xs = 0 := by
        have := Sc.tz_is (ds := xs) (k := xs.length) (Nat.le_refl _) (fun i hi hj => by omega) (fun _ => e2)
        omega
      refine ⟨⟨h1, h2, h3, dg, fun _ => by rw [tz0]; omega⟩, ?_⟩
      rw [Sc.nrm_pos (by omega), lz0, tz0]
      simp

end Go.Proofs.YthefpclblejbgaaGreatDoor

namespace Go.Proofs.YthefpclblejbgaaGreatDoor
open Go Go.RowKit Go.Deep

namespace Ie
theorem Near.same {P Q P' Q' : Int} {m : Bool} {x : Int} (hQ : 0 < Q) (hQ' : 0 < Q') (h : Near P Q m x) (hv : P * Q' = P' * Q) : Near P' Q' m x := by
  have key : ∀ y : Int, (y * Q < P → y * Q' < P') ∧ (y * Q = P → y * Q' = P') ∧ (P < y * Q → P' < y * Q') := by
    intro y
    have f : y * Q * Q' = y * Q' * Q := by rw [Int.mul_assoc, Int.mul_comm Q Q', Int.mul_assoc]
    refine ⟨fun g => ?_, fun g => ?_, fun g => ?_⟩
    · have := Int.mul_lt_mul_of_pos_right g hQ'
      exact Int.lt_of_mul_lt_mul_right (a := Q) (by omega) (by omega)
    · rw [g] at f
      exact Int.eq_of_mul_eq_mul_right (a := Q) (by omega) (by omega)
    · have := Int.mul_lt_mul_of_pos_right g hQ'
      exact Int.lt_of_mul_lt_mul_right (a := Q) (by omega) (by omega)
  refine ⟨h.1, fun hx => ?_, fun hx => ?_⟩
  · rcases h.2.1 hx with g | ⟨g, g'⟩
    · exact .inl ((key _).1 g)
    · exact .inr ⟨(key _).2.1 g, g'⟩
  · rcases h.2.2 hx with g | ⟨g, g'⟩
    · exact .inl ((key _).2.2 g)
    · exact .inr ⟨((key _).2.1 g.symm).symm, g'⟩

theorem Rnd.same {n d n' d' e : Int} {m : Bool} {x : Int} (hd : 0 < d) (hd' : 0 < d') (h : Rnd n d e m x) (hv : n * d' = n' * d) : Rnd n' d' e m x := by
  intro a b hab
  refine (h a b hab).same (Int.mul_pos hd (Nm.two_pos _)) (Int.mul_pos hd' (Nm.two_pos _)) ?_
  have e1 : n * 2 ^ a * (d' * 2 ^ b) = n * d' * (2 ^ a * 2 ^ b) := by ac_rfl
  have e2 : n' * 2 ^ a * (d * 2 ^ b) = n' * d * (2 ^ a * 2 ^ b) := by ac_rfl
  rw [e1, e2, hv]

theorem Rnd.up {n d e : Int} {m : Bool} {x : Int} (k : Nat) (h : Rnd n d e m x) : Rnd (n * 2 ^ k) d (e - k) m x := by
  intro a b hab
  have := h (k + a) b (by omega)
  rw [Nm.two_add, ← Int.mul_assoc] at this
  exact this
theorem Rnd.down {n d e : Int} {m : Bool} {x : Int} (k : Nat) (h : Rnd n d e m x) : Rnd n (d * 2 ^ k) (e + k) m x := by
  intro a b hab
  have := h a (k + b) (by omega)
  rw [Nm.two_add, ← Int.mul_assoc d] at this
  exact this

theorem rnd_great {n d : Int} (hd : 0 < d) (h : 2 ^ 1024 * d ≤ n) : Rnd n d 0 false 9218868437227405312 := by
  refine Rnd.of (a := 1075) (b := 0) (by decide) ⟨⟨by omega, by omega⟩, fun _ => .inl ?_, fun h => absurd h (by omega)⟩
  rw [show (9218868437227405312 : Int) - 1 = 9218868437227405311 by omega, md_last, Int.pow_zero, Int.mul_one]
  have e1 : (2 : Int) ^ 2045 = 2 ^ 970 * 2 ^ 1075 := by rw [← Nm.two_add]
  have e2 : (2 : Int) ^ 1024 = 18014398509481984 * 2 ^ 970 := by rw [show 1024 = 54 + 970 by rfl, Nm.two_add, show (2 : Int) ^ 54 = 18014398509481984 by decide]
  have p := Nm.two_pos 970
  have q := Nm.two_pos 1075
  rw [e2] at h
  rw [e1]
  generalize (2 : Int) ^ 970 = A at *
  generalize (2 : Int) ^ 1075 = B at *
  have h1 : 18014398509481984 * A * d * B ≤ n * B := Int.mul_le_mul_of_nonneg_right h (by omega)
  have e3 : 18014398509481983 * (A * B) * d = 18014398509481983 * (A * d * B) := by ac_rfl
  have e4 : 18014398509481984 * A * d * B = 18014398509481984 * (A * d * B) := by ac_rfl
  have r := Int.mul_pos (Int.mul_pos p hd) q
  rw [e3]
  rw [e4] at h1
  generalize A * d * B = C at *
  omega

theorem rnd_little {n d : Int} (h : n * 2 ^ 1075 < d) : Rnd n d 0 false 0 := by
  refine Rnd.of (a := 1075) (b := 0) (by decide) ⟨⟨by omega, by omega⟩, fun h => absurd h (by omega), fun _ => .inl ?_⟩
  rw [md_zero, Int.one_mul, Int.pow_zero, Int.mul_one]
  exact h

theorem ten_five (k : Nat) : (10 : Int) ^ k = 5 ^ k * 2 ^ k := by rw [← Int.mul_pow]; rfl
theorem ten_pos (k : Nat) : (0 : Int) < 10 ^ k := Int.pow_pos (by decide)
theorem ten_le {a b : Nat} (h : a ≤ b) : (10 : Int) ^ a ≤ 10 ^ b := by
  have h1 := Nat.pow_le_pow_right (show 0 < 10 by decide) h
  have e : ∀ k : Nat, ((10 ^ k : Nat) : Int) = 10 ^ k := by intro k; simp
  have e1 := e a
  have e2 := e b
  omega
theorem five_mono {a b : Nat} (h : a ≤ b) : (5 : Int) ^ a ≤ 5 ^ b := by
  have h1 := Nat.pow_le_pow_right (show 0 < 5 by decide) h
  have e : ∀ k : Nat, ((5 ^ k : Nat) : Int) = 5 ^ k := by intro k; simp
  have e1 := e a
  have e2 := e b
  omega

theorem big1 : (2 : Int) ^ 1024 ≤ 10 ^ 400 := by decide +kernel
theorem big2 : (2 : Int) ^ 1075 ≤ 10 ^ 399 := by decide +kernel
theorem big3 : (2 : Int) ^ 1024 ≤ 10 ^ 767 := by decide +kernel
theorem big4 : (18014398509481984 : Int) * 5 ^ 1075 ≤ 10 ^ 768 := by decide +kernel

/-- Of the numbers with 768 figures, no two neighbours have a middle between them. -/
theorem no_middle {A T : Int} {u p q : Nat} (hA : 0 < A) (hA1 : A < 18014398509481984) (hu : u ≤ 2045) (hT : 10 ^ 767 ≤ T) (hpq : p = 0 ∨ q = 0) :
    A * 2 ^ u * 10 ^ q ≤ T * 10 ^ p * 2 ^ 1075 ∨ (T + 1) * 10 ^ p * 2 ^ 1075 ≤ A * 2 ^ u * 10 ^ q := by
  have tp := ten_pos p
  have tq := ten_pos q
  have T0 : 0 < T := by have := ten_pos 767; omega
  rcases (show 1075 ≤ u ∨ u < 1075 by omega) with h | h
  · obtain ⟨k, rfl⟩ : ∃ k, u = k + 1075 := ⟨u - 1075, by omega⟩
    have e1 : A * 2 ^ (k + 1075) * 10 ^ q = A * 2 ^ k * 10 ^ q * 2 ^ 1075 := by rw [Nm.two_add, ← Int.mul_assoc A, Int.mul_assoc (A * 2 ^ k), Int.mul_comm (2 ^ 1075) (10 ^ q), ← Int.mul_assoc]
    rw [e1]
    have P := Nm.two_pos 1075
    generalize (2 : Int) ^ 1075 = B at *
    have key : A * 2 ^ k * 10 ^ q ≤ T * 10 ^ p ∨ (T + 1) * 10 ^ p ≤ A * 2 ^ k * 10 ^ q := by
      rcases hpq with rfl | rfl
      · rw [Int.pow_zero, Int.mul_one, Int.mul_one]; omega
      · left
        rw [Int.pow_zero, Int.mul_one]
        have k1 : (2 : Int) ^ k ≤ 2 ^ 970 := Nm.two_mono (by omega)
        have e2 : (2 : Int) ^ 1024 = 18014398509481984 * 2 ^ 970 := by rw [show 1024 = 54 + 970 by rfl, Nm.two_add, show (2 : Int) ^ 54 = 18014398509481984 by decide]
        have h1 : A * 2 ^ k ≤ A * 2 ^ 970 := Int.mul_le_mul_of_nonneg_left k1 (by omega)
        have h2 : A * 2 ^ 970 ≤ 18014398509481984 * 2 ^ 970 := Int.mul_le_mul_of_nonneg_right (by omega) (by have := Nm.two_pos 970; omega)
        have h3 : T * 1 ≤ T * 10 ^ p := Int.mul_le_mul_of_nonneg_left (by omega) (by omega)
        have h4 := big3
        rw [e2] at h4
        generalize (2 : Int) ^ 970 = C at *
        generalize (10 : Int) ^ 767 = G at *
        omega
    rcases key with g | g
    · exact .inl (Int.mul_le_mul_of_nonneg_right g (by omega))
    · exact .inr (Int.mul_le_mul_of_nonneg_right g (by omega))
  · obtain ⟨k, hk⟩ : ∃ k, u + k = 1075 := ⟨1075 - u, by omega⟩
    have e0 : (2 : Int) ^ 1075 = 2 ^ u * 2 ^ k := by rw [← hk, Nm.two_add]
    have pu := Nm.two_pos u
    have f5 : (0 : Int) < 5 ^ k := Int.pow_pos (by decide)
    have N1 : A * 5 ^ k < 10 ^ 768 := by
      have g1 : A * 5 ^ k < 18014398509481984 * 5 ^ k := Int.mul_lt_mul_of_pos_right hA1 f5
      have g2 : (18014398509481984 : Int) * 5 ^ k ≤ 18014398509481984 * 5 ^ 1075 := Int.mul_le_mul_of_nonneg_left (five_mono (by omega)) (by omega)
      have g3 := big4
      generalize (5 : Int) ^ 1075 = X at *
      generalize (10 : Int) ^ 768 = Y at *
      omega
    have key : A * 5 ^ k * 10 ^ q ≤ T * 10 ^ (p + k) ∨ (T + 1) * 10 ^ (p + k) ≤ A * 5 ^ k * 10 ^ q := by
      rcases (show p + k ≤ q ∨ q < p + k by omega) with g | g
      · have hp : p = 0 := by omega
        obtain ⟨r, rfl⟩ : ∃ r, q = r + (p + k) := ⟨q - (p + k), by omega⟩
        have e1 : A * 5 ^ k * 10 ^ (r + (p + k)) = A * 5 ^ k * 10 ^ r * 10 ^ (p + k) := by rw [Int.pow_add 10 r (p + k), ← Int.mul_assoc]
        rw [e1]
        have tk := ten_pos (p + k)
        rcases (show A * 5 ^ k * 10 ^ r ≤ T ∨ T + 1 ≤ A * 5 ^ k * 10 ^ r by omega) with c | c
        · exact .inl (Int.mul_le_mul_of_nonneg_right c (by omega))
        · exact .inr (Int.mul_le_mul_of_nonneg_right c (by omega))
      · left
        obtain ⟨r, hr⟩ : ∃ r, p + k = r + 1 + q := ⟨p + k - q - 1, by omega⟩
        have e1 : T * 10 ^ (p + k) = T * 10 ^ (r + 1) * 10 ^ q := by rw [hr, Int.pow_add 10 (r + 1) q, Int.mul_assoc]
        rw [e1]
        refine Int.mul_le_mul_of_nonneg_right ?_ (by omega)
        have g1 : T * 10 ^ 1 ≤ T * 10 ^ (r + 1) := Int.mul_le_mul_of_nonneg_left (ten_le (by omega)) (by omega)
        have g2 : (10 : Int) ^ 768 = 10 ^ 767 * 10 := Int.pow_succ 10 767
        rw [Int.pow_one] at g1
        rw [g2] at N1
        generalize (10 : Int) ^ 767 = Y at *
        omega
    have e1 : ∀ X : Int, X * 10 ^ p * 2 ^ 1075 * 5 ^ k = X * 10 ^ (p + k) * 2 ^ u := by
      intro X
      rw [e0, Int.pow_add, ten_five k]
      ac_rfl
    have e2 : A * 2 ^ u * 10 ^ q * 5 ^ k = A * 5 ^ k * 10 ^ q * 2 ^ u := by ac_rfl
    rcases key with g | g
    · left
      have := Int.mul_le_mul_of_nonneg_right g (show (0 : Int) ≤ 2 ^ u by omega)
      rw [← e1, ← e2] at this
      exact Int.le_of_mul_le_mul_right this f5
    · right
      have := Int.mul_le_mul_of_nonneg_right g (show (0 : Int) ≤ 2 ^ u by omega)
      rw [← e1, ← e2] at this
      exact Int.le_of_mul_le_mul_right this f5

theorem md_side {T y : Int} {p q : Nat} (hT : 10 ^ 767 ≤ T) (hpq : p = 0 ∨ q = 0) (h0 : 0 ≤ y) (h1 : y < 9218868437227405312) :
    md y * 10 ^ q ≤ T * 10 ^ p * 2 ^ 1075 ∨ (T + 1) * 10 ^ p * 2 ^ 1075 ≤ md y * 10 ^ q := by
  have m := man_nn y h0
  exact no_middle (by omega) (by omega) (by unfold ex; omega) hT hpq

/-- V / D lies between T and T + 1, times 10^(p - q). -/
def Btw (T : Int) (p q : Nat) (V D : Int) : Prop := T * 10 ^ p * D < V * 10 ^ q ∧ V * 10 ^ q < (T + 1) * 10 ^ p * D

theorem Btw.lo {T V D M : Int} {p q : Nat} (h : Btw T p q V D) (hD : 0 < D) (hM : M * 10 ^ q ≤ T * 10 ^ p * 2 ^ 1075) : M * D < V * 2 ^ 1075 := by
  have tq := ten_pos q
  have P := Nm.two_pos 1075
  generalize (2 : Int) ^ 1075 = B at *
  have a1 : M * 10 ^ q * D ≤ T * 10 ^ p * B * D := Int.mul_le_mul_of_nonneg_right hM (by omega)
  have a2 := Int.mul_lt_mul_of_pos_right h.1 P
  have e1 : T * 10 ^ p * B * D = T * 10 ^ p * D * B := by ac_rfl
  have e2 : M * 10 ^ q * D = M * D * 10 ^ q := by ac_rfl
  have e3 : V * 10 ^ q * B = V * B * 10 ^ q := by ac_rfl
  exact Int.lt_of_mul_lt_mul_right (a := 10 ^ q) (by omega) (by omega)
theorem Btw.hi {T V D M : Int} {p q : Nat} (h : Btw T p q V D) (hD : 0 < D) (hM : (T + 1) * 10 ^ p * 2 ^ 1075 ≤ M * 10 ^ q) : V * 2 ^ 1075 < M * D := by
  have tq := ten_pos q
  have P := Nm.two_pos 1075
  generalize (2 : Int) ^ 1075 = B at *
  have a1 : (T + 1) * 10 ^ p * B * D ≤ M * 10 ^ q * D := Int.mul_le_mul_of_nonneg_right hM (by omega)
  have a2 := Int.mul_lt_mul_of_pos_right h.2 P
  have e1 : (T + 1) * 10 ^ p * B * D = (T + 1) * 10 ^ p * D * B := by ac_rfl
  have e2 : M * 10 ^ q * D = M * D * 10 ^ q := by ac_rfl
  have e3 : V * 10 ^ q * B = V * B * 10 ^ q := by ac_rfl
  exact Int.lt_of_mul_lt_mul_right (a := 10 ^ q) (by omega) (by omega)

/-- Two numbers between the same neighbours round alike. -/
theorem Btw.rnd {T V D V' D' x : Int} {p q : Nat} (hT : 10 ^ 767 ≤ T) (hpq : p = 0 ∨ q = 0) (hD : 0 < D) (hD' : 0 < D') (h : Btw T p q V D) (h' : Btw T p q V' D') (hr : Rnd V D 0 false x) : Rnd V' D' 0 false x := by
  have hn := hr 1075 0 (by decide)
  refine Rnd.of (a := 1075) (b := 0) (by decide) ?_
  rw [Int.pow_zero, Int.mul_one] at hn ⊢
  refine ⟨hn.1, fun hx => .inl ?_, fun hx => .inl ?_⟩
  · rcases md_side (y := x - 1) hT hpq (by omega) (by have := hn.1; omega) with s | s
    · exact h'.lo hD' s
    · have a := h.hi hD s
      rcases hn.2.1 hx with g | g
      · omega
      · omega
  · rcases md_side (y := x) hT hpq hn.1.1 hx with s | s
    · have a := h.lo hD s
      rcases hn.2.2 hx with g | g
      · omega
      · omega
    · exact h'.hi hD' s
end Ie

/-- The double nearest to the decimal xs * 10^e. -/
def Dr (xs : List Int) (e x : Int) : Prop := Ie.Rnd (dw xs * 10 ^ e.toNat) (10 ^ (-e).toNat) 0 false x

theorem Dr.one {xs : List Int} {e x y : Int} (h : Dr xs e x) (k : Dr xs e y) : x = y :=
  Ie.Rnd.one (a := 0) (a' := 0) (Ie.ten_pos _) (Ie.ten_pos _) h k (by omega) rfl
theorem Dr.bd {xs : List Int} {e x : Int} (h : Dr xs e x) : 0 ≤ x ∧ x ≤ 9218868437227405312 := Ie.Rnd.bd h

theorem Dr.same {xs ys : List Int} {e f x : Int} (h : Dr xs e x) (hv : dw xs * 10 ^ e.toNat * 10 ^ (-f).toNat = dw ys * 10 ^ f.toNat * 10 ^ (-e).toNat) : Dr ys f x :=
  Ie.Rnd.same (Ie.ten_pos _) (Ie.ten_pos _) h hv

theorem Dr.mono {xs ys : List Int} {e f x y : Int} (h : Dr xs e x) (k : Dr ys f y) (hv : dw xs * 10 ^ e.toNat * 10 ^ (-f).toNat ≤ dw ys * 10 ^ f.toNat * 10 ^ (-e).toNat) : x ≤ y := by
  refine Ie.Rnd.mono (a := 0) (a' := 0) (Ie.ten_pos _) (Ie.ten_pos _) h k (by omega) ?_
  rw [Int.pow_zero, Int.mul_one, Int.mul_one]
  rcases Int.lt_or_eq_of_le hv with g | g
  · exact .inl g
  · exact .inr ⟨g, id⟩

theorem Dr.tell {xs : List Int} {e x y : Int} (hd : Dig9 xs) (h : TellIs xs e x true) (hy : Dr xs e y) : x = y := tell_true hd h hy

theorem dr_up {xs : List Int} {e x : Int} (j : Nat) (he : e = (j : Int)) (h : Ie.Rnd (dw xs * 5 ^ j) 1 e false x) : Dr xs e x := by
  have g := h.up j
  rw [show e - (j : Int) = 0 by omega, Int.mul_assoc, ← Ie.ten_five] at g
  unfold Dr
  rw [show e.toNat = j by omega, show (-e).toNat = 0 by omega]
  exact g
theorem dr_down {xs : List Int} {e x : Int} (j : Nat) (he : e = -(j : Int)) (h : Ie.Rnd (dw xs) (5 ^ j) e false x) : Dr xs e x := by
  have g := h.down j
  rw [show e + (j : Int) = 0 by omega, ← Ie.ten_five] at g
  unfold Dr
  rw [show e.toNat = 0 by omega, show (-e).toNat = j by omega, Int.pow_zero, Int.mul_one]
  exact g

theorem dw_low {xs : List Int} (h : Dig9 xs) (hn : xs ≠ []) (h0 : xs.getD 0 0 ≠ 48) : 10 ^ (xs.length - 1) ≤ dw xs := by
  cases xs with
  | nil => exact absurd rfl hn
  | cons x l =>
    have h1 := dv_cons x l
    rw [dw_dv, dw_dv] at h1
    have h2 := h x (by simp)
    have h3 : x ≠ 48 := h0
    have h4 := (dw_range (xs := l) (fun y hy => h y (by simp [hy]))).1
    have p := Ie.ten_pos l.length
    have h5 : 1 * 10 ^ l.length ≤ (x - 48) * 10 ^ l.length := Int.mul_le_mul_of_nonneg_right (by omega) (by omega)
    rw [show (x :: l).length - 1 = l.length by simp]
    omega

theorem dw_last {xs : List Int} (h : Dig9 xs) (hn : xs ≠ []) (h0 : xs.getD (xs.length - 1) 0 ≠ 48) : 0 < dw xs := by
  have l0 : 0 < xs.length := List.length_pos_iff.2 hn
  have h1 := dw_take (ds := xs) (j := xs.length - 1) (by omega)
  rw [show xs.length - 1 + 1 = xs.length by omega, List.take_length] at h1
  have h2 := h.at (j := xs.length - 1) (by omega)
  have h3 := (dw_bd h (xs.length - 1) (by omega)).1
  omega

theorem dr_inf {xs : List Int} {e : Int} (hd : Dig9 xs) (hn : xs ≠ []) (h0 : xs.getD 0 0 ≠ 48) (h : 400 ≤ e + xs.length - 1) : Dr xs e 9218868437227405312 := by
  refine Ie.rnd_great (Ie.ten_pos _) ?_
  have l0 : 0 < xs.length := List.length_pos_iff.2 hn
  have lo := dw_low hd hn h0
  have h1 : (10 : Int) ^ (400 + (-e).toNat) ≤ 10 ^ (xs.length - 1 + e.toNat) := Ie.ten_le (by omega)
  rw [Int.pow_add, Int.pow_add] at h1
  have h2 : (10 : Int) ^ (xs.length - 1) * 10 ^ e.toNat ≤ dw xs * 10 ^ e.toNat := Int.mul_le_mul_of_nonneg_right lo (Int.le_of_lt (Ie.ten_pos _))
  have h3 : (2 : Int) ^ 1024 * 10 ^ (-e).toNat ≤ 10 ^ 400 * 10 ^ (-e).toNat := Int.mul_le_mul_of_nonneg_right Ie.big1 (Int.le_of_lt (Ie.ten_pos _))
  exact Int.le_trans h3 (Int.le_trans h1 h2)

theorem dr_zero {xs : List Int} {e : Int} (hd : Dig9 xs) (hn : xs ≠ []) (h : e + xs.length - 1 ≤ -400) : Dr xs e 0 := by
  refine Ie.rnd_little ?_
  have l0 : 0 < xs.length := List.length_pos_iff.2 hn
  have hi := (dw_range hd).2
  have nn := (dw_range hd).1
  rw [show e.toNat = 0 by omega, Int.pow_zero, Int.mul_one]
  have h1 : (10 : Int) ^ (xs.length + 399) ≤ 10 ^ (-e).toNat := Ie.ten_le (by omega)
  rw [Int.pow_add] at h1
  have t := Ie.ten_pos 399
  have h2 : dw xs * 2 ^ 1075 ≤ dw xs * 10 ^ 399 := Int.mul_le_mul_of_nonneg_left Ie.big2 nn
  have h3 : dw xs * 10 ^ 399 < 10 ^ xs.length * 10 ^ 399 := Int.mul_lt_mul_of_pos_right hi t
  exact Int.lt_of_le_of_lt h2 (Int.lt_of_lt_of_le h3 h1)

theorem btw_of {T t v e E : Int} {r : Nat} (hE : E = e + r) (hv : v = T * 10 ^ r + t) (t0 : 0 < t) (t1 : t < 10 ^ r) : Ie.Btw T E.toNat (-E).toNat (v * 10 ^ e.toNat) (10 ^ (-e).toNat) := by
  have ta := tens_add hE
  have pp : (0 : Int) < 10 ^ e.toNat * 10 ^ (-E).toNat := Int.mul_pos (Ie.ten_pos _) (Ie.ten_pos _)
  unfold Ie.Btw
  rw [Int.mul_assoc T, Int.mul_assoc (T + 1), ← ta, Int.mul_assoc v, ← Int.mul_assoc T, ← Int.mul_assoc (T + 1)]
  refine ⟨Int.mul_lt_mul_of_pos_right (by omega) pp, Int.mul_lt_mul_of_pos_right ?_ pp⟩
  rw [Int.add_mul, Int.one_mul]
  omega

theorem dig1 : Dig9 [49] := fun x hx => by simp at hx; omega
theorem Dig9.append {xs ys : List Int} (h : Dig9 xs) (k : Dig9 ys) : Dig9 (xs ++ ys) := fun x hx => by
  rcases List.mem_append.1 hx with g | g
  · exact h x g
  · exact k x g

/-- Of the figures behind the first K only that there are some counts. -/
theorem dr_cut {xs : List Int} {e x : Int} (K : Nat) (hK : 768 ≤ K) (hd : Dig9 xs) (hl : K < xs.length) (h0 : xs.getD 0 0 ≠ 48) (h1 : xs.getD (xs.length - 1) 0 ≠ 48) (h : Dr (xs.take K ++ [49]) (e + xs.length - K - 1) x) : Dr xs e x := by
  have hT : 10 ^ 767 ≤ dw (xs.take K) := by
    have hlen : (xs.take K).length = K := by rw [List.length_take]; omega
    have := dw_low (hd.take K) (by intro c; rw [c] at hlen; simp at hlen; omega) (by
      cases xs with
      | nil => simp at hl
      | cons x l =>
        cases K with
        | zero => omega
        | succ k => simpa using h0)
    rw [hlen] at this
    exact Int.le_trans (Ie.ten_le (by omega)) this
  have sp := dw_split (xs := xs) K
  have tl := dw_range (hd.drop K)
  rw [List.length_drop] at tl
  have tp : 0 < dw (xs.drop K) := by
    refine dw_last (hd.drop K) ?_ ?_
    · intro c
      have := congrArg List.length c
      rw [List.length_drop, List.length_nil] at this
      omega
    · rw [List.length_drop, show (xs.drop K).getD (xs.length - K - 1) 0 = xs.getD (xs.length - 1) 0 by
        simp only [List.getD, List.getElem?_drop]; rw [show K + (xs.length - K - 1) = xs.length - 1 by omega]]
      exact h1
  obtain ⟨r, hr⟩ : ∃ r : Nat, xs.length = r + K := ⟨xs.length - K, by omega⟩
  rw [show xs.length - K = r by omega] at sp tl
  have b1 := btw_of (e := e) (E := e + r) rfl sp tp tl.2
  have sn := dw_snoc (xs.take K) 49
  have b2 := btw_of (T := dw (xs.take K)) (t := 1) (v := dw (xs.take K ++ [49])) (e := e + xs.length - K - 1) (E := e + r) (r := 1) (by omega) (by rw [sn, Int.pow_one, Int.mul_comm]; rfl) (by omega) (by decide)
  exact b2.rnd hT (by omega) (Ie.ten_pos _) (Ie.ten_pos _) b1 h

/-- Zeros at both ends don't count. -/
theorem dw_zeros {l : List Int} (h : ∀ i, i < l.length → l.getD i 0 = 48) : dw l = 0 := by
  have : ∀ j, j ≤ l.length → dw (l.take j) = 0 := by
    intro j
    induction j with
    | zero => intro _; simp [dw]
    | succ j ih =>
      intro hj
      rw [dw_take (by omega), ih (by omega), h j (by omega)]
      rfl
  have := this l.length (Nat.le_refl _)
  rwa [List.take_length] at this
theorem dw_head0 {l : List Int} (k : Nat) (h : ∀ i, i < k → l.getD i 0 = 48) : dw l = dw (l.drop k) := by
  rw [dw_split (xs := l) k, dw_zeros (l := l.take k) (fun i hi => ?_), Int.zero_mul, Int.zero_add]
  rw [List.length_take] at hi
  have hik : i < k := by omega
  have := h i hik
  simp only [List.getD, List.getElem?_take, if_pos hik] at *
  exact this
theorem dw_tail0 {l : List Int} (k : Nat) (h : ∀ i, k ≤ i → i < l.length → l.getD i 0 = 48) : dw l = dw (l.take k) * 10 ^ (l.length - k) := by
  rw [dw_split (xs := l) k, dw_zeros (l := l.drop k) (fun i hi => ?_), Int.add_zero]
  rw [List.length_drop] at hi
  have := h (k + i) (by omega) (by omega)
  simp only [List.getD, List.getElem?_drop] at *
  exact this

theorem dw_nrm (neg : Bool) (xs : List Int) (e : Int) : dw xs * 10 ^ e.toNat * 10 ^ (-(Sc.nrm neg xs e).e).toNat = dw (Sc.nrm neg xs e).ds * 10 ^ (Sc.nrm neg xs e).e.toNat * 10 ^ (-e).toNat := by
  by_cases h : Sc.lz xs = xs.length
  · rw [Sc.nrm_zero h]
    rw [dw_zeros (l := xs) (fun i hi => Sc.lz_at (by omega))]
    simp [dw]
  · rw [Sc.nrm_pos h]
    simp only
    have lt := Sc.lz_tz h
    have a1 := dw_head0 (l := xs) (Sc.lz xs) (fun i hi => Sc.lz_at hi)
    have a2 := dw_tail0 (l := xs.drop (Sc.lz xs)) (xs.length - Sc.tz xs - Sc.lz xs) (fun i hi hl => by
      rw [List.length_drop] at hl
      have := Sc.tz_at (ds := xs) (i := Sc.lz xs + i) (by omega) (by omega)
      rw [← this]
      exact Sc.pk_drop xs _ i)
    rw [List.length_drop, show xs.length - Sc.lz xs - (xs.length - Sc.tz xs - Sc.lz xs) = Sc.tz xs by omega] at a2
    rw [a1, a2]
    have ta := tens_add (e := e) (q := e + (Sc.tz xs : Nat)) (r := Sc.tz xs) rfl
    generalize dw ((xs.drop (Sc.lz xs)).take (xs.length - Sc.tz xs - Sc.lz xs)) = D
    rw [Int.mul_assoc D, Int.mul_assoc D, Int.mul_assoc (10 ^ Sc.tz xs), ta, ← Int.mul_assoc D]

theorem Dr.nrm {neg : Bool} {xs : List Int} {e x : Int} (h : Dr (Sc.nrm neg xs e).ds (Sc.nrm neg xs e).e x) : Dr xs e x := h.same (dw_nrm neg xs e).symm
theorem Dr.nrm' {neg : Bool} {xs : List Int} {e x : Int} (h : Dr xs e x) : Dr (Sc.nrm neg xs e).ds (Sc.nrm neg xs e).e x := h.same (dw_nrm neg xs e)
end Go.Proofs.YthefpclblejbgaaGreatDoor
