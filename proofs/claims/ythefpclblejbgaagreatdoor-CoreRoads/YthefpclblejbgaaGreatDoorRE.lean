/-
  Texts put together: VNormA, IWalk1A, KTry, NMem, NStr, NDigit, NGroup, NLimb, NSTrim, MulAddW.
-/
import Derived.Test.YthefpclblejbgaaGreatDoorRD
import Derived.Test.YthefpclblejbgaaGreatDoorIWalk1C
import Derived.Test.YthefpclblejbgaaGreatDoorWalk5a
import Derived.Test.YthefpclblejbgaaGreatDoorNums
import Derived.Test.YthefpclblejbgaaGreatDoorWalk1
import Derived.Test.YthefpclblejbgaaGreatDoorBare
namespace Go.Proofs.YthefpclblejbgaaGreatDoor
open Go Go.RowKit Go.Deep

def errOf (ds : List Int) (e : Int) : Int := if Sc.IsDec ds e then 0 else 80

def NormTold (neg : Bool) (xs : List Int) (e : Int) (w : World) (r : Ending) (w' : World) : Prop := ∃ v, r = .returned (.tuple #[v, .int .i64 (errOf xs e)]) ∧ DecIs v (nmd neg xs e) ∧ Below w.heap.size w w'

set_option maxRecDepth 100000 in
set_option maxHeartbeats 2000000 in
theorem norm_any (neg : Bool) (s : ByteArray) (xs : List Int) (e : Int) (w : World) (hs : Str s xs) (hn : xs.length ≤ 281474976710655) :
    Calls Tryz.prog 28 #[decV neg s e] w fun r w' => NormTold neg xs e w r w' := by
  have T := hid (fun wx => slim_any neg s xs e wx hs (by omega))
  have Z := hid (Two3.new w (.bool neg) (.string s) (.int .i64 e) (.bool false) (.string ⟨#[]⟩) (.int .i64 0))
  have LN : Hid ((nmd neg xs e).ds.length ≤ 281474976710656) := by
    show _ ≤ _
    unfold nmd
    split
    · exact nrm_ds_len _ _ _ (by omega)
    · simp
  clear hs hn
  unfold decV at T ⊢
  go_enter Tryz.func28, Tryz.ntmps28
  go_wp2_with fail
  refine (T.out _).mono ?_
  rintro r w1 ⟨v, rfl, ⟨t, hv, ht⟩, hB⟩
  unfold decV at hv
  subst hv
  have S := hid ((Z.out.on hB).putA (.bool (nmd neg xs e).neg) (.string t) (.int .i64 (nmd neg xs e).e))
  obtain ⟨⟨c0, c1, c2⟩, f0, f1, f2⟩ := (Z.out.on hB).2.1.cells
  have HT := hid ht
  have O := hid (fun wx => own_any (nmd neg xs e).neg t (nmd neg xs e).e wx (by rw [ht.size]; exact LN.out))
  unfold decV at O
  obtain ⟨d, hd⟩ : ∃ d, decide (Sc.IsDec xs e) = d := ⟨_, rfl⟩
  rw [hd]
  cases d with
  | true =>
    have E : Hid (errOf xs e = 0) := by show _ = _; unfold errOf; rw [if_pos (of_decide_eq_true hd)]
    have GG : Hid (∀ w', Below w.heap.size w w' → NormTold neg xs e w (.returned (.tuple #[.agg #[.bool (nmd neg xs e).neg, .string t, .int .i64 (nmd neg xs e).e], .int .i64 0])) w') := fun w' b => ⟨_, by rw [E.out]; rfl, ⟨t, rfl, HT.out⟩, b⟩
    obtain ⟨⟨d0, d1, d2⟩, g0, g1, g2⟩ := (Z.out.on hB).2.2.cells
    clear hB ht Z T hd E
    generalize nmd neg xs e = N at *
    go_wp2_with fail
    refine (O.out _).mono ?_
    rintro r w2 ⟨rfl, hB⟩
    have S2 := hid (S.out.on hB)
    clear c0 c1 c2 f0 f1 f2 d0 d1 d2 g0 g1 g2 hB
    obtain ⟨⟨d0, d1, d2⟩, g0, g1, g2⟩ := S2.out.2.2.cells
    go_wp2_with fail
    (try simp only [Exit.inBlock, Exit.then])
    refine bodyPost_ret (results_row_tmp rfl _ _ (w.heap.size + 1) 35 _ (0, 0) _ rfl (S2.out.putB _ _ _).2.2 Tryz.underlying35 rfl (by kernel_rfl)) rfl ?_
    exact GG.out _ (S2.out.putB _ _ _).1
  | false =>
    have hnd := of_decide_eq_false hd
    have E : Hid (errOf xs e = 80) := by show _ = _; unfold errOf; rw [if_neg hnd]
    have EN : Hid (nmd neg xs e = ⟨false, [], 0⟩) := by show _ = _; unfold nmd; rw [if_neg hnd]
    have GG : Hid (∀ w', Below w.heap.size w w' → NormTold neg xs e w (.returned (.tuple #[.agg #[.bool false, .string ⟨#[]⟩, .int .i64 0], .int .i64 80])) w') := fun w' b => ⟨_, by rw [E.out], by rw [EN.out]; exact ⟨_, rfl, str_nil0⟩, b⟩
    obtain ⟨⟨d0, d1, d2⟩, g0, g1, g2⟩ := (Z.out.on hB).2.2.cells
    clear hB ht Z T hd hnd O
    rw [EN.out] at S ⊢
    go_wp2_with fail
    (try simp only [Exit.inBlock, Exit.then])
    refine bodyPost_ret (results_row_tmp rfl _ _ (w.heap.size + 1) 35 _ (0, 0) _ rfl (S.out.putB _ _ _).2.2 Tryz.underlying35 rfl (by kernel_rfl)) rfl ?_
    exact GG.out _ (S.out.putB _ _ _).1
end Go.Proofs.YthefpclblejbgaaGreatDoor

/-
  ieee: Neg.
-/
namespace Go.Proofs.YthefpclblejbgaaGreatDoor
open Go Go.RowKit Go.Deep

set_option maxRecDepth 100000 in
theorem neg_any (d : Int) (w : World) (h0 : 0 ≤ d) (h1 : d < 18446744073709551616) :
    Calls Tryz.prog 30 #[.int .u64 d] w fun e w' => e = .returned (.int .u64 (Ie.ng d)) ∧ w' = w := by
  have B : bits .xor .u64 d 9223372036854775808 = Ie.ng d := Ib.sign_xor d h0 h1
  go_enter Tryz.func30, Tryz.ntmps30
  go_wp2
  go_ret
  exact ⟨rfl, rfl⟩
end Go.Proofs.YthefpclblejbgaaGreatDoor

namespace Go.Proofs.YthefpclblejbgaaGreatDoor
open Go Go.RowKit Go.Deep

/-- What a row of digits writes. -/
def dw (ds : List Int) : Int := ds.foldl (fun a d => 10 * a + (d - 48)) 0
theorem dw_snoc (ds : List Int) (x : Int) : dw (ds ++ [x]) = 10 * dw ds + (x - 48) := by unfold dw; rw [List.foldl_append]; rfl
def Dig9 (ds : List Int) : Prop := ∀ x ∈ ds, 48 ≤ x ∧ x ≤ 57
theorem take_snoc {ds : List Int} {j : Nat} (h : j < ds.length) : ds.take (j + 1) = ds.take j ++ [ds.getD j 0] := by
  rw [List.take_add_one]
  simp [List.getD, h]
theorem dw_take {ds : List Int} {j : Nat} (h : j < ds.length) : dw (ds.take (j + 1)) = 10 * dw (ds.take j) + (ds.getD j 0 - 48) := by rw [take_snoc h, dw_snoc]
theorem Dig9.at {ds : List Int} (h : Dig9 ds) {j : Nat} (hj : j < ds.length) : 48 ≤ ds.getD j 0 ∧ ds.getD j 0 ≤ 57 := h _ (by simp [List.getD, hj])
theorem dw_bd {ds : List Int} (h : Dig9 ds) : ∀ j, j ≤ ds.length → 0 ≤ dw (ds.take j) ∧ dw (ds.take j) < 10 ^ j
  | 0, _ => by simp [dw]
  | j + 1, hj => by
    have ih := dw_bd h j (by omega)
    have := h.at (show j < ds.length by omega)
    rw [dw_take (by omega), Int.pow_succ]
    omega
theorem ten19 {j : Nat} (h : j ≤ 19) : (10 : Int) ^ j ≤ 10000000000000000000 := by
  have h1 := Nat.pow_le_pow_right (show 0 < 10 by decide) h
  have e : ∀ k : Nat, ((10 ^ k : Nat) : Int) = 10 ^ k := by intro k; simp
  have e1 := e j
  have e2 := e 19
  have e3 : (10 : Int) ^ 19 = 10000000000000000000 := by decide +kernel
  omega

set_option maxRecDepth 100000 in
set_option maxHeartbeats 1000000 in
theorem natural_any9 (s : ByteArray) (xs : List Int) (w : World) (hs : Str s xs) (hd : Dig9 xs) (hn : xs.length ≤ 19) :
    Calls Tryz.prog 48 #[.string s] w fun e w' => e = .returned (.int .u64 (dw xs)) ∧ w' = w := by
  have hsz := hs.size
  have ST : Hid (∀ j, j < xs.length → (∀ ht : j < s.size, ((s[j]'ht).toNat : Int) = xs.getD j 0) ∧ (48 ≤ xs.getD j 0 ∧ xs.getD j 0 ≤ 57) ∧ dw (xs.take (j + 1)) = 10 * dw (xs.take j) + (xs.getD j 0 - 48) ∧ 0 ≤ dw (xs.take j) ∧ dw (xs.take j) < 1000000000000000000) := fun j hj => ⟨hs.at j, hd.at hj, dw_take hj, (dw_bd hd j (by omega)).1, by
    have := (dw_bd hd j (by omega)).2
    have h1 := Nat.pow_le_pow_right (show 0 < 10 by decide) (show j ≤ 18 by omega)
    have e : ∀ k : Nat, ((10 ^ k : Nat) : Int) = 10 ^ k := by intro k; simp
    have e1 := e j
    have e2 := e 18
    have e3 : (10 : Int) ^ 18 = 1000000000000000000 := by decide +kernel
    omega⟩
  have FIN : Hid (∀ j, j ≤ xs.length → ¬ j < xs.length → dw (xs.take j) = dw xs) := fun j h1 h2 => by rw [List.take_of_length_le (by omega)]
  have n1 : (xs.length : Int) ≤ 19 := by omega
  have hz0 : dw (xs.take 0) = 0 := by simp [dw]
  clear hs hd hn
  go_enter Tryz.func48, Tryz.ntmps48
  go_wp2_with fail
  go_loop [3, 7] (fun a i => ∃ (j : Nat) (x : Int), a = .int .u64 x ∧ i = .int .i64 j ∧ Hid (j ≤ xs.length ∧ x = dw (xs.take j))) (fun _ i => xs.length - (intOf i).toNat)
  case atStart => exact ⟨0, 0, rfl, rfl, Nat.zero_le _, hz0.symm⟩
  case round =>
    obtain ⟨j, x, rfl, rfl, I⟩ := hrel
    have hjb : (j : Int) ≤ 19 := by have := I.out.1; omega
    by_cases hj : j < xs.length
    · have hji : (j : Int) < (xs.length : Int) := by omega
      obtain ⟨hx, hd, hst, b0, b1⟩ := ST.out j hj
      have hjs : j < s.size := by omega
      have hxx := I.out.2
      rw [← hxx] at hst b0 b1
      have I2 : Hid (j + 1 ≤ xs.length ∧ 10 * x + (xs.getD j 0 - 48) = dw (xs.take (j + 1))) := ⟨by omega, hst.symm⟩
      clear I hxx hst
      generalize xs.getD j 0 = y at *
      go_wp2_with fail
      go_round
      case rel => exact ⟨j + 1, _, rfl, by go_num, I2.out⟩
      case measure => simp [intOf]; omega
    · have hji : ¬ (j : Int) < (xs.length : Int) := by omega
      have hxx := I.out.2
      rw [FIN.out j I.out.1 hj] at hxx
      subst hxx
      clear I
      go_wp2_with fail
      go_ret
      exact ⟨rfl, rfl⟩

/-- What tell tells of a row of digits. -/
def TellIs (xs : List Int) (e x : Int) (s : Bool) : Prop :=
  (xs.length ≤ 19 ∧ ((dw xs ≤ 9007199254740992 ∧ -22 ≤ e ∧ e ≤ 22 ∧ s = true ∧ Ie.Rnd (dw xs * 10 ^ e.toNat) (10 ^ (-e).toNat) 0 false x) ∨ ((9007199254740992 < dw xs ∨ e < -22 ∨ 22 < e) ∧ Ie.Stq (dw xs) e x s))) ∨
    (19 < xs.length ∧ ∃ x1 s1, Ie.Stq (dw (xs.take 19)) (e + xs.length - 19) x1 s1 ∧ ((s1 = false ∧ x = 0 ∧ s = false) ∨
      (s1 = true ∧ ∃ x2 s2, Ie.Stq (dw (xs.take 19) + 1) (e + xs.length - 19) x2 s2 ∧ ((s2 = true ∧ x2 = x1 ∧ x = x1 ∧ s = true) ∨ (¬ (s2 = true ∧ x2 = x1) ∧ x = 0 ∧ s = false)))))

def TellTold (xs : List Int) (e : Int) (w : World) (r : Ending) (w' : World) : Prop := ∃ x s, r = .returned (.tuple #[.int .u64 x, .bool s]) ∧ TellIs xs e x s ∧ Below w.heap.size w w'

theorem Dig9.take {xs : List Int} (h : Dig9 xs) (k : Nat) : Dig9 (xs.take k) := fun x hx => h x (List.mem_of_mem_take hx)

set_option maxRecDepth 100000 in
set_option maxHeartbeats 1000000 in
theorem tell_any9 (s : ByteArray) (xs : List Int) (e : Int) (w : World) (hT : Tab w) (hX : Tens w) (hs : Str s xs) (hd : Dig9 xs) (hn : xs.length ≤ 281474976710656) (e0 : -1152921504606846976 ≤ e) (e1 : e ≤ 1152921504606846976) :
    Calls Tryz.prog 29 #[.string s, .int .i64 e] w fun r w' => TellTold xs e w r w' := by
  have hsz := hs.size
  by_cases h : xs.length ≤ 19
  · have NA := hid (natural_any9 s xs w hs hd h)
    have bd := dw_bd hd xs.length (Nat.le_refl _)
    rw [List.take_length] at bd
    have t19 := ten19 h
    have BD : Bd (dw xs) := ⟨bd.1, by omega⟩
    have SM := hid (small_any9 (dw xs) e w hT hX BD)
    have SP := hid (fun wx (hb : Below w.heap.size w wx) => step_any9 (dw xs) e wx (hT.below hb) BD)
    have F1 : Hid (∀ x w', Ie.Rnd (dw xs * 10 ^ e.toNat) (10 ^ (-e).toNat) 0 false x → dw xs ≤ 9007199254740992 → -22 ≤ e → e ≤ 22 → Below w.heap.size w w' → TellTold xs e w (.returned (.tuple #[.int .u64 x, .bool true])) w') := fun x w' r a b c k => ⟨x, true, rfl, .inl ⟨h, .inl ⟨a, b, c, rfl, r⟩⟩, k⟩
    have F2 : Hid (∀ x s w', Ie.Stq (dw xs) e x s → (9007199254740992 < dw xs ∨ e < -22 ∨ 22 < e) → Below w.heap.size w w' → TellTold xs e w (.returned (.tuple #[.int .u64 x, .bool s])) w') := fun x s w' r a k => ⟨x, s, rfl, .inl ⟨h, .inr ⟨a, r⟩⟩, k⟩
    have hi : (xs.length : Int) ≤ 19 := by omega
    clear h bd t19 BD hs hd hn hT hX
    go_enter Tryz.func29, Tryz.ntmps29
    go_wp2_with fail
    with_reducible refine NA.out.mono ?_
    rintro r w' ⟨rfl, rfl⟩
    go_wp2_with fail
    with_reducible refine SM.out.mono ?_
    rintro r w1 ⟨⟨a1, a2, a3, x, rfl, R⟩ | ⟨a1, rfl⟩, hB⟩
    · have F := hid (F1.out x w1 R a1 a2 a3 hB)
      clear a1 a2 a3 R hB F1 F2 SM SP NA
      go_wp2_with fail
      go_ret2
      exact F.out
    · have A := hid a1
      have HB := hid hB
      clear a1 F1 SM NA
      go_wp2_with fail
      with_reducible refine (SP.out _ hB).mono ?_
      rintro r w2 ⟨x, sr, rfl, R, hB2⟩
      have F := hid (F2.out x sr w2 R A.out (below_on HB.out hB2))
      clear R hB2 hB F2 SP
      go_wp2_with fail
      go_ret2
      exact F.out
  · have hl : (xs.take 19).length = 19 := by rw [List.length_take]; omega
    have NA := hid (fun (s1 : ByteArray) (hs1 : Str s1 (xs.take 19)) wx => natural_any9 s1 (xs.take 19) wx hs1 (hd.take 19) (by omega))
    have EX := hs.extract 0 19
    have bd := dw_bd hd 19 (by omega)
    have t19 := ten19 (show 19 ≤ 19 by omega)
    have BD : Bd (dw (xs.take 19)) := ⟨bd.1, by omega⟩
    have BD1 : Bd (dw (xs.take 19) + 1) := ⟨by omega, by omega⟩
    have S1 := hid (step_any9 (dw (xs.take 19)) (e + xs.length - 19) w hT BD)
    have S2 := hid (fun wx (hb : Below w.heap.size w wx) => step_any9 (dw (xs.take 19) + 1) (e + xs.length - 19) wx (hT.below hb) BD1)
    obtain ⟨n, hnn⟩ : ∃ n : Nat, xs.length = n := ⟨_, rfl⟩
    have F0 : Hid (∀ x1 w', Ie.Stq (dw (xs.take 19)) (e + xs.length - 19) x1 false → Below w.heap.size w w' → TellTold xs e w (.returned (.tuple #[.int .u64 0, .bool false])) w') := fun x1 w' r k => ⟨0, false, rfl, .inr ⟨by omega, x1, false, r, .inl ⟨rfl, rfl, rfl⟩⟩, k⟩
    have F1 : Hid (∀ x1 w', Ie.Stq (dw (xs.take 19)) (e + xs.length - 19) x1 true → Ie.Stq (dw (xs.take 19) + 1) (e + xs.length - 19) x1 true → Below w.heap.size w w' → TellTold xs e w (.returned (.tuple #[.int .u64 x1, .bool true])) w') := fun x1 w' r r2 k => ⟨x1, true, rfl, .inr ⟨by omega, x1, true, r, .inr ⟨rfl, x1, true, r2, .inl ⟨rfl, rfl, rfl, rfl⟩⟩⟩, k⟩
    have F2 : Hid (∀ x1 x2 s2 w', Ie.Stq (dw (xs.take 19)) (e + xs.length - 19) x1 true → Ie.Stq (dw (xs.take 19) + 1) (e + xs.length - 19) x2 s2 → ¬ (s2 = true ∧ x2 = x1) → Below w.heap.size w w' → TellTold xs e w (.returned (.tuple #[.int .u64 0, .bool false])) w') := fun x1 x2 s2 w' r r2 ne k => ⟨0, false, rfl, .inr ⟨by omega, x1, true, r, .inr ⟨rfl, x2, s2, r2, .inr ⟨ne, rfl, rfl⟩⟩⟩, k⟩
    have hni : 19 < (n : Int) := by omega
    have hnb : (n : Int) ≤ 281474976710656 := by omega
    have hs19 : 19 ≤ s.size := by omega
    have b1 := BD1.1
    have b2 := BD1.2
    have b3 := BD.1
    rw [hnn] at hsz S1 S2 F0 F1 F2
    simp only [List.drop_zero, Nat.sub_zero] at EX
    have N1 := hid (NA.out _ EX)
    clear h hl NA EX bd t19 BD BD1 hs hd hn hT hX hnn
    generalize dw (xs.take 19) = v at *
    obtain ⟨q, hq⟩ : ∃ q, e + (n : Int) - 19 = q := ⟨_, rfl⟩
    rw [hq] at S1 S2 F0 F1 F2
    go_enter Tryz.func29, Tryz.ntmps29
    go_wp2_with fail
    with_reducible refine (N1.out _).mono ?_
    rintro r w' ⟨rfl, rfl⟩
    go_wp2_with fail
    with_reducible refine S1.out.mono ?_
    rintro r w1 ⟨x1, s1, rfl, R1, hB⟩
    cases s1 with
    | false =>
      have F := hid (F0.out x1 w1 R1 hB)
      clear R1 hB F0 F1 F2 S1 S2
      go_wp2_with fail
      go_ret2
      exact F.out
    | true =>
      have HR := hid R1
      have HB := hid hB
      clear R1 S1 F0
      go_wp2_with fail
      with_reducible refine (S2.out _ hB).mono ?_
      rintro r w2 ⟨x2, s2, rfl, R2, hB2⟩
      clear hB
      cases s2 with
      | false =>
        have F := hid (F2.out x1 x2 false w2 HR.out R2 (by simp) (below_on HB.out hB2))
        clear R2 hB2 F1 F2 S2
        go_wp2_with fail
        go_ret2
        exact F.out
      | true =>
        by_cases hx : x2 = x1
        · subst hx
          have F := hid (F1.out x2 w2 HR.out R2 (below_on HB.out hB2))
          clear R2 hB2 F1 F2 S2
          go_wp2_with fail
          go_ret2
          exact F.out
        · have F := hid (F2.out x1 x2 true w2 HR.out R2 (fun c => hx c.2) (below_on HB.out hB2))
          have hne : (x2 == x1) = false := by rw [beq_eq_false_iff_ne]; exact hx
          clear R2 hB2 F1 F2 S2
          go_wp2_with fail
          go_ret2
          exact F.out

/-- A Dec in normal form. -/
def Nml (xs : List Int) (e : Int) : Prop := Sc.IsDec xs e ∧ Sc.nrm false xs e = ⟨false, xs, e⟩

instance (xs : List Int) (e : Int) : Decidable (Nml xs e) := by unfold Nml; infer_instance

theorem nrm_neg (neg : Bool) (xs : List Int) (e : Int) : (Sc.nrm neg xs e).neg = neg ∧ (Sc.nrm neg xs e).ds = (Sc.nrm false xs e).ds ∧ (Sc.nrm neg xs e).e = (Sc.nrm false xs e).e := by
  unfold Sc.nrm; split <;> exact ⟨rfl, rfl, rfl⟩

def TryTold (neg : Bool) (xs : List Int) (e : Int) (w : World) (r : Ending) (w' : World) : Prop :=
  ((¬ Nml xs e ∧ r = .returned (.tuple #[.int .u64 0, .bool false])) ∨ (Nml xs e ∧ ∃ x s, TellIs xs e x s ∧ 0 ≤ x ∧ x ≤ 9218868437227405312 ∧ r = .returned (.tuple #[.int .u64 (if s = true then Ie.sg neg x else x), .bool s]))) ∧ Below w.heap.size w w'

theorem TellIs.bd {xs : List Int} {e x : Int} {s : Bool} (h : TellIs xs e x s) : 0 ≤ x ∧ x ≤ 9218868437227405312 := by
  rcases h with ⟨_, ⟨_, _, _, _, h⟩ | ⟨_, h⟩⟩ | ⟨_, x1, s1, h1, ⟨_, rfl, _⟩ | ⟨_, x2, s2, _, ⟨_, _, rfl, _⟩ | ⟨_, rfl, _⟩⟩⟩
  · exact h.bd
  · exact h.stp.bd
  · decide
  · exact h1.stp.bd
  · decide

theorem eq_dec (a b : Bool) (s t : ByteArray) (e f : Int) (w : World) : (Op.equalIn 10000 35 (.agg #[.bool a, .string s, .int .i64 e]) (.agg #[.bool b, .string t, .int .i64 f])).run Tryz.prog w = .ok (a == b && (s.toList == t.toList) && e == f) w := by
  have u3 := Tryz.underlying3
  have a3 := Tryz.isAgg3
  have z3 := Tryz.sizeOf3
  have u4 := Tryz.underlying4
  have a4 := Tryz.isAgg4
  have z4 := Tryz.sizeOf4
  have u9 := Tryz.underlying9
  have a9 := Tryz.isAgg9
  have z9 := Tryz.sizeOf9
  have hS : Tryz.prog.underlying 35 = some (.struct (Tryz.prog.fieldsOf 35)) := by kernel_rfl
  rw [show (10000 : Nat) = 9999 + 1 from rfl, run_equalIn_struct w 9999 35 _ _ hS (by kernel_rfl)]
  simp only [Program.fieldsOf, Tryz.underlying35]
  go_simp
  by_cases h1 : a = b <;> by_cases h2 : s.toList = t.toList <;> by_cases h3 : e = f <;> simp [h1, h2, h3]

theorem isdec_dig {xs : List Int} {e : Int} (h : Sc.IsDec xs e) : Dig9 xs := fun x hx => by
  have := h.2.2.2.1 x hx
  exact Sc.dg_iff.1 this

theorem nml_eq {neg : Bool} {xs : List Int} {e : Int} {s t : ByteArray} (hs : Str s xs) (ht : Str t (nmd neg xs e).ds) (hd : Sc.IsDec xs e) :
    ((nmd neg xs e).neg == neg && (t.toList == s.toList) && (nmd neg xs e).e == e) = decide (Nml xs e) := by
  rw [ht.eq hs]
  have hm : nmd neg xs e = Sc.nrm neg xs e := by unfold nmd; rw [if_pos hd]
  rw [hm]
  obtain ⟨h1, h2, h3⟩ := nrm_neg neg xs e
  rw [h1, h2, h3, Bool.eq_iff_iff]
  have hk : Nml xs e ↔ (Sc.nrm false xs e).ds = xs ∧ (Sc.nrm false xs e).e = e := by
    unfold Nml
    constructor
    · rintro ⟨_, h⟩; rw [h]; exact ⟨rfl, rfl⟩
    · rintro ⟨g1, g2⟩
      refine ⟨hd, ?_⟩
      have g0 := (nrm_neg false xs e).1
      generalize Sc.nrm false xs e = D at *
      cases D
      simp only at g0 g1 g2
      rw [g0, g1, g2]
  simp [hk]

set_option maxRecDepth 100000 in
set_option maxHeartbeats 1000000 in
theorem try_any9 (neg : Bool) (s : ByteArray) (xs : List Int) (e : Int) (w : World) (hT : Tab w) (hX : Tens w) (hs : Str s xs) (hn : xs.length ≤ 281474976710655) :
    Calls Tryz.prog 14 #[decV neg s e] w fun r w' => TryTold neg xs e w r w' := by
  have NM := hid (fun wx => norm_any neg s xs e wx hs hn)
  have Z := hid (Row3.new w (.bool neg) (.string s) (.int .i64 e))
  have F0 : Hid (¬ Nml xs e → ∀ w', Below w.heap.size w w' → TryTold neg xs e w (.returned (.tuple #[.int .u64 0, .bool false])) w') := fun h w' b => ⟨.inl ⟨h, rfl⟩, b⟩
  have F1 : Hid (Nml xs e → ∀ x w', TellIs xs e x true → Below w.heap.size w w' → TryTold neg xs e w (.returned (.tuple #[.int .u64 (Ie.sg neg x), .bool true])) w') := fun h x w' k b => ⟨.inr ⟨h, x, true, k, k.bd.1, k.bd.2, rfl⟩, b⟩
  have F2 : Hid (Nml xs e → ∀ x w', TellIs xs e x false → Below w.heap.size w w' → TryTold neg xs e w (.returned (.tuple #[.int .u64 x, .bool false])) w') := fun h x w' k b => ⟨.inr ⟨h, x, false, k, k.bd.1, k.bd.2, rfl⟩, b⟩
  have TL : Hid (Nml xs e → ∀ wx, Below w.heap.size w wx → Calls Tryz.prog 29 #[.string s, .int .i64 e] wx fun r w' => TellTold xs e wx r w') := fun h wx b => tell_any9 s xs e wx (hT.below b) (hX.below b) hs (isdec_dig h.1) (by omega) h.1.2.1 h.1.2.2.1
  have NG := hid (fun (x : Int) (wx : World) (h0 : 0 ≤ x) (h1 : x < 18446744073709551616) => neg_any x wx h0 h1)
  have NE : Hid (∀ t, Str t (nmd neg xs e).ds → Sc.IsDec xs e → ∀ wx, (Op.equalIn 10000 35 (.agg #[.bool (nmd neg xs e).neg, .string t, .int .i64 (nmd neg xs e).e]) (.agg #[.bool neg, .string s, .int .i64 e])).run Tryz.prog wx = .ok (decide (Nml xs e)) wx) := fun t ht hd wx => by rw [eq_dec, nml_eq hs ht hd]
  unfold decV at NM ⊢
  clear hs hn hT hX
  go_enter Tryz.func14, Tryz.ntmps14
  go_wp2_with fail
  refine (NM.out _).mono ?_
  rintro r w1 ⟨v, rfl, ⟨t, rfl, ht⟩, hB⟩
  unfold decV
  have Z1 := hid (Z.out.below hB Z.out.lt)
  have B1 := hid (below_on (alloc_b w _) hB)
  by_cases hd : Sc.IsDec xs e
  · have E0 : errOf xs e = 0 := by unfold errOf; rw [if_pos hd]
    have EQ := NE.out t ht hd
    rw [E0]
    obtain ⟨b, hb⟩ : ∃ b, decide (Nml xs e) = b := ⟨_, rfl⟩
    rw [hb] at EQ
    obtain ⟨⟨c0, c1, c2⟩, _⟩ := Z1.out.cells
    have lt1 := Z1.out.lt
    have ne : w1.heap.size ≠ w.heap.size := by omega
    cases b with
    | false =>
      have F := hid (F0.out (of_decide_eq_false hb))
      clear hB ht hd E0 hb NM Z Z1 F0 F1 F2 TL NG NE
      generalize nmd neg xs e = N at *
      go_wp2_with fail
      go_ret2
      exact F.out _ (below_on B1.out (alloc_b _ _))
    | true =>
      have hnm := of_decide_eq_true hb
      have G1 := hid (F1.out hnm)
      have G2 := hid (F2.out hnm)
      have T1 := hid (TL.out hnm)
      have B2 := hid (below_on B1.out (alloc_b w1 (.cells #[.bool (nmd neg xs e).neg, .string t, .int .i64 (nmd neg xs e).e] 35)))
      have Z2 := hid (Z1.out.below (alloc_b w1 (.cells #[.bool (nmd neg xs e).neg, .string t, .int .i64 (nmd neg xs e).e] 35)) lt1)
      clear hB ht hd E0 hb hnm NM Z Z1 F0 F1 F2 TL NE B1
      generalize nmd neg xs e = N at *
      have b2 := B2.out
      go_upto_region 4 with fail
      generalize (w1.alloc (.cells #[.bool N.neg, .string t, .int .i64 N.e] 35)) = w2 at *
      clear c0 c1 c2
      obtain ⟨⟨c0, c1, c2⟩, _⟩ := Z2.out.cells
      go_wp2_with fail
      with_reducible refine (T1.out _ b2).mono ?_
      rintro r w3 ⟨x, sr, rfl, TI, hB3⟩
      have Z3 := hid (Z2.out.below hB3 Z2.out.lt)
      have B3 := hid (below_on b2 hB3)
      have xb := TI.bd
      clear b2 c0 c1 c2 hB3 EQ T1
      obtain ⟨⟨c0, c1, c2⟩, _⟩ := Z3.out.cells
      cases sr with
      | false =>
        have F := hid (G2.out x w3 TI B3.out)
        clear TI G1 G2 NG
        go_wp2_with fail
        go_ret2
        exact F.out
      | true =>
        have F := hid (G1.out x w3 TI B3.out)
        clear TI G1 G2
        cases neg with
        | false =>
          clear NG
          go_wp2_with fail
          go_ret2
          exact F.out
        | true =>
          have N1 := hid (NG.out x w3 xb.1 (by omega))
          rw [show Ie.ng x = Ie.sg true x by unfold Ie.ng Ie.sg; rw [if_pos (by omega), if_pos rfl]] at N1
          clear NG
          go_wp2_with fail
          with_reducible refine N1.out.mono ?_
          rintro r w4 ⟨rfl, rfl⟩
          go_wp2_with fail
          go_ret2
          exact F.out
  · have E0 : errOf xs e = 80 := by unfold errOf; rw [if_neg hd]
    have F := hid (F0.out (fun c => hd c.1))
    rw [E0]
    clear hB ht hd E0 NM Z Z1 F0 F1 F2 TL NG NE
    generalize nmd neg xs e = N at *
    go_wp2_with fail
    go_ret2
    exact F.out _ (below_on B1.out (alloc_b _ _))
end Go.Proofs.YthefpclblejbgaaGreatDoor

namespace Go.Proofs.YthefpclblejbgaaGreatDoor
open Go.RowKit Go.Deep

def OwnB (w : World) (g : Nat) (zs : List Int) : Prop := w.heap[g]? = some (.cells (zs.map (Value.int .u8)).toArray 5 (0, 0))

theorem OwnB.cell {w : World} {g : Nat} {zs : List Int} (h : OwnB w g zs) (i : Nat) (hi : i < zs.length) : w.cell? ⟨g, i, none⟩ = some (.int .u8 (zs.getD i 0)) := by
  simp only [OwnB] at h
  simp [World.cell?, h, List.getD, hi]

theorem OwnB.free {w : World} {g : Nat} {zs : List Int} (h : OwnB w g zs) (i : Nat) : w.frozen? ⟨g, i, none⟩ = false := by
  simp only [OwnB] at h
  simp [World.frozen?, h]

theorem OwnB.lt {w : World} {g : Nat} {zs : List Int} (h : OwnB w g zs) : g < w.heap.size := by
  rcases Nat.lt_or_ge g w.heap.size with hl | hl
  · exact hl
  · simp [OwnB, Array.getElem?_eq_none hl] at h

theorem OwnB.set {w : World} {g : Nat} {zs : List Int} (h : OwnB w g zs) (i : Nat) (s : Int) : OwnB (w.setCell ⟨g, i, none⟩ (.int .u8 s)) g (zs.set i s) := by
  have hl := h.lt
  simp only [OwnB] at h ⊢
  simp [World.setCell, Array.getElem?_modify, h, List.map_set]

theorem OwnB.below {w w' : World} {B g : Nat} {zs : List Int} (h : OwnB w g zs) (hb : Below B w w') (hg : g < B) : OwnB w' g zs := by
  simp only [OwnB] at h ⊢
  rw [hb.block g hg, h]

theorem OwnB.drewN {w : World} {g : Nat} {zs : List Int} (h : OwnB w g zs) (n : Nat) : OwnB (w.drewN n) g zs := h

theorem OwnB.alloc (w : World) (zs : List Int) : OwnB (w.alloc (.cells (zs.map (Value.int .u8)).toArray 5)) w.heap.size zs := by
  show (w.heap.push _)[w.heap.size]? = _
  rw [Array.getElem?_push, if_pos rfl]

theorem made_zero8 (n : Nat) : madeCells #[Value.int .u8 0] n = ((List.replicate n (0 : Int)).map (Value.int .u8)).toArray := by
  apply Array.toList_inj.1
  rw [toList_madeCells_one]
  simp

theorem info8 : (Tryz.prog.info? 5).map (fun i => (i.zero, i.size, i.bytes)) = some (some (.int .u8 0), 1, 1) := by kernel_rfl

/-- make([]byte, n). -/
theorem make8 (n : Nat) (h : n ≤ 35184372088832) (w : World) :
    (Instr.makeSlice 23 (.int .i64 (n : Int)) (.int .i64 (n : Int))).run Tryz.prog w = .ok (.slice (some ⟨w.heap.size, 0, none⟩) n n) (w.alloc (.cells (madeCells #[.int .u8 0] n) 5)) :=
  run_make_row' 23 5 (.int .u8 0) 1 Tryz.underlying23 info8 rfl .i64 .i64 n (by omega) (by omega) w

/-- Only the block g, and new ones, have changed. -/
structure Only (g : Nat) (w w' : World) : Prop where
  os : w'.os = w.os
  tape : w'.tape = w.tape
  output : w'.output = w.output
  size : w.heap.size ≤ w'.heap.size
  block : ∀ j, j < w.heap.size → j ≠ g → w'.heap[j]? = w.heap[j]?

theorem Only.refl (g : Nat) (w : World) : Only g w w := ⟨rfl, rfl, rfl, Nat.le_refl _, fun _ _ _ => rfl⟩
theorem Only.trans {g : Nat} {a b c : World} (h : Only g a b) (k : Only g b c) : Only g a c :=
  ⟨k.os.trans h.os, k.tape.trans h.tape, k.output.trans h.output, Nat.le_trans h.size k.size, fun i hi hs => (k.block i (Nat.lt_of_lt_of_le hi h.size) hs).trans (h.block i hi hs)⟩
theorem Only.of_below {g : Nat} {a b : World} (h : Below a.heap.size a b) : Only g a b := ⟨h.os, h.tape, h.output, h.size, fun i hi _ => h.block i hi⟩
theorem Only.below {g B : Nat} {a b : World} (h : Only g a b) (hg : B ≤ g) (hB : B ≤ a.heap.size) : Below B a b := ⟨h.os, h.tape, h.output, h.size, fun i hi => h.block i (by omega) (by omega)⟩
theorem Only.set {w : World} {g : Nat} (i : Nat) (v : Value) : Only g w (w.setCell ⟨g, i, none⟩ v) := by
  refine ⟨rfl, rfl, rfl, by simp [World.setCell], fun j _ hne => ?_⟩
  simp only [World.setCell, Array.getElem?_modify]
  rw [if_neg (fun h => hne h.symm)]
theorem Only.drewN {g : Nat} {a b : World} (h : Only g a b) (n : Nat) : Only g a (b.drewN n) := ⟨h.os, h.tape, h.output, h.size, h.block⟩
theorem Only.cell {g : Nat} {a b : World} (h : Only g a b) {p : Addr} {v : Value} (hc : a.cell? p = some v) (hp : p.block ≠ g) : b.cell? p = some v := by
  have := h.block p.block (cell_lt hc) hp
  rw [← hc]
  simp only [World.cell?, this]

theorem Lies.only {w w' : World} {g : Nat} {p : Option Addr} {zs : List Int} (h : Lies w p zs) (k : Only g w w') (hp : ∀ a, p = some a → a.block ≠ g) : Lies w' p zs := by
  rcases h with h | ⟨b, off, rfl, h⟩
  · exact .inl h
  · exact .inr ⟨b, off, rfl, fun i hi => k.cell (h i hi) (hp ⟨b, off, none⟩ rfl)⟩

theorem Arg.only {w w' : World} {g : Nat} {p : Option Addr} {n cap : Nat} {zs : List Int} (h : Arg w p n cap zs) (k : Only g w w') (hp : ∀ a, p = some a → a.block ≠ g) : Arg w' p n cap zs := ⟨h.1, h.2.1, h.2.2.1, h.2.2.2.1.only k hp, h.2.2.2.2⟩

/-- Digits written into a row of bytes, from a place on. -/
def put (ds : List Int) (o : Nat) (xs : List Int) : List Int := ds.take o ++ xs ++ ds.drop (o + xs.length)

theorem put_length (ds : List Int) (o : Nat) (xs : List Int) (h : o + xs.length ≤ ds.length) : (put ds o xs).length = ds.length := by
  simp [put]
  omega

theorem put_nil (ds : List Int) (o : Nat) : put ds o [] = ds := by simp [put]

/-- One more at the head. -/
theorem put_head (ds : List Int) (o : Nat) (x : Int) (xs : List Int) (h : o + 1 + xs.length ≤ ds.length) : (put ds (o + 1) xs).set o x = put ds o (x :: xs) := by
  have h1 : ds.take (o + 1) = ds.take o ++ [ds.getD o 0] := by
    rw [List.take_add_one]
    simp [List.getElem?_eq_getElem (show o < ds.length by omega)]
  simp only [put, h1, List.length_cons]
  rw [List.append_assoc, List.append_assoc, List.set_append_right _ _ (by simp; omega)]
  simp [show min o ds.length = o by omega, show o + 1 + xs.length = o + (xs.length + 1) by omega]

/-- Two rows side by side. -/
theorem put_two (ds : List Int) (o : Nat) (xs ys : List Int) (h : o + xs.length + ys.length ≤ ds.length) : put (put ds o xs) (o + xs.length) ys = put ds o (xs ++ ys) := by
  have hl : (ds.take o ++ xs).length = o + xs.length := by simp; omega
  simp only [put]
  rw [List.take_append_of_le_length (by omega), List.take_of_length_le (by omega), ← hl, List.drop_append, List.drop_of_length_le (by omega), List.nil_append, List.drop_drop]
  simp only [hl, List.length_append, List.append_assoc]
  congr 4
  omega
end Go.Proofs.YthefpclblejbgaaGreatDoor



namespace Go.Proofs.YthefpclblejbgaaGreatDoor
open Go.RowKit Go.Deep

/-- What a byte counts as a digit; 36 if it is none. -/
def wv (x : Int) : Int := if 48 ≤ x ∧ x ≤ 57 then x - 48 else if 97 ≤ x ∧ x ≤ 122 then x - 97 + 10 else if 65 ≤ x ∧ x ≤ 90 then x - 65 + 10 else 36

theorem wv_bd (x : Int) : 0 ≤ wv x ∧ wv x ≤ 36 := by
  unfold wv
  split
  · omega
  · split
    · omega
    · split <;> omega

theorem dret_u64 {a b : Int} (h : a = b) : Ending.returned (.int .u64 a) = .returned (.int .u64 b) := by rw [h]

set_option maxRecDepth 100000 in
theorem worth_any (x : Int) (w : World) (h0 : 0 ≤ x) (h1 : x < 256) :
    Calls Tryz.prog 181 #[.int .u8 x] w fun e w' => e = .returned (.int .u64 (wv x)) ∧ w' = w := by
  by_cases a1 : 48 ≤ x ∧ x ≤ 57
  · have E : Hid (x - 48 = wv x) := by show _ = _; rw [wv, if_pos a1]
    obtain ⟨a1, a2⟩ := a1
    go_enter Tryz.func181, Tryz.ntmps181
    go_wp2
    go_ret
    exact ⟨dret_u64 E.out, rfl⟩
  by_cases a2 : 97 ≤ x ∧ x ≤ 122
  · have E : Hid (x - 97 + 10 = wv x) := by show _ = _; rw [wv, if_neg a1, if_pos a2]
    obtain ⟨a3, a4⟩ := a2
    clear a1
    go_enter Tryz.func181, Tryz.ntmps181
    go_wp2
    go_ret
    exact ⟨dret_u64 E.out, rfl⟩
  by_cases a3 : 65 ≤ x ∧ x ≤ 90
  · have E : Hid (x - 65 + 10 = wv x) := by show _ = _; rw [wv, if_neg a1, if_neg a2, if_pos a3]
    obtain ⟨a5, a6⟩ := a3
    clear a1 a2
    go_enter Tryz.func181, Tryz.ntmps181
    go_wp2
    go_ret
    exact ⟨dret_u64 E.out, rfl⟩
  · have E : Hid (36 = wv x) := by show _ = _; rw [wv, if_neg a1, if_neg a2, if_neg a3]
    rcases (show x < 48 ∨ (57 < x ∧ x < 65) ∨ (90 < x ∧ x < 97) ∨ 122 < x by omega) with h | ⟨h, k⟩ | ⟨h, k⟩ | h <;> clear a1 a2 a3
    · go_enter Tryz.func181, Tryz.ntmps181
      go_wp2
      go_ret
      exact ⟨dret_u64 E.out, rfl⟩
    · go_enter Tryz.func181, Tryz.ntmps181
      go_wp2
      go_ret
      exact ⟨dret_u64 E.out, rfl⟩
    · go_enter Tryz.func181, Tryz.ntmps181
      go_wp2
      go_ret
      exact ⟨dret_u64 E.out, rfl⟩
    · go_enter Tryz.func181, Tryz.ntmps181
      go_wp2
      go_ret
      exact ⟨dret_u64 E.out, rfl⟩

/-- What wrong tells. -/
inductive WrongIs (xs : List Int) (B : Int) : Int → Prop
  | none : (∀ i, i < xs.length → wv (xs.getD i 0) < B) → WrongIs xs B (-1)
  | here (t : Nat) : t < xs.length → (∀ i, i < t → wv (xs.getD i 0) < B) → B ≤ wv (xs.getD t 0) → WrongIs xs B (t : Int)

set_option maxRecDepth 100000 in
set_option maxHeartbeats 1000000 in
theorem wrong_any (s : ByteArray) (xs : List Int) (n : Nat) (B : Int) (w : World) (hs : Str s xs) (hn : xs.length = n) (hn1 : n ≤ 140737488355328) :
    Calls Tryz.prog 179 #[.string s, .int .u64 B] w fun e w' => (∃ r, e = .returned (.int .i64 r) ∧ WrongIs xs B r) ∧ w' = w := by
  have hsz : s.size = n := by rw [hs.size, hn]
  have HS := hid hs
  have HN := hid hn
  clear hs hn
  go_enter Tryz.func179, Tryz.ntmps179
  go_wp2_with fail
  go_loop [5, 8] (fun _ c => ∃ j : Nat, c = .int .i64 (j : Int) ∧ j ≤ n ∧ Hid (∀ i, i < j → wv (xs.getD i 0) < B)) (fun _ c => n - (intOf c).toNat)
  case atStart => exact ⟨0, rfl, Nat.zero_le _, fun i hi => by omega⟩
  case round =>
    obtain ⟨j, rfl, hj, I⟩ := hrel
    by_cases hlt : j < n
    · have hji : (j : Int) < (n : Int) := by omega
      obtain ⟨x, X⟩ : ∃ x, Hid (xs.getD j 0 = x) := ⟨_, rfl⟩
      have hx : ∀ h : j < s.size, ((s[j]'h).toNat : Int) = x := fun h => by rw [HS.out.at j h, X.out]
      have hxb := HS.out.atb j
      rw [X.out] at hxb
      obtain ⟨hx0, hx1⟩ := hxb
      obtain ⟨v, V⟩ : ∃ v, Hid (wv x = v) := ⟨_, rfl⟩
      have WO := hid (worth_any x w hx0 hx1)
      rw [V.out] at WO
      have hv0 : 0 ≤ v := by have := (wv_bd x).1; have := V.out; omega
      have hv1 : v ≤ 36 := by have := (wv_bd x).2; have := V.out; omega
      by_cases hd : v < B
      · go_wp2_with fail
        refine WO.out.mono ?_
        rintro e w' ⟨rfl, rfl⟩
        have I2 : Hid (∀ i, i < j + 1 → wv (xs.getD i 0) < B) := fun i hi => by
          by_cases e : i = j
          · subst e; rw [X.out, V.out]; exact hd
          · exact I.out i (by omega)
        clear I WO
        go_wp2_with fail
        go_round
        case rel => exact ⟨j + 1, by go_num, by omega, I2.out⟩
        case measure => simp [intOf]; omega
      · have F : Hid (WrongIs xs B (j : Int)) := .here j (by have := HN.out; omega) I.out (by rw [X.out, V.out]; omega)
        clear I
        go_wp2_with fail
        refine WO.out.mono ?_
        rintro e w' ⟨rfl, rfl⟩
        clear WO
        go_wp2_with fail
        go_ret
        exact ⟨⟨_, rfl, F.out⟩, rfl⟩
    · obtain rfl : j = n := by omega
      have F : Hid (WrongIs xs B (-1)) := .none (fun i hi => I.out i (by have := HN.out; omega))
      clear I
      go_wp2_with fail
      go_ret
      exact ⟨⟨_, rfl, F.out⟩, rfl⟩
end Go.Proofs.YthefpclblejbgaaGreatDoor

namespace Go.Proofs.YthefpclblejbgaaGreatDoor
open Go.RowKit Go.Deep

structure ShutG (p : Prop) : Prop where
  out : p

/-- So many digits a limb holds. -/
theorem few64 {B : Int} {W : Nat} (hB : 2 ≤ B) (h : B ^ W < 18446744073709551616) : W ≤ 63 := by
  have := Ln.small (A := B ^ W) (L := 64) hB (Int.le_refl _) (by rw [show (2 : Int) ^ 64 = 18446744073709551616 by decide]; exact h)
  omega

set_option maxRecDepth 100000 in
set_option maxHeartbeats 1000000 in
theorem group_any (B : Int) (w : World) (h2 : 2 ≤ B) (h36 : B ≤ 36) :
    Calls Tryz.prog 182 #[.int .u64 B] w fun e w' => (∃ (W : Nat) (P : Int), e = .returned (.tuple #[.int .u64 P, .int .i64 (W : Int)]) ∧ P = B ^ W ∧ 1 ≤ W ∧ W ≤ 63 ∧ P < 18446744073709551616) ∧ w' = w := by
  have hB0 : (B == 0) = false := by rw [beq_eq_false_iff_ne]; omega
  go_enter Tryz.func182, Tryz.ntmps182
  go_wp2_with fail
  go_loop [4, 5] (fun p c => ∃ (P : Int) (W : Nat), p = .int .u64 P ∧ c = .int .i64 (W : Int) ∧ 1 ≤ P ∧ P ≤ 18446744073709551615 ∧ Hid (P = B ^ W ∧ 1 ≤ W ∧ W ≤ 63)) (fun _ c => 64 - (intOf c).toNat)
  case atStart => exact ⟨B, 1, rfl, rfl, by omega, by omega, by rw [Int.pow_succ, Int.pow_zero, Int.one_mul], by omega, by omega⟩
  case round =>
    obtain ⟨P, W, rfl, rfl, hP1, hP2, F⟩ := hrel
    have hW : (W : Int) ≤ 63 := by have := F.out.2.2; omega
    by_cases hle : P ≤ 18446744073709551615 / B
    · have hm : P * B ≤ 18446744073709551615 := (Int.le_ediv_iff_mul_le (by omega)).1 hle
      have hm0 : 0 ≤ P * B := Int.mul_nonneg (by omega) (by omega)
      have hm1 : 1 ≤ P * B := by have := Int.mul_le_mul (a := 1) (b := 1) hP1 (show 1 ≤ B by omega) (by omega) (by omega); omega
      have q1 : IntKind.u64.wrap (P * B) = P * B := by rw [IntKind.wrap_u64]; omega
      have W2 : Hid (W + 1 ≤ 63) := few64 h2 (by rw [Int.pow_succ, ← F.out.1]; omega)
      have HM := hid hm
      have HM1 := hid hm1
      clear hm hm0 hm1
      go_wp2_with fail
      go_round
      case rel => exact ⟨P * B, W + 1, rfl, by go_num, HM1.out, HM.out, by rw [Int.pow_succ, ← F.out.1], by omega, W2.out⟩
      case measure => simp [intOf]; have := F.out.2; omega
    · go_wp2_with fail
      go_ret2
      exact ⟨⟨W, P, rfl, F.out.1, F.out.2.1, F.out.2.2, by omega⟩, rfl⟩
end Go.Proofs.YthefpclblejbgaaGreatDoor

namespace Go.Proofs.YthefpclblejbgaaGreatDoor
open Go.RowKit Go.Deep

theorem bytes_cells {s : ByteArray} {xs : List Int} (hs : Str s xs) (w : World) (cap : Nat) (fr : Nat × Nat) (i : Nat) (hi : i < xs.length) : (w.drew.alloc (.cells (bytesRow s cap) 5 fr)).cell? ⟨w.heap.size, i, none⟩ = some (.int .u8 (xs.getD i 0)) := by
  have h1 := World.cell?_alloc_mark w.drew (bytesRow s cap) 5 fr i
  have hi2 : i < s.data.size := by have := hs.size; have e : s.size = s.data.size := rfl; omega
  rw [show w.drew.heap.size = w.heap.size from rfl, bytesRow_at s cap i hi2] at h1
  rw [h1, ← hs.at i hi2]
  rfl

theorem tv_take_succ (B : Int) (ys : List Int) (j : Nat) (hj : j < ys.length) : Dn.tv B 0 (ys.take (j + 1)) = Dn.tv B 0 (ys.take j) * B + ys.getD j 0 := by
  rw [List.take_add_one, List.getElem?_eq_getElem hj, Dn.tv_append]
  simp [Dn.tv, List.getD, hj]

set_option maxRecDepth 100000 in
set_option maxHeartbeats 1000000 in
theorem limb_any (s : ByteArray) (xs : List Int) (n W : Nat) (B : Int) (w : World) (hs : Str s xs) (hn : xs.length = n) (hnW : n ≤ W) (hW : W ≤ 63) (h2 : 2 ≤ B) (h36 : B ≤ 36) (hBW : B ^ W < 18446744073709551616) (hd : ∀ i, i < xs.length → wv (xs.getD i 0) < B) :
    Calls Tryz.prog 184 #[.string s, .int .u64 B] w fun e w' => e = .returned (.int .u64 (Dn.tv B 0 (xs.map wv))) ∧ Below w.heap.size w w' := by
  have CV := run_bytes_of_string (P := Tryz.prog) w 9 23 5 s Tryz.underlying9 Tryz.underlying23 Tryz.underlying5
  have hsz : s.size = n := by rw [hs.size, hn]
  rw [hsz] at CV
  obtain ⟨cap, hcap⟩ : ∃ cap, grownCap w n 0 5 = cap := ⟨_, rfl⟩
  rw [hcap] at CV
  have CE := hid (fun i hi => bytes_cells hs w cap ((bytesRow s cap).size, (bytesRow s cap).size + 1) i hi)
  have BW : Below w.heap.size w (w.drew.alloc (.cells (bytesRow s cap) 5 ((bytesRow s cap).size, (bytesRow s cap).size + 1))) := (below_drewN (Below.refl _ _) 1).alloc (Nat.le_refl _) _
  obtain ⟨w1, hw1⟩ : ∃ w1, w.drew.alloc (.cells (bytesRow s cap) 5 ((bytesRow s cap).size, (bytesRow s cap).size + 1)) = w1 := ⟨_, rfl⟩
  rw [hw1] at CV CE BW
  have HS := hid hs
  have HN := hid hn
  have HD := hid hd
  have D1 := hid BW
  have HB : ShutG (B ^ W < 18446744073709551616) := ⟨hBW⟩
  clear hs hn hd BW hw1 hcap hBW
  go_enter Tryz.func184, Tryz.ntmps184
  go_wp2_with fail
  go_loop [5, 7, 11] (fun a _ c => ∃ (j : Nat) (A : Int), a = .int .u64 A ∧ c = .int .i64 (j : Int) ∧ j ≤ n ∧ Hid (A = Dn.tv B 0 ((xs.map wv).take j))) (fun _ _ c => n - (intOf c).toNat)
  case atStart => exact ⟨0, 0, rfl, rfl, Nat.zero_le _, by simp [Hid, Dn.tv]⟩
  case round =>
    obtain ⟨j, A, rfl, rfl, hj, I⟩ := hrel
    have hn63 : (n : Int) ≤ 63 := by omega
    by_cases hlt : j < n
    · have hji : (j : Int) < (n : Int) := by omega
      obtain ⟨x, hx, X⟩ : ∃ x, w1.cell? ⟨w.heap.size, j, none⟩ = some (.int .u8 x) ∧ Hid (x = xs.getD j 0) := ⟨_, CE.out j (by have := HN.out; omega), rfl⟩
      have hxb := HS.out.atb j
      rw [← X.out] at hxb
      obtain ⟨v, V⟩ : ∃ v, Hid (wv x = v) := ⟨_, rfl⟩
      have WO := hid (worth_any x w1 hxb.1 hxb.2)
      rw [V.out] at WO
      have hv0 : 0 ≤ v := by have := (wv_bd x).1; have := V.out; omega
      have ST := tv_take_succ B (xs.map wv) j (by have := HN.out; simp; omega)
      have e0 : (xs.map wv).getD j 0 = v := by
        rw [← V.out, X.out]
        have : j < xs.length := by have := HN.out; omega
        simp [List.getD, this]
      rw [e0, ← I.out] at ST
      have dig : ∀ d ∈ (xs.map wv), 0 ≤ d ∧ d < B := by
        intro d hd
        obtain ⟨y, hy, rfl⟩ := List.mem_map.1 hd
        obtain ⟨i, hi, rfl⟩ := List.getElem_of_mem hy
        have := HD.out i hi
        simp only [List.getD, List.getElem?_eq_getElem hi, Option.getD_some] at this
        exact ⟨(wv_bd _).1, this⟩
      have hA0 : 0 ≤ A := by rw [I.out]; exact Dn.tv_nonneg (by omega) 0 _ (by omega) (fun d hd => (dig d (List.mem_of_mem_take hd)).1)
      have hlt2 : A * B + v < 18446744073709551616 := by
        rw [← ST]
        have h1 := Dn.tv_lt (show 0 < B by omega) ((xs.map wv).take (j + 1)) (fun d hd => dig d (List.mem_of_mem_take hd))
        have h3 := Pn.pow_mono (show 1 ≤ B by omega) (show ((xs.map wv).take (j + 1)).length ≤ W by simp; omega)
        have h4 := HB.out
        omega
      have hC0 : 0 ≤ A * B := Int.mul_nonneg hA0 (by omega)
      obtain ⟨C, HC⟩ : ∃ C, Hid (A * B = C) := ⟨_, rfl⟩
      rw [HC.out] at hlt2 hC0 ST
      have q1 : IntKind.u64.wrap (A * B) = C := by rw [HC.out, IntKind.wrap_u64]; omega
      have I2 := hid ST.symm
      clear I ST dig e0 hxb
      go_wp2_with fail
      refine WO.out.mono ?_
      rintro e w' ⟨rfl, rfl⟩
      clear WO
      go_wp2_with fail
      go_round
      case rel => exact ⟨j + 1, C + v, rfl, by go_num, by omega, I2.out⟩
      case measure => simp [intOf]; omega
    · obtain rfl : j = n := by omega
      have F : Hid (A = Dn.tv B 0 (xs.map wv)) := by
        have := I.out
        rw [List.take_of_length_le (by have := HN.out; simp; omega)] at this
        exact this
      clear I
      go_wp2_with fail
      go_ret
      exact ⟨by rw [← F.out]; rfl, D1.out⟩
end Go.Proofs.YthefpclblejbgaaGreatDoor



namespace Go.Proofs.YthefpclblejbgaaGreatDoor
open Go.RowKit Go.Deep

/-- The limbs of one round. -/
theorem ma_step {x m c p l h s k : Int} (hp : l + 18446744073709551616 * h = p) (hl : 0 ≤ l ∧ l < 18446744073709551616) (hh : 0 ≤ h) (hx : 0 ≤ x ∧ x < 18446744073709551616) (hm : 0 ≤ m ∧ m < 18446744073709551616) (hxm : p = x * m)
    (hc : 0 ≤ c ∧ c < 18446744073709551616) (e1 : s = (l + c + 0) % 18446744073709551616) (e2 : k = (l + c + 0) / 18446744073709551616) :
    (0 ≤ s ∧ s < 18446744073709551616) ∧ (0 ≤ h + k ∧ h + k < 18446744073709551616) ∧ s + 18446744073709551616 * (h + k) = x * m + c := by
  have hb : x * m ≤ 18446744073709551615 * 18446744073709551615 := Int.mul_le_mul (by omega) (by omega) (by omega) (by omega)
  rw [← hxm] at hb ⊢
  clear hxm
  omega

set_option maxRecDepth 100000 in
set_option maxHeartbeats 1000000 in
/-- The loop of MulAdd, whatever the size of the answer. -/
theorem mulAdd_any (p : Option Addr) (n cap : Nat) (zs : List Int) (m c : Int) (w : World) (ha : Arg w p n cap zs) (tz : Nm.tsize zs ≤ 4096) (hm0 : 0 ≤ m) (hm1 : m < 18446744073709551616) (hc0 : 0 ≤ c) (hc1 : c < 18446744073709551616) :
    Calls Tryz.prog 183 #[.slice p n cap, .int .u64 m, .int .u64 c] w fun e w' =>
      (Nm.val zs * m + c < Nm.pw 4096 → ∃ r os, e = .returned (.tuple #[.slice r (List.length os) (List.length os), .int .i64 0]) ∧ Ans w.heap.size w' r os (Nm.val zs * m + c)) ∧
      (Nm.pw 4096 ≤ Nm.val zs * m + c → e = .returned (.tuple #[.slice none 0 0, .int .i64 2])) ∧ Below w.heap.size w w' := by
  obtain ⟨a1, a2, a3, a4, a5⟩ := ha
  obtain ⟨N, HN⟩ : ∃ N, Hid (Nm.tsize zs = N) := ⟨_, rfl⟩
  have T1 := limited_ok p n cap zs w a1 a2 (by omega) a4 tz
  rw [HN.out] at T1
  have hN : N ≤ 4096 := by rw [← HN.out]; exact tz
  have L1 := hid ((Nm.trim_length zs).trans HN.out)
  have hmk := make64 (N + 1) (by omega) w
  have em : ((N + 1 : Nat) : Int) = (N : Int) + 1 := by omega
  rw [em] at hmk
  clear em
  have ho : Own (w.alloc (.cells (madeCells #[.int .u64 0] (N + 1)) 27)) w.heap.size (List.replicate (N + 1) 0) := by
    rw [made_zero]; exact Own.alloc w _
  have hb0 : Below w.heap.size w (w.alloc (.cells (madeCells #[.int .u64 0] (N + 1)) 27)) := (Below.refl _ _).alloc (Nat.le_refl _) _
  obtain ⟨W0, hW0⟩ : ∃ W0, w.alloc (.cells (madeCells #[.int .u64 0] (N + 1)) 27) = W0 := ⟨_, rfl⟩
  have HB0 : Hid (Below w.heap.size w W0) := by rw [← hW0]; exact hb0
  have I0 : MaInv w.heap.size (N + 1) W0 (Nm.val ((Nm.trim zs).take 0) * m + c) 0 c (List.replicate (N + 1) 0) W0 := by
    rw [← hW0]
    exact ⟨⟨ho, by simp, Nm.Limbs.replicate _, by simp [Nm.val_replicate, Nm.val, Nm.pw], Below.refl _ _, rfl⟩, ⟨hc0, hc1⟩, fun i _ => getD_replicate _ _⟩
  have A5 := hid a5.trim
  have A4 := hid a4.trim
  have V := hid (Nm.val_trim zs)
  have HT := hid T1
  clear T1 tz ho hb0 a4 a5
  rw [hW0] at hmk
  clear hW0
  have fin : ∀ (os : List Int) (cc : Int) (wr : World), MaInv w.heap.size (N + 1) W0 (Nm.val (Nm.trim zs) * m + c) N cc os wr → Own (wr.setCell ⟨w.heap.size, N, none⟩ (.int .u64 cc)) w.heap.size (os.set N cc) ∧ (os.set N cc).length = N + 1 ∧ Nm.Limbs (os.set N cc) ∧ Nm.val (os.set N cc) = Nm.val zs * m + c ∧ Below w.heap.size w (wr.setCell ⟨w.heap.size, N, none⟩ (.int .u64 cc)) := by
    intro os cc wr I
    obtain ⟨⟨i1, i2, i3, i4, i5, i6⟩, i7, i8⟩ := I
    refine ⟨i1.set _ _, by simpa using i2, i3.set _ i7.1 i7.2, ?_, HB0.out.trans (i5.setCell (Nat.le_refl _) _)⟩
    rw [Nm.val_set _ _ _ (by omega), i8 N (Nat.le_refl _), Int.sub_zero, i4, V.out]
  have FIN := hid fin
  clear fin
  by_cases h0 : N = 0
  · subst h0
    have hx : Nm.trim zs = [] := List.eq_nil_of_length_eq_zero L1.out
    rw [show (Nm.trim zs).take 0 = Nm.trim zs by rw [hx]; rfl] at I0
    have F := FIN.out _ _ _ I0
    obtain ⟨y, hy⟩ : ∃ y, W0.cell? ⟨w.heap.size, 0, none⟩ = some (.int .u64 y) := ⟨_, I0.1.1.cell 0 (by simp)⟩
    have hfr := I0.1.1.free 0
    have HF := hid F
    clear F I0 hx
    have hmk1 : (Instr.makeSlice 78 (.int .i64 1) (.int .i64 1)).run Tryz.prog w = .ok (.slice (some ⟨w.heap.size, 0, none⟩) 1 1) W0 := hmk
    clear hmk
    go_enter Tryz.func183, Tryz.ntmps183
    go_wp2_with fail
    refine HT.out.mono ?_
    rintro e w' ⟨rfl, rfl⟩
    go_wp2_with fail
    refine wp_loop_rounds 1 ?_
    rw [rounds_succ]
    go_wp2_with fail
    obtain ⟨f1, f2, f3, f4, f5⟩ := HF.out
    by_cases hbig : Nm.val zs * m + c < Nm.pw 4096
    · refine (limited_own w'.heap.size (0 + 1) _ _ f2 (by omega) f1 f3 w'.heap.size (Nat.le_refl _) (by rw [f4]; exact hbig)).mono ?_
      rintro e w3 ⟨r, xs, rfl, hans, rfl⟩
      rw [f4] at hans
      have HA := hid hans
      have HB := hid hbig
      clear hans f1 f2 f3 f4 f5 hbig
      go_wp2_with fail
      go_ret2
      exact ⟨fun _ => ⟨r, xs, rfl, HA.out⟩, fun h => by have := HB.out; omega, HF.out.2.2.2.2⟩
    · refine (limited_own_big w'.heap.size (0 + 1) _ _ f2 (by omega) f1 f3 (by rw [f4]; omega)).mono ?_
      rintro e w3 ⟨rfl, rfl⟩
      have HB := hid hbig
      clear f1 f2 f3 f4 f5 hbig
      go_wp2_with fail
      go_ret2
      exact ⟨fun h => by have := HB.out; omega, fun _ => rfl, HF.out.2.2.2.2⟩
  · obtain ⟨b, off, rfl, hbw, HC⟩ := A4.out.at (by rw [L1.out]; omega)
    go_enter Tryz.func183, Tryz.ntmps183
    go_wp2_with fail
    refine HT.out.mono ?_
    rintro e w' ⟨rfl, rfl⟩
    go_wp2_with fail
    go_loopw [10, 31] (fun a i wr => ∃ (j : Nat) (cc : Int) (os : List Int), j ≤ N ∧ i = .int .i64 j ∧ a = .int .u64 cc ∧ MaInv w'.heap.size (N + 1) W0 (Nm.val ((Nm.trim zs).take j) * m + c) j cc os wr) (fun _ i _ => N - (intOf i).toNat)
    case atStart => exact ⟨0, c, _, Nat.zero_le _, rfl, rfl, I0⟩
    case round =>
      clear I0 hmk
      obtain ⟨j, cc, os, hj, rfl, rfl, I⟩ := hrel
      by_cases hlt : j < N
      · obtain ⟨x, hx, X⟩ : ∃ x, wr.cell? ⟨b, off + j, none⟩ = some (.int .u64 x) ∧ Hid (x = (Nm.trim zs).getD j 0) :=
          ⟨_, ((HB0.out.trans I.1.2.2.2.2.1).cell (p := ⟨b, off + j, none⟩) hbw).trans (HC.out j (by rw [L1.out]; exact hlt)), rfl⟩
        have hx0 := A5.out.at j
        rw [← X.out] at hx0
        obtain ⟨hx0, hx1⟩ := hx0
        obtain ⟨y, hyc⟩ : ∃ y, wr.cell? ⟨w'.heap.size, j, none⟩ = some (.int .u64 y) := ⟨_, I.1.1.cell j (by have := I.1.2.1; omega)⟩
        have hfr := I.1.1.free j
        obtain ⟨hcc0, hcc1⟩ := I.2.1
        go_wp2_with fail
        refine (mul64 x m hx0 hx1 hm0 hm1 _).mono ?_
        rintro e w2 ⟨h, l, rfl, ⟨hh0, hh1, hl0, hl1⟩, P1, _, rfl⟩
        obtain ⟨s1, S1⟩ : ∃ s, Hid (s = (l + cc + 0) % 18446744073709551616) := ⟨_, rfl⟩
        obtain ⟨k1, K1⟩ : ∃ c, Hid (c = (l + cc + 0) / 18446744073709551616) := ⟨_, rfl⟩
        have ST := hid (ma_step P1.out ⟨hl0, hl1⟩ hh0 ⟨hx0, hx1⟩ ⟨hm0, hm1⟩ rfl ⟨hcc0, hcc1⟩ S1.out K1.out)
        have hk1 : 0 ≤ k1 := by have := K1.out; omega
        have hkk : h + k1 < 18446744073709551616 := ST.out.2.1.2
        go_wp2_with (simp only [add64' l cc 0 s1 k1 hl0 hcc0 (Int.le_refl 0) (by decide) S1.out K1.out])
        go_roundw
        case rel =>
          have hst := I.step (by omega) (x := x * m) (s := s1) (c' := h + k1) ST.out.1 ST.out.2.1 ST.out.2.2
          refine ⟨j + 1, h + k1, os.set j s1, by omega, by go_num, rfl, ?_⟩
          have e : Nm.val ((Nm.trim zs).take (j + 1)) * m + c = Nm.val ((Nm.trim zs).take j) * m + c + Nm.pw j * (x * m) := by
            rw [Nm.val_take_succ _ j (by rw [L1.out]; exact hlt), ← X.out, Int.add_mul, Int.mul_assoc]
            omega
          rw [e]
          exact hst
        case measure => simp [intOf]; omega
      · have hjN : j = N := by omega
        subst hjN
        rw [List.take_of_length_le (by rw [L1.out]; omega)] at I
        have F := FIN.out _ _ _ I
        obtain ⟨y, hy⟩ : ∃ y, wr.cell? ⟨w'.heap.size, j, none⟩ = some (.int .u64 y) := ⟨_, I.1.1.cell j (by have := I.1.2.1; omega)⟩
        have hfr := I.1.1.free j
        have HF := hid F
        clear F I
        go_wp2_with fail
        obtain ⟨f1, f2, f3, f4, f5⟩ := HF.out
        by_cases hbig : Nm.val zs * m + c < Nm.pw 4096
        · refine (limited_own w'.heap.size (j + 1) _ _ f2 (by omega) f1 f3 w'.heap.size (Nat.le_refl _) (by rw [f4]; exact hbig)).mono ?_
          rintro e w3 ⟨r, xs, rfl, hans, rfl⟩
          rw [f4] at hans
          have HA := hid hans
          have HB := hid hbig
          clear hans f1 f2 f3 f4 f5 hbig
          go_wp2_with fail
          go_ret2
          exact ⟨fun _ => ⟨r, xs, rfl, HA.out⟩, fun h => by have := HB.out; omega, HF.out.2.2.2.2⟩
        · refine (limited_own_big w'.heap.size (j + 1) _ _ f2 (by omega) f1 f3 (by rw [f4]; omega)).mono ?_
          rintro e w3 ⟨rfl, rfl⟩
          have HB := hid hbig
          clear f1 f2 f3 f4 f5 hbig
          go_wp2_with fail
          go_ret2
          exact ⟨fun h => by have := HB.out; omega, fun _ => rfl, HF.out.2.2.2.2⟩

/-- Of an operand that is too big. -/
theorem mulAdd_big (p : Option Addr) (n cap : Nat) (zs : List Int) (m c : Int) (w : World) (ha : Arg w p n cap zs) (tz : 4096 < Nm.tsize zs) :
    Calls Tryz.prog 183 #[.slice p n cap, .int .u64 m, .int .u64 c] w fun e w' => e = .returned (.tuple #[.slice none 0 0, .int .i64 2]) ∧ w' = w := by
  obtain ⟨a1, a2, a3, a4, a5⟩ := ha
  have HT := hid (limited_big p n cap zs w a1 a2 (by omega) a4 tz)
  go_enter Tryz.func183, Tryz.ntmps183
  go_wp2_with fail
  refine HT.out.mono ?_
  rintro e w' ⟨rfl, rfl⟩
  go_wp2_with fail
  go_ret2
  exact ⟨rfl, rfl⟩
end Go.Proofs.YthefpclblejbgaaGreatDoor
