/-
  quick: natural, tell, Tryz.
-/
import Derived.Test.YthgjflfeilbbbaaGreatDoorKSmall
import Derived.Test.YthgjflfeilbbbaaGreatDoorVAll
import Derived.Test.YthgjflfeilbbbaaGreatDoorIWalk1A
namespace Go.Proofs.YthgjflfeilbbbaaGreatDoor
open Go Go.RowKit Go.Deep

/-- What a row of digits writes. -/
def dw (ds : List Int) : Int := ds.foldl (fun a d => 10 * a + (d - 48)) 0
theorem dw_snoc (ds : List Int) (x : Int) : dw (ds ++ [x]) = 10 * dw ds + (x - 48) := by unfold dw; rw [List.foldl_append]; rfl
def Dig9 (ds : List Int) : Prop := ∀ x ∈ ds, 48 ≤ x ∧ x ≤ 57
theorem take_snoc {ds : List Int} {j : Nat} (h : j < ds.length) : ds.take (j + 1) = ds.take j ++ [ds.getD j 0] := by
  rw [List.take_add_one]
  simp [List.getD, h]
theorem dw_take {ds : List Int} {j : Nat} (h : j < ds.length) : dw (ds.take (j + 1)) = 10 * dw (ds.take j) + (ds.getD j 0 - 48) := by rw [take_snoc h, dw_snoc]
theorem Dig9.at {ds : List Int} (h : Dig9 ds) {j : Nat} (hj : j < ds.length) : 48 ≤ ds.getD j 0 ∧ ds.getD j 0 ≤ 57 := h _ (by simp [List.getD, hj])
theorem dw_bd {ds : List Int} (h : Dig9 ds) : ∀ j, j ≤ ds.length → 0 ≤ dw (ds.take j) ∧ dw (ds.take j) < 10 ^ j
  | 0, _ => by simp [dw]
  | j + 1, hj => by
    have ih := dw_bd h j (by omega)
    have := h.at (show j < ds.length by omega)
    rw [dw_take (by omega), Int.pow_succ]
    omega
theorem ten19 {j : Nat} (h : j ≤ 19) : (10 : Int) ^ j ≤ 10000000000000000000 := by
  have h1 := Nat.pow_le_pow_right (show 0 < 10 by decide) h
  have e : ∀ k : Nat, ((10 ^ k : Nat) : Int) = 10 ^ k := by intro k; simp
  have e1 := e j
  have e2 := e 19
  have e3 : (10 : Int) ^ 19 = 10000000000000000000 := by decide +kernel
  omega

set_option maxRecDepth 100000 in
set_option maxHeartbeats 1000000 in
theorem natural_any9 (s : ByteArray) (xs : List Int) (w : World) (hs : Str s xs) (hd : Dig9 xs) (hn : xs.length ≤ 19) :
    Calls Tryz.prog 59 #[.string s] w fun e w' => e = .returned (.int .u64 (dw xs)) ∧ w' = w := by
  have hsz := hs.size
  have ST : Hid (∀ j, j < xs.length → (∀ ht : j < s.size, ((s[j]'ht).toNat : Int) = xs.getD j 0) ∧ (48 ≤ xs.getD j 0 ∧ xs.getD j 0 ≤ 57) ∧ dw (xs.take (j + 1)) = 10 * dw (xs.take j) + (xs.getD j 0 - 48) ∧ 0 ≤ dw (xs.take j) ∧ dw (xs.take j) < 1000000000000000000) := fun j hj => ⟨hs.at j, hd.at hj, dw_take hj, (dw_bd hd j (by omega)).1, by
    have := (dw_bd hd j (by omega)).2
    have h1 := Nat.pow_le_pow_right (show 0 < 10 by decide) (show j ≤ 18 by omega)
    have e : ∀ k : Nat, ((10 ^ k : Nat) : Int) = 10 ^ k := by intro k; simp
    have e1 := e j
    have e2 := e 18
    have e3 : (10 : Int) ^ 18 = 1000000000000000000 := by decide +kernel
    omega⟩
  have FIN : Hid (∀ j, j ≤ xs.length → ¬ j < xs.length → dw (xs.take j) = dw xs) := fun j h1 h2 => by rw [List.take_of_length_le (by omega)]
  have n1 : (xs.length : Int) ≤ 19 := by omega
  have hz0 : dw (xs.take 0) = 0 := by simp [dw]
  clear hs hd hn
  go_enter Tryz.func59, Tryz.ntmps59
  go_wp2_with fail
  go_loop [3, 7] (fun a i => ∃ (j : Nat) (x : Int), a = .int .u64 x ∧ i = .int .i64 j ∧ Hid (j ≤ xs.length ∧ x = dw (xs.take j))) (fun _ i => xs.length - (intOf i).toNat)
  case atStart => exact ⟨0, 0, rfl, rfl, Nat.zero_le _, hz0.symm⟩
  case round =>
    obtain ⟨j, x, rfl, rfl, I⟩ := hrel
    have hjb : (j : Int) ≤ 19 := by have := I.out.1; omega
    by_cases hj : j < xs.length
    · have hji : (j : Int) < (xs.length : Int) := by omega
      obtain ⟨hx, hd, hst, b0, b1⟩ := ST.out j hj
      have hjs : j < s.size := by omega
      have hxx := I.out.2
      rw [← hxx] at hst b0 b1
      have I2 : Hid (j + 1 ≤ xs.length ∧ 10 * x + (xs.getD j 0 - 48) = dw (xs.take (j + 1))) := ⟨by omega, hst.symm⟩
      clear I hxx hst
      generalize xs.getD j 0 = y at *
      go_wp2_with fail
      go_round
      case rel => exact ⟨j + 1, _, rfl, by go_num, I2.out⟩
      case measure => simp [intOf]; omega
    · have hji : ¬ (j : Int) < (xs.length : Int) := by omega
      have hxx := I.out.2
      rw [FIN.out j I.out.1 hj] at hxx
      subst hxx
      clear I
      go_wp2_with fail
      go_ret
      exact ⟨rfl, rfl⟩

/-- What tell tells of a row of digits. -/
def TellIs (xs : List Int) (e x : Int) (s : Bool) : Prop :=
  (xs.length ≤ 19 ∧ ((dw xs ≤ 9007199254740992 ∧ -22 ≤ e ∧ e ≤ 22 ∧ s = true ∧ Ie.Rnd (dw xs * 10 ^ e.toNat) (10 ^ (-e).toNat) 0 false x) ∨ ((9007199254740992 < dw xs ∨ e < -22 ∨ 22 < e) ∧ Ie.Stq (dw xs) e x s))) ∨
    (19 < xs.length ∧ ∃ x1 s1, Ie.Stq (dw (xs.take 19)) (e + xs.length - 19) x1 s1 ∧ ((s1 = false ∧ x = 0 ∧ s = false) ∨
      (s1 = true ∧ ∃ x2 s2, Ie.Stq (dw (xs.take 19) + 1) (e + xs.length - 19) x2 s2 ∧ ((s2 = true ∧ x2 = x1 ∧ x = x1 ∧ s = true) ∨ (¬ (s2 = true ∧ x2 = x1) ∧ x = 0 ∧ s = false)))))

def TellTold (xs : List Int) (e : Int) (w : World) (r : Ending) (w' : World) : Prop := ∃ x s, r = .returned (.tuple #[.int .u64 x, .bool s]) ∧ TellIs xs e x s ∧ Below w.heap.size w w'

theorem Dig9.take {xs : List Int} (h : Dig9 xs) (k : Nat) : Dig9 (xs.take k) := fun x hx => h x (List.mem_of_mem_take hx)

set_option maxRecDepth 100000 in
set_option maxHeartbeats 1000000 in
theorem tell_any9 (s : ByteArray) (xs : List Int) (e : Int) (w : World) (hT : Tab w) (hX : Tens w) (hs : Str s xs) (hd : Dig9 xs) (hn : xs.length ≤ 281474976710656) (e0 : -1152921504606846976 ≤ e) (e1 : e ≤ 1152921504606846976) :
    Calls Tryz.prog 39 #[.string s, .int .i64 e] w fun r w' => TellTold xs e w r w' := by
  have hsz := hs.size
  by_cases h : xs.length ≤ 19
  · have NA := hid (natural_any9 s xs w hs hd h)
    have bd := dw_bd hd xs.length (Nat.le_refl _)
    rw [List.take_length] at bd
    have t19 := ten19 h
    have BD : Bd (dw xs) := ⟨bd.1, by omega⟩
    have SM := hid (small_any9 (dw xs) e w hT hX BD)
    have SP := hid (fun wx (hb : Below w.heap.size w wx) => step_any9 (dw xs) e wx (hT.below hb) BD)
    have F1 : Hid (∀ x w', Ie.Rnd (dw xs * 10 ^ e.toNat) (10 ^ (-e).toNat) 0 false x → dw xs ≤ 9007199254740992 → -22 ≤ e → e ≤ 22 → Below w.heap.size w w' → TellTold xs e w (.returned (.tuple #[.int .u64 x, .bool true])) w') := fun x w' r a b c k => ⟨x, true, rfl, .inl ⟨h, .inl ⟨a, b, c, rfl, r⟩⟩, k⟩
    have F2 : Hid (∀ x s w', Ie.Stq (dw xs) e x s → (9007199254740992 < dw xs ∨ e < -22 ∨ 22 < e) → Below w.heap.size w w' → TellTold xs e w (.returned (.tuple #[.int .u64 x, .bool s])) w') := fun x s w' r a k => ⟨x, s, rfl, .inl ⟨h, .inr ⟨a, r⟩⟩, k⟩
    have hi : (xs.length : Int) ≤ 19 := by omega
    clear h bd t19 BD hs hd hn hT hX
    go_enter Tryz.func39, Tryz.ntmps39
    go_wp2_with fail
    with_reducible refine NA.out.mono ?_
    rintro r w' ⟨rfl, rfl⟩
    go_wp2_with fail
    with_reducible refine SM.out.mono ?_
    rintro r w1 ⟨⟨a1, a2, a3, x, rfl, R⟩ | ⟨a1, rfl⟩, hB⟩
    · have F := hid (F1.out x w1 R a1 a2 a3 hB)
      clear a1 a2 a3 R hB F1 F2 SM SP NA
      go_wp2_with fail
      go_ret2
      exact F.out
    · have A := hid a1
      have HB := hid hB
      clear a1 F1 SM NA
      go_wp2_with fail
      with_reducible refine (SP.out _ hB).mono ?_
      rintro r w2 ⟨x, sr, rfl, R, hB2⟩
      have F := hid (F2.out x sr w2 R A.out (below_on HB.out hB2))
      clear R hB2 hB F2 SP
      go_wp2_with fail
      go_ret2
      exact F.out
  · have hl : (xs.take 19).length = 19 := by rw [List.length_take]; omega
    have NA := hid (fun (s1 : ByteArray) (hs1 : Str s1 (xs.take 19)) wx => natural_any9 s1 (xs.take 19) wx hs1 (hd.take 19) (by omega))
    have EX := hs.extract 0 19
    have bd := dw_bd hd 19 (by omega)
    have t19 := ten19 (show 19 ≤ 19 by omega)
    have BD : Bd (dw (xs.take 19)) := ⟨bd.1, by omega⟩
    have BD1 : Bd (dw (xs.take 19) + 1) := ⟨by omega, by omega⟩
    have S1 := hid (step_any9 (dw (xs.take 19)) (e + xs.length - 19) w hT BD)
    have S2 := hid (fun wx (hb : Below w.heap.size w wx) => step_any9 (dw (xs.take 19) + 1) (e + xs.length - 19) wx (hT.below hb) BD1)
    obtain ⟨n, hnn⟩ : ∃ n : Nat, xs.length = n := ⟨_, rfl⟩
    have F0 : Hid (∀ x1 w', Ie.Stq (dw (xs.take 19)) (e + xs.length - 19) x1 false → Below w.heap.size w w' → TellTold xs e w (.returned (.tuple #[.int .u64 0, .bool false])) w') := fun x1 w' r k => ⟨0, false, rfl, .inr ⟨by omega, x1, false, r, .inl ⟨rfl, rfl, rfl⟩⟩, k⟩
    have F1 : Hid (∀ x1 w', Ie.Stq (dw (xs.take 19)) (e + xs.length - 19) x1 true → Ie.Stq (dw (xs.take 19) + 1) (e + xs.length - 19) x1 true → Below w.heap.size w w' → TellTold xs e w (.returned (.tuple #[.int .u64 x1, .bool true])) w') := fun x1 w' r r2 k => ⟨x1, true, rfl, .inr ⟨by omega, x1, true, r, .inr ⟨rfl, x1, true, r2, .inl ⟨rfl, rfl, rfl, rfl⟩⟩⟩, k⟩
    have F2 : Hid (∀ x1 x2 s2 w', Ie.Stq (dw (xs.take 19)) (e + xs.length - 19) x1 true → Ie.Stq (dw (xs.take 19) + 1) (e + xs.length - 19) x2 s2 → ¬ (s2 = true ∧ x2 = x1) → Below w.heap.size w w' → TellTold xs e w (.returned (.tuple #[.int .u64 0, .bool false])) w') := fun x1 x2 s2 w' r r2 ne k => ⟨0, false, rfl, .inr ⟨by omega, x1, true, r, .inr ⟨rfl, x2, s2, r2, .inr ⟨ne, rfl, rfl⟩⟩⟩, k⟩
    have hni : 19 < (n : Int) := by omega
    have hnb : (n : Int) ≤ 281474976710656 := by omega
    have hs19 : 19 ≤ s.size := by omega
    have b1 := BD1.1
    have b2 := BD1.2
    have b3 := BD.1
    rw [hnn] at hsz S1 S2 F0 F1 F2
    simp only [List.drop_zero, Nat.sub_zero] at EX
    have N1 := hid (NA.out _ EX)
    clear h hl NA EX bd t19 BD BD1 hs hd hn hT hX hnn
    generalize dw (xs.take 19) = v at *
    obtain ⟨q, hq⟩ : ∃ q, e + (n : Int) - 19 = q := ⟨_, rfl⟩
    rw [hq] at S1 S2 F0 F1 F2
    go_enter Tryz.func39, Tryz.ntmps39
    go_wp2_with fail
    with_reducible refine (N1.out _).mono ?_
    rintro r w' ⟨rfl, rfl⟩
    go_wp2_with fail
    with_reducible refine S1.out.mono ?_
    rintro r w1 ⟨x1, s1, rfl, R1, hB⟩
    cases s1 with
    | false =>
      have F := hid (F0.out x1 w1 R1 hB)
      clear R1 hB F0 F1 F2 S1 S2
      go_wp2_with fail
      go_ret2
      exact F.out
    | true =>
      have HR := hid R1
      have HB := hid hB
      clear R1 S1 F0
      go_wp2_with fail
      with_reducible refine (S2.out _ hB).mono ?_
      rintro r w2 ⟨x2, s2, rfl, R2, hB2⟩
      clear hB
      cases s2 with
      | false =>
        have F := hid (F2.out x1 x2 false w2 HR.out R2 (by simp) (below_on HB.out hB2))
        clear R2 hB2 F1 F2 S2
        go_wp2_with fail
        go_ret2
        exact F.out
      | true =>
        by_cases hx : x2 = x1
        · subst hx
          have F := hid (F1.out x2 w2 HR.out R2 (below_on HB.out hB2))
          clear R2 hB2 F1 F2 S2
          go_wp2_with fail
          go_ret2
          exact F.out
        · have F := hid (F2.out x1 x2 true w2 HR.out R2 (fun c => hx c.2) (below_on HB.out hB2))
          have hne : (x2 == x1) = false := by rw [beq_eq_false_iff_ne]; exact hx
          clear R2 hB2 F1 F2 S2
          go_wp2_with fail
          go_ret2
          exact F.out

/-- A Dec in normal form. -/
def Nml (xs : List Int) (e : Int) : Prop := Sc.IsDec xs e ∧ Sc.nrm false xs e = ⟨false, xs, e⟩

instance (xs : List Int) (e : Int) : Decidable (Nml xs e) := by unfold Nml; infer_instance

theorem nrm_neg (neg : Bool) (xs : List Int) (e : Int) : (Sc.nrm neg xs e).neg = neg ∧ (Sc.nrm neg xs e).ds = (Sc.nrm false xs e).ds ∧ (Sc.nrm neg xs e).e = (Sc.nrm false xs e).e := by
  unfold Sc.nrm; split <;> exact ⟨rfl, rfl, rfl⟩

def TryTold (neg : Bool) (xs : List Int) (e : Int) (w : World) (r : Ending) (w' : World) : Prop :=
  ((¬ Nml xs e ∧ r = .returned (.tuple #[.int .u64 0, .bool false])) ∨ (Nml xs e ∧ ∃ x s, TellIs xs e x s ∧ 0 ≤ x ∧ x ≤ 9218868437227405312 ∧ r = .returned (.tuple #[.int .u64 (if s = true then Ie.sg neg x else x), .bool s]))) ∧ Below w.heap.size w w'

theorem TellIs.bd {xs : List Int} {e x : Int} {s : Bool} (h : TellIs xs e x s) : 0 ≤ x ∧ x ≤ 9218868437227405312 := by
  rcases h with ⟨_, ⟨_, _, _, _, h⟩ | ⟨_, h⟩⟩ | ⟨_, x1, s1, h1, ⟨_, rfl, _⟩ | ⟨_, x2, s2, _, ⟨_, _, rfl, _⟩ | ⟨_, rfl, _⟩⟩⟩
  · exact h.bd
  · exact h.stp.bd
  · decide
  · exact h1.stp.bd
  · decide

theorem eq_dec (a b : Bool) (s t : ByteArray) (e f : Int) (w : World) : (Op.equalIn 10000 40 (.agg #[.bool a, .string s, .int .i64 e]) (.agg #[.bool b, .string t, .int .i64 f])).run Tryz.prog w = .ok (a == b && (s.toList == t.toList) && e == f) w := by
  have u3 := Tryz.underlying3
  have a3 := Tryz.isAgg3
  have z3 := Tryz.sizeOf3
  have u4 := Tryz.underlying4
  have a4 := Tryz.isAgg4
  have z4 := Tryz.sizeOf4
  have u9 := Tryz.underlying9
  have a9 := Tryz.isAgg9
  have z9 := Tryz.sizeOf9
  have hS : Tryz.prog.underlying 40 = some (.struct (Tryz.prog.fieldsOf 40)) := by kernel_rfl
  rw [show (10000 : Nat) = 9999 + 1 from rfl, run_equalIn_struct w 9999 40 _ _ hS (by kernel_rfl)]
  simp only [Program.fieldsOf, Tryz.underlying40]
  go_simp
  by_cases h1 : a = b <;> by_cases h2 : s.toList = t.toList <;> by_cases h3 : e = f <;> simp [h1, h2, h3]

theorem isdec_dig {xs : List Int} {e : Int} (h : Sc.IsDec xs e) : Dig9 xs := fun x hx => by
  have := h.2.2.2.1 x hx
  exact Sc.dg_iff.1 this

theorem nml_eq {neg : Bool} {xs : List Int} {e : Int} {s t : ByteArray} (hs : Str s xs) (ht : Str t (nmd neg xs e).ds) (hd : Sc.IsDec xs e) :
    ((nmd neg xs e).neg == neg && (t.toList == s.toList) && (nmd neg xs e).e == e) = decide (Nml xs e) := by
  rw [ht.eq hs]
  have hm : nmd neg xs e = Sc.nrm neg xs e := by unfold nmd; rw [if_pos hd]
  rw [hm]
  obtain ⟨h1, h2, h3⟩ := nrm_neg neg xs e
  rw [h1, h2, h3, Bool.eq_iff_iff]
  have hk : Nml xs e ↔ (Sc.nrm false xs e).ds = xs ∧ (Sc.nrm false xs e).e = e := by
    unfold Nml
    constructor
    · rintro ⟨_, h⟩; rw [h]; exact ⟨rfl, rfl⟩
    · rintro ⟨g1, g2⟩
      refine ⟨hd, ?_⟩
      have g0 := (nrm_neg false xs e).1
      generalize Sc.nrm false xs e = D at *
      cases D
      simp only at g0 g1 g2
      rw [g0, g1, g2]
  simp [hk]

set_option maxRecDepth 100000 in
set_option maxHeartbeats 1000000 in
theorem try_any9 (neg : Bool) (s : ByteArray) (xs : List Int) (e : Int) (w : World) (hT : Tab w) (hX : Tens w) (hs : Str s xs) (hn : xs.length ≤ 281474976710655) :
    Calls Tryz.prog 13 #[decV neg s e] w fun r w' => TryTold neg xs e w r w' := by
  have NM := hid (fun wx => norm_any neg s xs e wx hs hn)
  have Z := hid (Row3.new w (.bool neg) (.string s) (.int .i64 e))
  have F0 : Hid (¬ Nml xs e → ∀ w', Below w.heap.size w w' → TryTold neg xs e w (.returned (.tuple #[.int .u64 0, .bool false])) w') := fun h w' b => ⟨.inl ⟨h, rfl⟩, b⟩
  have F1 : Hid (Nml xs e → ∀ x w', TellIs xs e x true → Below w.heap.size w w' → TryTold neg xs e w (.returned (.tuple #[.int .u64 (Ie.sg neg x), .bool true])) w') := fun h x w' k b => ⟨.inr ⟨h, x, true, k, k.bd.1, k.bd.2, rfl⟩, b⟩
  have F2 : Hid (Nml xs e → ∀ x w', TellIs xs e x false → Below w.heap.size w w' → TryTold neg xs e w (.returned (.tuple #[.int .u64 x, .bool false])) w') := fun h x w' k b => ⟨.inr ⟨h, x, false, k, k.bd.1, k.bd.2, rfl⟩, b⟩
  have TL : Hid (Nml xs e → ∀ wx, Below w.heap.size w wx → Calls Tryz.prog 39 #[.string s, .int .i64 e] wx fun r w' => TellTold xs e wx r w') := fun h wx b => tell_any9 s xs e wx (hT.below b) (hX.below b) hs (isdec_dig h.1) (by omega) h.1.2.1 h.1.2.2.1
  have NG := hid (fun (x : Int) (wx : World) (h0 : 0 ≤ x) (h1 : x < 18446744073709551616) => neg_any x wx h0 h1)
  have NE : Hid (∀ t, Str t (nmd neg xs e).ds → Sc.IsDec xs e → ∀ wx, (Op.equalIn 10000 40 (.agg #[.bool (nmd neg xs e).neg, .string t, .int .i64 (nmd neg xs e).e]) (.agg #[.bool neg, .string s, .int .i64 e])).run Tryz.prog wx = .ok (decide (Nml xs e)) wx) := fun t ht hd wx => by rw [eq_dec, nml_eq hs ht hd]
  unfold decV at NM ⊢
  clear hs hn hT hX
  go_enter Tryz.func13, Tryz.ntmps13
  go_wp2_with fail
  refine (NM.out _).mono ?_
  rintro r w1 ⟨v, rfl, ⟨t, rfl, ht⟩, hB⟩
  unfold decV
  have Z1 := hid (Z.out.below hB Z.out.lt)
  have B1 := hid (below_on (alloc_b w _) hB)
  by_cases hd : Sc.IsDec xs e
  · have E0 : errOf xs e = 0 := by unfold errOf; rw [if_pos hd]
    have EQ := NE.out t ht hd
    rw [E0]
    obtain ⟨b, hb⟩ : ∃ b, decide (Nml xs e) = b := ⟨_, rfl⟩
    rw [hb] at EQ
    obtain ⟨⟨c0, c1, c2⟩, _⟩ := Z1.out.cells
    have lt1 := Z1.out.lt
    have ne : w1.heap.size ≠ w.heap.size := by omega
    cases b with
    | false =>
      have F := hid (F0.out (of_decide_eq_false hb))
      clear hB ht hd E0 hb NM Z Z1 F0 F1 F2 TL NG NE
      generalize nmd neg xs e = N at *
      go_wp2_with fail
      go_ret2
      exact F.out _ (below_on B1.out (alloc_b _ _))
    | true =>
      have hnm := of_decide_eq_true hb
      have G1 := hid (F1.out hnm)
      have G2 := hid (F2.out hnm)
      have T1 := hid (TL.out hnm)
      have B2 := hid (below_on B1.out (alloc_b w1 (.cells #[.bool (nmd neg xs e).neg, .string t, .int .i64 (nmd neg xs e).e] 40)))
      have Z2 := hid (Z1.out.below (alloc_b w1 (.cells #[.bool (nmd neg xs e).neg, .string t, .int .i64 (nmd neg xs e).e] 40)) lt1)
      clear hB ht hd E0 hb hnm NM Z Z1 F0 F1 F2 TL NE B1
      generalize nmd neg xs e = N at *
      have b2 := B2.out
      go_upto_region 4 with fail
      generalize (w1.alloc (.cells #[.bool N.neg, .string t, .int .i64 N.e] 40)) = w2 at *
      clear c0 c1 c2
      obtain ⟨⟨c0, c1, c2⟩, _⟩ := Z2.out.cells
      go_wp2_with fail
      with_reducible refine (T1.out _ b2).mono ?_
      rintro r w3 ⟨x, sr, rfl, TI, hB3⟩
      have Z3 := hid (Z2.out.below hB3 Z2.out.lt)
      have B3 := hid (below_on b2 hB3)
      have xb := TI.bd
      clear b2 c0 c1 c2 hB3 EQ T1
      obtain ⟨⟨c0, c1, c2⟩, _⟩ := Z3.out.cells
      cases sr with
      | false =>
        have F := hid (G2.out x w3 TI B3.out)
        clear TI G1 G2 NG
        go_wp2_with fail
        go_ret2
        exact F.out
      | true =>
        have F := hid (G1.out x w3 TI B3.out)
        clear TI G1 G2
        cases neg with
        | false =>
          clear NG
          go_wp2_with fail
          go_ret2
          exact F.out
        | true =>
          have N1 := hid (NG.out x w3 xb.1 (by omega))
          rw [show Ie.ng x = Ie.sg true x by unfold Ie.ng Ie.sg; rw [if_pos (by omega), if_pos rfl]] at N1
          clear NG
          go_wp2_with fail
          with_reducible refine N1.out.mono ?_
          rintro r w4 ⟨rfl, rfl⟩
          go_wp2_with fail
          go_ret2
          exact F.out
  · have E0 : errOf xs e = 80 := by unfold errOf; rw [if_neg hd]
    have F := hid (F0.out (fun c => hd c.1))
    rw [E0]
    clear hB ht hd E0 NM Z Z1 F0 F1 F2 TL NG NE
    generalize nmd neg xs e = N at *
    go_wp2_with fail
    go_ret2
    exact F.out _ (below_on B1.out (alloc_b _ _))
end Go.Proofs.YthgjflfeilbbbaaGreatDoor
