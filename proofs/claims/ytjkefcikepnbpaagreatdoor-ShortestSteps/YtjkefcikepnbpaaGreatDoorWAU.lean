/-
  Texts put together: KSmall, KTry, KTrueN, KNml, PNum, PCmp, PNear, PRoad, PTravel.
-/
import Derived.Test.YtjkefcikepnbpaaGreatDoorWAS
import Derived.Test.YtjkefcikepnbpaaGreatDoorWAM
import Derived.Test.YtjkefcikepnbpaaGreatDoorWAA
import Derived.Test.YtjkefcikepnbpaaGreatDoorWAD
namespace Go.Proofs.YtjkefcikepnbpaaGreatDoor
open Go Go.RowKit Go.Deep

/-- The table of the powers of ten that are doubles. -/
def Tens (w : World) : Prop := ∀ j : Nat, j < 23 → w.cell? ⟨10, j * 2, none⟩ = some (.int .u64 (lo64 (10 ^ j))) ∧ w.cell? ⟨10, j * 2 + 1, none⟩ = some (.int .u64 (hi64 (10 ^ j)))
theorem Tens.below {w w' : World} (h : Tens w) (hb : Below w.heap.size w w') : Tens w' := by
  intro j hj
  have hc := h j hj
  rw [hb.cell (p := ⟨10, j * 2, none⟩) (cell_lt hc.1), hb.cell (p := ⟨10, j * 2 + 1, none⟩) (cell_lt hc.2)]
  exact hc

def SmallTold (v q : Int) (w : World) (e : Ending) (w' : World) : Prop :=
  ((v ≤ 9007199254740992 ∧ -22 ≤ q ∧ q ≤ 22 ∧ ∃ x, e = .returned (.tuple #[.int .u64 x, .bool true]) ∧ Ie.Rnd (v * 10 ^ q.toNat) (10 ^ (-q).toNat) 0 false x) ∨
    ((9007199254740992 < v ∨ q < -22 ∨ 22 < q) ∧ e = .returned (.tuple #[.int .u64 0, .bool false]))) ∧ Below w.heap.size w w'

theorem ten_bd {j : Nat} (h : j < 23) : 0 < (10 : Int) ^ j ∧ (10 : Int) ^ j < 340282366920938463463374607431768211456 := by
  refine ⟨Int.pow_pos (by decide), ?_⟩
  have h1 := Nat.pow_le_pow_right (show 0 < 10 by decide) (show j ≤ 22 by omega)
  have e : ∀ k : Nat, ((10 ^ k : Nat) : Int) = 10 ^ k := by intro k; simp
  have e1 := e j
  have e2 := e 22
  have e3 : (10 : Int) ^ 22 = 10000000000000000000000 := by decide +kernel
  omega

set_option maxRecDepth 100000 in
set_option maxHeartbeats 1000000 in
theorem small_any9 (v q : Int) (w : World) (hT : Tab w) (hX : Tens w) (hv : Bd v) :
    Calls Tryz.prog 224 #[.int .u64 v, .int .i64 q] w fun e w' => SmallTold v q w e w' := by
  by_cases h : v ≤ 9007199254740992 ∧ -22 ≤ q ∧ q ≤ 22
  · by_cases h0 : 0 ≤ q
    · obtain ⟨j, hj⟩ := Int.eq_ofNat_of_zero_le h0
      have tb := ten_bd (show j < 23 by omega)
      have bs := bd_split (P := 10 ^ j) (by omega) tb.2
      have TM := hid (fun wx => ptimes_any v (lo64 (10 ^ j)) (hi64 (10 ^ j)) wx hv bs.1 bs.2)
      rw [n2_split] at TM
      obtain ⟨c0, c1⟩ := hX j (by omega)
      have PR := hid (fun (a b c : Int) (wx : World) (hb : Below w.heap.size w wx) (hh : Bd a ∧ Bd b ∧ Bd c) => pround_any a b c 0 wx (hT.below hb) hh)
      have FF : Hid (∀ x w', Ie.Rnd (v * 10 ^ j) 1 0 false x → Below w.heap.size w w' → SmallTold v q w (.returned (.tuple #[.int .u64 x, .bool true])) w') := fun x w' r b => ⟨.inl ⟨h.1, h.2.1, h.2.2, x, rfl, by rw [show q.toNat = j by omega, show (-q).toNat = 0 by omega]; exact r⟩, b⟩
      have a0 : (j : Int) ≤ 22 := by omega
      have a1 : v ≤ 9007199254740992 := h.1
      have a2 : 0 ≤ v := hv.1
      subst hj
      clear h hT hX hv tb bs h0
      unfold wideV prodV at *
      generalize lo64 (10 ^ j) = x at *
      generalize hi64 (10 ^ j) = y at *
      go_enter Tryz.func224, Tryz.ntmps224
      go_wp2_with fail
      with_reducible refine (TM.out _).mono ?_
      rintro e w1 ⟨a, b, c, rfl, hbd, hn, hB⟩
      have BD := hid hbd
      have NN := hid hn
      have HB := hid hB
      clear hbd hn TM
      go_wp2_with fail
      with_reducible refine (PR.out a b c _ hB BD.out).mono ?_
      rintro e w2 ⟨z, rfl, hR, hB2⟩
      rw [NN.out] at hR
      have F := hid (FF.out z w2 hR (below_on HB.out hB2))
      clear hB hB2 hR FF PR
      go_wp2_with fail
      go_ret2
      exact F.out
    · obtain ⟨j, hj⟩ := Int.eq_ofNat_of_zero_le (show 0 ≤ -q by omega)
      have tb := ten_bd (show j < 23 by omega)
      have bs := bd_split (P := 10 ^ j) (by omega) tb.2
      obtain ⟨c0, c1⟩ := hX j (by omega)
      have RR : Hid (∀ wx, wx = ((w.alloc (.cells #[.int .u64 (lo64 (10 ^ j)), .int .u64 (hi64 (10 ^ j))] 249)).alloc (.cells #[.int .u64 v] 22)) → Calls Tryz.prog 199 #[.bool false, .slice (some ⟨w.heap.size + 1, 0, none⟩) 1 1, .slice (some ⟨w.heap.size, 0, none⟩) 2 2, .int .i64 0] wx fun e w' => ∃ x, e = .returned (.tuple #[.int .u64 x, .int .i64 0]) ∧ Ie.Rnd v (10 ^ j) 0 false x ∧ Below w.heap.size w w') := by
        intro wx hw
        subst hw
        have b2 : Below w.heap.size w ((w.alloc (.cells #[.int .u64 (lo64 (10 ^ j)), .int .u64 (hi64 (10 ^ j))] 249)).alloc (.cells #[.int .u64 v] 22)) := below_on (alloc_b _ _) (alloc_b _ _)
        refine (roundRatio_any false _ _ 1 1 2 2 [v] [lo64 (10 ^ j), hi64 (10 ^ j)] _ (arg_lit9 (heap_alloc2_new _ _ _) hv.1 hv.2) (At2.arg (heap_alloc2_old _ _ _) bs.1.1 bs.1.2 bs.2.1 bs.2.2) (hT.below b2) (Nat.le_trans (Nm.tsize_le _) (by simp)) (Nat.le_trans (Nm.tsize_le _) (by simp)) v (10 ^ j) 0 (by simp [Nm.val]) (by rw [n2_val, n2_split]) tb.1).mono ?_
        rintro e w' ⟨x, rfl, r, hB⟩
        exact ⟨x, by unfold Ie.sg; rfl, r, below_on b2 hB⟩
      have FF : Hid (∀ x w', Ie.Rnd v (10 ^ j) 0 false x → Below w.heap.size w w' → SmallTold v q w (.returned (.tuple #[.int .u64 x, .bool true])) w') := fun x w' r b => ⟨.inl ⟨h.1, h.2.1, h.2.2, x, rfl, by rw [show q.toNat = 0 by omega, show (-q).toNat = j by omega, Int.pow_zero, Int.mul_one]; exact r⟩, b⟩
      have a0 : (j : Int) ≤ 22 := by omega
      have a1 : v ≤ 9007199254740992 := h.1
      have a2 : 0 ≤ v := hv.1
      have a3 : -22 ≤ q := h.2.1
      have a4 : q < 0 := by omega
      clear h hT hX hv tb bs h0
      generalize lo64 (10 ^ j) = x at *
      generalize hi64 (10 ^ j) = y at *
      go_enter Tryz.func224, Tryz.ntmps224
      go_wp2_with fail
      with_reducible refine (RR.out _ rfl).mono ?_
      rintro e w2 ⟨z, rfl, hR, hB2⟩
      have F := hid (FF.out z w2 hR hB2)
      clear hB2 hR FF RR
      go_wp2_with fail
      go_ret2
      exact F.out
  · have F : Hid (SmallTold v q w (.returned (.tuple #[.int .u64 0, .bool false])) w) := ⟨.inr ⟨by omega, rfl⟩, Below.refl _ _⟩
    clear hT hX hv
    by_cases k1 : 9007199254740992 < v
    · clear h
      go_enter Tryz.func224, Tryz.ntmps224
      go_wp2_with fail
      go_ret2
      exact F.out
    · by_cases k2 : q ≤ -23
      · clear h
        go_enter Tryz.func224, Tryz.ntmps224
        go_wp2_with fail
        go_ret2
        exact F.out
      · have k3 : 23 ≤ q := by omega
        clear h
        go_enter Tryz.func224, Tryz.ntmps224
        go_wp2_with fail
        go_ret2
        exact F.out
end Go.Proofs.YtjkefcikepnbpaaGreatDoor

namespace Go.Proofs.YtjkefcikepnbpaaGreatDoor
open Go Go.RowKit Go.Deep

/-- What a row of digits writes. -/
def dw (ds : List Int) : Int := ds.foldl (fun a d => 10 * a + (d - 48)) 0
theorem dw_snoc (ds : List Int) (x : Int) : dw (ds ++ [x]) = 10 * dw ds + (x - 48) := by unfold dw; rw [List.foldl_append]; rfl
def Dig9 (ds : List Int) : Prop := ∀ x ∈ ds, 48 ≤ x ∧ x ≤ 57
theorem take_snoc {ds : List Int} {j : Nat} (h : j < ds.length) : ds.take (j + 1) = ds.take j ++ [ds.getD j 0] := by
  rw [List.take_add_one]
  simp [List.getD, h]
theorem dw_take {ds : List Int} {j : Nat} (h : j < ds.length) : dw (ds.take (j + 1)) = 10 * dw (ds.take j) + (ds.getD j 0 - 48) := by rw [take_snoc h, dw_snoc]
theorem Dig9.at {ds : List Int} (h : Dig9 ds) {j : Nat} (hj : j < ds.length) : 48 ≤ ds.getD j 0 ∧ ds.getD j 0 ≤ 57 := h _ (by simp [List.getD, hj])
theorem dw_bd {ds : List Int} (h : Dig9 ds) : ∀ j, j ≤ ds.length → 0 ≤ dw (ds.take j) ∧ dw (ds.take j) < 10 ^ j
  | 0, _ => by simp [dw]
  | j + 1, hj => by
    have ih := dw_bd h j (by omega)
    have := h.at (show j < ds.length by omega)
    rw [dw_take (by omega), Int.pow_succ]
    omega
theorem ten19 {j : Nat} (h : j ≤ 19) : (10 : Int) ^ j ≤ 10000000000000000000 := by
  have h1 := Nat.pow_le_pow_right (show 0 < 10 by decide) h
  have e : ∀ k : Nat, ((10 ^ k : Nat) : Int) = 10 ^ k := by intro k; simp
  have e1 := e j
  have e2 := e 19
  have e3 : (10 : Int) ^ 19 = 10000000000000000000 := by decide +kernel
  omega

set_option maxRecDepth 100000 in
set_option maxHeartbeats 1000000 in
theorem natural_any9 (s : ByteArray) (xs : List Int) (w : World) (hs : Str s xs) (hd : Dig9 xs) (hn : xs.length ≤ 19) :
    Calls Tryz.prog 223 #[.string s] w fun e w' => e = .returned (.int .u64 (dw xs)) ∧ w' = w := by
  have hsz := hs.size
  have ST : Hid (∀ j, j < xs.length → (∀ ht : j < s.size, ((s[j]'ht).toNat : Int) = xs.getD j 0) ∧ (48 ≤ xs.getD j 0 ∧ xs.getD j 0 ≤ 57) ∧ dw (xs.take (j + 1)) = 10 * dw (xs.take j) + (xs.getD j 0 - 48) ∧ 0 ≤ dw (xs.take j) ∧ dw (xs.take j) < 1000000000000000000) := fun j hj => ⟨hs.at j, hd.at hj, dw_take hj, (dw_bd hd j (by omega)).1, by
    have := (dw_bd hd j (by omega)).2
    have h1 := Nat.pow_le_pow_right (show 0 < 10 by decide) (show j ≤ 18 by omega)
    have e : ∀ k : Nat, ((10 ^ k : Nat) : Int) = 10 ^ k := by intro k; simp
    have e1 := e j
    have e2 := e 18
    have e3 : (10 : Int) ^ 18 = 1000000000000000000 := by decide +kernel
    omega⟩
  have FIN : Hid (∀ j, j ≤ xs.length → ¬ j < xs.length → dw (xs.take j) = dw xs) := fun j h1 h2 => by rw [List.take_of_length_le (by omega)]
  have n1 : (xs.length : Int) ≤ 19 := by omega
  have hz0 : dw (xs.take 0) = 0 := by simp [dw]
  clear hs hd hn
  go_enter Tryz.func223, Tryz.ntmps223
  go_wp2_with fail
  go_loop [3, 7] (fun a i => ∃ (j : Nat) (x : Int), a = .int .u64 x ∧ i = .int .i64 j ∧ Hid (j ≤ xs.length ∧ x = dw (xs.take j))) (fun _ i => xs.length - (intOf i).toNat)
  case atStart => exact ⟨0, 0, rfl, rfl, Nat.zero_le _, hz0.symm⟩
  case round =>
    obtain ⟨j, x, rfl, rfl, I⟩ := hrel
    have hjb : (j : Int) ≤ 19 := by have := I.out.1; omega
    by_cases hj : j < xs.length
    · have hji : (j : Int) < (xs.length : Int) := by omega
      obtain ⟨hx, hd, hst, b0, b1⟩ := ST.out j hj
      have hjs : j < s.size := by omega
      have hxx := I.out.2
      rw [← hxx] at hst b0 b1
      have I2 : Hid (j + 1 ≤ xs.length ∧ 10 * x + (xs.getD j 0 - 48) = dw (xs.take (j + 1))) := ⟨by omega, hst.symm⟩
      clear I hxx hst
      generalize xs.getD j 0 = y at *
      go_wp2_with fail
      go_round
      case rel => exact ⟨j + 1, _, rfl, by go_num, I2.out⟩
      case measure => simp [intOf]; omega
    · have hji : ¬ (j : Int) < (xs.length : Int) := by omega
      have hxx := I.out.2
      rw [FIN.out j I.out.1 hj] at hxx
      subst hxx
      clear I
      go_wp2_with fail
      go_ret
      exact ⟨rfl, rfl⟩

/-- What tell tells of a row of digits. -/
def TellIs (xs : List Int) (e x : Int) (s : Bool) : Prop :=
  (xs.length ≤ 19 ∧ ((dw xs ≤ 9007199254740992 ∧ -22 ≤ e ∧ e ≤ 22 ∧ s = true ∧ Ie.Rnd (dw xs * 10 ^ e.toNat) (10 ^ (-e).toNat) 0 false x) ∨ ((9007199254740992 < dw xs ∨ e < -22 ∨ 22 < e) ∧ Ie.Stq (dw xs) e x s))) ∨
    (19 < xs.length ∧ ∃ x1 s1, Ie.Stq (dw (xs.take 19)) (e + xs.length - 19) x1 s1 ∧ ((s1 = false ∧ x = 0 ∧ s = false) ∨
      (s1 = true ∧ ∃ x2 s2, Ie.Stq (dw (xs.take 19) + 1) (e + xs.length - 19) x2 s2 ∧ ((s2 = true ∧ x2 = x1 ∧ x = x1 ∧ s = true) ∨ (¬ (s2 = true ∧ x2 = x1) ∧ x = 0 ∧ s = false)))))

def TellTold (xs : List Int) (e : Int) (w : World) (r : Ending) (w' : World) : Prop := ∃ x s, r = .returned (.tuple #[.int .u64 x, .bool s]) ∧ TellIs xs e x s ∧ Below w.heap.size w w'

theorem Dig9.take {xs : List Int} (h : Dig9 xs) (k : Nat) : Dig9 (xs.take k) := fun x hx => h x (List.mem_of_mem_take hx)

set_option maxRecDepth 100000 in
set_option maxHeartbeats 1000000 in
theorem tell_any9 (s : ByteArray) (xs : List Int) (e : Int) (w : World) (hT : Tab w) (hX : Tens w) (hs : Str s xs) (hd : Dig9 xs) (hn : xs.length ≤ 281474976710656) (e0 : -1152921504606846976 ≤ e) (e1 : e ≤ 1152921504606846976) :
    Calls Tryz.prog 222 #[.string s, .int .i64 e] w fun r w' => TellTold xs e w r w' := by
  have hsz := hs.size
  by_cases h : xs.length ≤ 19
  · have NA := hid (natural_any9 s xs w hs hd h)
    have bd := dw_bd hd xs.length (Nat.le_refl _)
    rw [List.take_length] at bd
    have t19 := ten19 h
    have BD : Bd (dw xs) := ⟨bd.1, by omega⟩
    have SM := hid (small_any9 (dw xs) e w hT hX BD)
    have SP := hid (fun wx (hb : Below w.heap.size w wx) => step_any9 (dw xs) e wx (hT.below hb) BD)
    have F1 : Hid (∀ x w', Ie.Rnd (dw xs * 10 ^ e.toNat) (10 ^ (-e).toNat) 0 false x → dw xs ≤ 9007199254740992 → -22 ≤ e → e ≤ 22 → Below w.heap.size w w' → TellTold xs e w (.returned (.tuple #[.int .u64 x, .bool true])) w') := fun x w' r a b c k => ⟨x, true, rfl, .inl ⟨h, .inl ⟨a, b, c, rfl, r⟩⟩, k⟩
    have F2 : Hid (∀ x s w', Ie.Stq (dw xs) e x s → (9007199254740992 < dw xs ∨ e < -22 ∨ 22 < e) → Below w.heap.size w w' → TellTold xs e w (.returned (.tuple #[.int .u64 x, .bool s])) w') := fun x s w' r a k => ⟨x, s, rfl, .inl ⟨h, .inr ⟨a, r⟩⟩, k⟩
    have hi : (xs.length : Int) ≤ 19 := by omega
    clear h bd t19 BD hs hd hn hT hX
    go_enter Tryz.func222, Tryz.ntmps222
    go_wp2_with fail
    with_reducible refine NA.out.mono ?_
    rintro r w' ⟨rfl, rfl⟩
    go_wp2_with fail
    with_reducible refine SM.out.mono ?_
    rintro r w1 ⟨⟨a1, a2, a3, x, rfl, R⟩ | ⟨a1, rfl⟩, hB⟩
    · have F := hid (F1.out x w1 R a1 a2 a3 hB)
      clear a1 a2 a3 R hB F1 F2 SM SP NA
      go_wp2_with fail
      go_ret2
      exact F.out
    · have A := hid a1
      have HB := hid hB
      clear a1 F1 SM NA
      go_wp2_with fail
      with_reducible refine (SP.out _ hB).mono ?_
      rintro r w2 ⟨x, sr, rfl, R, hB2⟩
      have F := hid (F2.out x sr w2 R A.out (below_on HB.out hB2))
      clear R hB2 hB F2 SP
      go_wp2_with fail
      go_ret2
      exact F.out
  · have hl : (xs.take 19).length = 19 := by rw [List.length_take]; omega
    have NA := hid (fun (s1 : ByteArray) (hs1 : Str s1 (xs.take 19)) wx => natural_any9 s1 (xs.take 19) wx hs1 (hd.take 19) (by omega))
    have EX := hs.extract 0 19
    have bd := dw_bd hd 19 (by omega)
    have t19 := ten19 (show 19 ≤ 19 by omega)
    have BD : Bd (dw (xs.take 19)) := ⟨bd.1, by omega⟩
    have BD1 : Bd (dw (xs.take 19) + 1) := ⟨by omega, by omega⟩
    have S1 := hid (step_any9 (dw (xs.take 19)) (e + xs.length - 19) w hT BD)
    have S2 := hid (fun wx (hb : Below w.heap.size w wx) => step_any9 (dw (xs.take 19) + 1) (e + xs.length - 19) wx (hT.below hb) BD1)
    obtain ⟨n, hnn⟩ : ∃ n : Nat, xs.length = n := ⟨_, rfl⟩
    have F0 : Hid (∀ x1 w', Ie.Stq (dw (xs.take 19)) (e + xs.length - 19) x1 false → Below w.heap.size w w' → TellTold xs e w (.returned (.tuple #[.int .u64 0, .bool false])) w') := fun x1 w' r k => ⟨0, false, rfl, .inr ⟨by omega, x1, false, r, .inl ⟨rfl, rfl, rfl⟩⟩, k⟩
    have F1 : Hid (∀ x1 w', Ie.Stq (dw (xs.take 19)) (e + xs.length - 19) x1 true → Ie.Stq (dw (xs.take 19) + 1) (e + xs.length - 19) x1 true → Below w.heap.size w w' → TellTold xs e w (.returned (.tuple #[.int .u64 x1, .bool true])) w') := fun x1 w' r r2 k => ⟨x1, true, rfl, .inr ⟨by omega, x1, true, r, .inr ⟨rfl, x1, true, r2, .inl ⟨rfl, rfl, rfl, rfl⟩⟩⟩, k⟩
    have F2 : Hid (∀ x1 x2 s2 w', Ie.Stq (dw (xs.take 19)) (e + xs.length - 19) x1 true → Ie.Stq (dw (xs.take 19) + 1) (e + xs.length - 19) x2 s2 → ¬ (s2 = true ∧ x2 = x1) → Below w.heap.size w w' → TellTold xs e w (.returned (.tuple #[.int .u64 0, .bool false])) w') := fun x1 x2 s2 w' r r2 ne k => ⟨0, false, rfl, .inr ⟨by omega, x1, true, r, .inr ⟨rfl, x2, s2, r2, .inr ⟨ne, rfl, rfl⟩⟩⟩, k⟩
    have hni : 19 < (n : Int) := by omega
    have hnb : (n : Int) ≤ 281474976710656 := by omega
    have hs19 : 19 ≤ s.size := by omega
    have b1 := BD1.1
    have b2 := BD1.2
    have b3 := BD.1
    rw [hnn] at hsz S1 S2 F0 F1 F2
    simp only [List.drop_zero, Nat.sub_zero] at EX
    have N1 := hid (NA.out _ EX)
    clear h hl NA EX bd t19 BD BD1 hs hd hn hT hX hnn
    generalize dw (xs.take 19) = v at *
    obtain ⟨q, hq⟩ : ∃ q, e + (n : Int) - 19 = q := ⟨_, rfl⟩
    rw [hq] at S1 S2 F0 F1 F2
    go_enter Tryz.func222, Tryz.ntmps222
    go_wp2_with fail
    with_reducible refine (N1.out _).mono ?_
    rintro r w' ⟨rfl, rfl⟩
    go_wp2_with fail
    with_reducible refine S1.out.mono ?_
    rintro r w1 ⟨x1, s1, rfl, R1, hB⟩
    cases s1 with
    | false =>
      have F := hid (F0.out x1 w1 R1 hB)
      clear R1 hB F0 F1 F2 S1 S2
      go_wp2_with fail
      go_ret2
      exact F.out
    | true =>
      have HR := hid R1
      have HB := hid hB
      clear R1 S1 F0
      go_wp2_with fail
      with_reducible refine (S2.out _ hB).mono ?_
      rintro r w2 ⟨x2, s2, rfl, R2, hB2⟩
      clear hB
      cases s2 with
      | false =>
        have F := hid (F2.out x1 x2 false w2 HR.out R2 (by simp) (below_on HB.out hB2))
        clear R2 hB2 F1 F2 S2
        go_wp2_with fail
        go_ret2
        exact F.out
      | true =>
        by_cases hx : x2 = x1
        · subst hx
          have F := hid (F1.out x2 w2 HR.out R2 (below_on HB.out hB2))
          clear R2 hB2 F1 F2 S2
          go_wp2_with fail
          go_ret2
          exact F.out
        · have F := hid (F2.out x1 x2 true w2 HR.out R2 (fun c => hx c.2) (below_on HB.out hB2))
          have hne : (x2 == x1) = false := by rw [beq_eq_false_iff_ne]; exact hx
          clear R2 hB2 F1 F2 S2
          go_wp2_with fail
          go_ret2
          exact F.out

/-- A Dec in normal form. -/
def Nml (xs : List Int) (e : Int) : Prop := Sc.IsDec xs e ∧ Sc.nrm false xs e = ⟨false, xs, e⟩

instance (xs : List Int) (e : Int) : Decidable (Nml xs e) := by unfold Nml; infer_instance

theorem nrm_neg (neg : Bool) (xs : List Int) (e : Int) : (Sc.nrm neg xs e).neg = neg ∧ (Sc.nrm neg xs e).ds = (Sc.nrm false xs e).ds ∧ (Sc.nrm neg xs e).e = (Sc.nrm false xs e).e := by
  unfold Sc.nrm; split <;> exact ⟨rfl, rfl, rfl⟩

def TryTold (neg : Bool) (xs : List Int) (e : Int) (w : World) (r : Ending) (w' : World) : Prop :=
  ((¬ Nml xs e ∧ r = .returned (.tuple #[.int .u64 0, .bool false])) ∨ (Nml xs e ∧ ∃ x s, TellIs xs e x s ∧ 0 ≤ x ∧ x ≤ 9218868437227405312 ∧ r = .returned (.tuple #[.int .u64 (if s = true then Ie.sg neg x else x), .bool s]))) ∧ Below w.heap.size w w'

theorem TellIs.bd {xs : List Int} {e x : Int} {s : Bool} (h : TellIs xs e x s) : 0 ≤ x ∧ x ≤ 9218868437227405312 := by
  rcases h with ⟨_, ⟨_, _, _, _, h⟩ | ⟨_, h⟩⟩ | ⟨_, x1, s1, h1, ⟨_, rfl, _⟩ | ⟨_, x2, s2, _, ⟨_, _, rfl, _⟩ | ⟨_, rfl, _⟩⟩⟩
  · exact h.bd
  · exact h.stp.bd
  · decide
  · exact h1.stp.bd
  · decide

theorem eq_dec (a b : Bool) (s t : ByteArray) (e f : Int) (w : World) : (Op.equalIn 10000 25 (.agg #[.bool a, .string s, .int .i64 e]) (.agg #[.bool b, .string t, .int .i64 f])).run Tryz.prog w = .ok (a == b && (s.toList == t.toList) && e == f) w := by
  have u3 := Tryz.underlying3
  have a3 := Tryz.isAgg3
  have z3 := Tryz.sizeOf3
  have u4 := Tryz.underlying4
  have a4 := Tryz.isAgg4
  have z4 := Tryz.sizeOf4
  have u9 := Tryz.underlying9
  have a9 := Tryz.isAgg9
  have z9 := Tryz.sizeOf9
  have hS : Tryz.prog.underlying 25 = some (.struct (Tryz.prog.fieldsOf 25)) := by kernel_rfl
  rw [show (10000 : Nat) = 9999 + 1 from rfl, run_equalIn_struct w 9999 25 _ _ hS (by kernel_rfl)]
  simp only [Program.fieldsOf, Tryz.underlying25]
  go_simp
  by_cases h1 : a = b <;> by_cases h2 : s.toList = t.toList <;> by_cases h3 : e = f <;> simp [h1, h2, h3]

theorem isdec_dig {xs : List Int} {e : Int} (h : Sc.IsDec xs e) : Dig9 xs := fun x hx => by
  have := h.2.2.2.1 x hx
  exact Sc.dg_iff.1 this

theorem nml_eq {neg : Bool} {xs : List Int} {e : Int} {s t : ByteArray} (hs : Str s xs) (ht : Str t (nmd neg xs e).ds) (hd : Sc.IsDec xs e) :
    ((nmd neg xs e).neg == neg && (t.toList == s.toList) && (nmd neg xs e).e == e) = decide (Nml xs e) := by
  rw [ht.eq hs]
  have hm : nmd neg xs e = Sc.nrm neg xs e := by unfold nmd; rw [if_pos hd]
  rw [hm]
  obtain ⟨h1, h2, h3⟩ := nrm_neg neg xs e
  rw [h1, h2, h3, Bool.eq_iff_iff]
  have hk : Nml xs e ↔ (Sc.nrm false xs e).ds = xs ∧ (Sc.nrm false xs e).e = e := by
    unfold Nml
    constructor
    · rintro ⟨_, h⟩; rw [h]; exact ⟨rfl, rfl⟩
    · rintro ⟨g1, g2⟩
      refine ⟨hd, ?_⟩
      have g0 := (nrm_neg false xs e).1
      generalize Sc.nrm false xs e = D at *
      cases D
      simp only at g0 g1 g2
      rw [g0, g1, g2]
  simp [hk]

set_option maxRecDepth 100000 in
set_option maxHeartbeats 1000000 in
theorem try_any9 (neg : Bool) (s : ByteArray) (xs : List Int) (e : Int) (w : World) (hT : Tab w) (hX : Tens w) (hs : Str s xs) (hn : xs.length ≤ 281474976710655) :
    Calls Tryz.prog 221 #[decV neg s e] w fun r w' => TryTold neg xs e w r w' := by
  have NM := hid (fun wx => norm_any neg s xs e wx hs hn)
  have Z := hid (Row3.new w (.bool neg) (.string s) (.int .i64 e))
  have F0 : Hid (¬ Nml xs e → ∀ w', Below w.heap.size w w' → TryTold neg xs e w (.returned (.tuple #[.int .u64 0, .bool false])) w') := fun h w' b => ⟨.inl ⟨h, rfl⟩, b⟩
  have F1 : Hid (Nml xs e → ∀ x w', TellIs xs e x true → Below w.heap.size w w' → TryTold neg xs e w (.returned (.tuple #[.int .u64 (Ie.sg neg x), .bool true])) w') := fun h x w' k b => ⟨.inr ⟨h, x, true, k, k.bd.1, k.bd.2, rfl⟩, b⟩
  have F2 : Hid (Nml xs e → ∀ x w', TellIs xs e x false → Below w.heap.size w w' → TryTold neg xs e w (.returned (.tuple #[.int .u64 x, .bool false])) w') := fun h x w' k b => ⟨.inr ⟨h, x, false, k, k.bd.1, k.bd.2, rfl⟩, b⟩
  have TL : Hid (Nml xs e → ∀ wx, Below w.heap.size w wx → Calls Tryz.prog 222 #[.string s, .int .i64 e] wx fun r w' => TellTold xs e wx r w') := fun h wx b => tell_any9 s xs e wx (hT.below b) (hX.below b) hs (isdec_dig h.1) (by omega) h.1.2.1 h.1.2.2.1
  have NG := hid (fun (x : Int) (wx : World) (h0 : 0 ≤ x) (h1 : x < 18446744073709551616) => neg_any x wx h0 h1)
  have NE : Hid (∀ t, Str t (nmd neg xs e).ds → Sc.IsDec xs e → ∀ wx, (Op.equalIn 10000 25 (.agg #[.bool (nmd neg xs e).neg, .string t, .int .i64 (nmd neg xs e).e]) (.agg #[.bool neg, .string s, .int .i64 e])).run Tryz.prog wx = .ok (decide (Nml xs e)) wx) := fun t ht hd wx => by rw [eq_dec, nml_eq hs ht hd]
  unfold decV at NM ⊢
  clear hs hn hT hX
  go_enter Tryz.func221, Tryz.ntmps221
  go_wp2_with fail
  refine (NM.out _).mono ?_
  rintro r w1 ⟨v, rfl, ⟨t, rfl, ht⟩, hB⟩
  unfold decV
  have Z1 := hid (Z.out.below hB Z.out.lt)
  have B1 := hid (below_on (alloc_b w _) hB)
  by_cases hd : Sc.IsDec xs e
  · have E0 : errOf xs e = 0 := by unfold errOf; rw [if_pos hd]
    have EQ := NE.out t ht hd
    rw [E0]
    obtain ⟨b, hb⟩ : ∃ b, decide (Nml xs e) = b := ⟨_, rfl⟩
    rw [hb] at EQ
    obtain ⟨⟨c0, c1, c2⟩, _⟩ := Z1.out.cells
    have lt1 := Z1.out.lt
    have ne : w1.heap.size ≠ w.heap.size := by omega
    cases b with
    | false =>
      have F := hid (F0.out (of_decide_eq_false hb))
      clear hB ht hd E0 hb NM Z Z1 F0 F1 F2 TL NG NE
      generalize nmd neg xs e = N at *
      go_wp2_with fail
      go_ret2
      exact F.out _ (below_on B1.out (alloc_b _ _))
    | true =>
      have hnm := of_decide_eq_true hb
      have G1 := hid (F1.out hnm)
      have G2 := hid (F2.out hnm)
      have T1 := hid (TL.out hnm)
      have B2 := hid (below_on B1.out (alloc_b w1 (.cells #[.bool (nmd neg xs e).neg, .string t, .int .i64 (nmd neg xs e).e] 25)))
      have Z2 := hid (Z1.out.below (alloc_b w1 (.cells #[.bool (nmd neg xs e).neg, .string t, .int .i64 (nmd neg xs e).e] 25)) lt1)
      clear hB ht hd E0 hb hnm NM Z Z1 F0 F1 F2 TL NE B1
      generalize nmd neg xs e = N at *
      have b2 := B2.out
      go_upto_region 4 with fail
      generalize (w1.alloc (.cells #[.bool N.neg, .string t, .int .i64 N.e] 25)) = w2 at *
      clear c0 c1 c2
      obtain ⟨⟨c0, c1, c2⟩, _⟩ := Z2.out.cells
      go_wp2_with fail
      with_reducible refine (T1.out _ b2).mono ?_
      rintro r w3 ⟨x, sr, rfl, TI, hB3⟩
      have Z3 := hid (Z2.out.below hB3 Z2.out.lt)
      have B3 := hid (below_on b2 hB3)
      have xb := TI.bd
      clear b2 c0 c1 c2 hB3 EQ T1
      obtain ⟨⟨c0, c1, c2⟩, _⟩ := Z3.out.cells
      cases sr with
      | false =>
        have F := hid (G2.out x w3 TI B3.out)
        clear TI G1 G2 NG
        go_wp2_with fail
        go_ret2
        exact F.out
      | true =>
        have F := hid (G1.out x w3 TI B3.out)
        clear TI G1 G2
        cases neg with
        | false =>
          clear NG
          go_wp2_with fail
          go_ret2
          exact F.out
        | true =>
          have N1 := hid (NG.out x w3 xb.1 (by omega))
          rw [show Ie.ng x = Ie.sg true x by unfold Ie.ng Ie.sg; rw [if_pos (by omega), if_pos rfl]] at N1
          clear NG
          go_wp2_with fail
          with_reducible refine N1.out.mono ?_
          rintro r w4 ⟨rfl, rfl⟩
          go_wp2_with fail
          go_ret2
          exact F.out
  · have E0 : errOf xs e = 80 := by unfold errOf; rw [if_neg hd]
    have F := hid (F0.out (fun c => hd c.1))
    rw [E0]
    clear hB ht hd E0 NM Z Z1 F0 F1 F2 TL NG NE
    generalize nmd neg xs e = N at *
    go_wp2_with fail
    go_ret2
    exact F.out _ (below_on B1.out (alloc_b _ _))
end Go.Proofs.YtjkefcikepnbpaaGreatDoor

namespace Go.Proofs.YtjkefcikepnbpaaGreatDoor
open Go Go.RowKit Go.Deep

theorem dw_tv (l : List Int) : ∀ a : Int, Dn.tv 10 a (l.map (fun d => d - 48)) = l.foldl (fun a d => 10 * a + (d - 48)) a := by
  induction l with
  | nil => intro a; rfl
  | cons x l ih =>
    intro a
    rw [List.map_cons, Dn.tv, List.foldl_cons, ih, Int.mul_comm a 10]
theorem dw_dv (l : List Int) : dv l = dw l := by unfold dv dw; exact dw_tv l 0

theorem dw_split {xs : List Int} (k : Nat) : dw xs = dw (xs.take k) * 10 ^ (xs.length - k) + dw (xs.drop k) := by
  have h := dv_append (xs.take k) (xs.drop k)
  rw [List.take_append_drop, List.length_drop] at h
  rw [dw_dv, dw_dv, dw_dv] at h
  exact h
theorem dw_range {xs : List Int} (h : Dig9 xs) : 0 ≤ dw xs ∧ dw xs < 10 ^ xs.length := by
  have := dw_bd h xs.length (Nat.le_refl _)
  rwa [List.take_length] at this
theorem Dig9.drop {xs : List Int} (h : Dig9 xs) (k : Nat) : Dig9 (xs.drop k) := fun x hx => h x (List.mem_of_mem_drop hx)

theorem stq_no {v q x : Int} (h : Ie.Stq v q x false) : x = 0 := by
  rcases h with h | h | ⟨h0, h1, h2, A, B, a, b, h⟩
  · exact absurd h.2.2 (by simp)
  · exact h.2.2.1
  · rcases h with h | h
    · exact absurd h.2.2 (by simp)
    · exact h.2.1

theorem tell_no {xs : List Int} {e x : Int} (h : TellIs xs e x false) : x = 0 := by
  rcases h with ⟨_, ⟨_, _, _, h, _⟩ | ⟨_, h⟩⟩ | ⟨_, x1, s1, _, ⟨_, rfl, _⟩ | ⟨_, x2, s2, _, ⟨_, _, _, h⟩ | ⟨_, rfl, _⟩⟩⟩
  · exact absurd h (by simp)
  · exact stq_no h
  · rfl
  · exact absurd h (by simp)
  · rfl

theorem tens_add {e q : Int} {r : Nat} (h : q = e + r) : (10 : Int) ^ r * (10 ^ e.toNat * 10 ^ (-q).toNat) = 10 ^ q.toNat * 10 ^ (-e).toNat := by
  rw [← Int.pow_add, ← Int.pow_add, ← Int.pow_add]
  congr 1
  omega

/-- Where Try is sure, it tells the number itself, rounded. -/
theorem tell_true {xs : List Int} {e x y : Int} (hd : Dig9 xs) (h : TellIs xs e x true) (hy : Ie.Rnd (dw xs * 10 ^ e.toNat) (10 ^ (-e).toNat) 0 false y) : x = y := by
  have V0 : 0 ≤ dw xs * 10 ^ e.toNat := Int.mul_nonneg (dw_range hd).1 (Int.le_of_lt (Int.pow_pos (by decide)))
  have D0 : (0 : Int) < 10 ^ (-e).toNat := Int.pow_pos (by decide)
  rcases h with ⟨_, ⟨_, _, _, _, h⟩ | ⟨_, h⟩⟩ | ⟨h19, x1, s1, h1, ⟨_, _, h⟩ | ⟨hs, x2, s2, h2, ⟨hs2, he, hx, _⟩ | ⟨_, _, h⟩⟩⟩
  · exact Ie.Rnd.one (a := 0) (a' := 0) D0 D0 h hy (by omega) rfl
  · exact h.stp.true rfl (dw_range hd).1 V0 D0 hy rfl
  · exact absurd h (by simp)
  · subst hs hs2
    rw [he] at h2
    rw [hx]
    obtain ⟨r, hr⟩ : ∃ r : Nat, xs.length = r + 19 := ⟨xs.length - 19, by omega⟩
    have hq : e + xs.length - 19 = e + r := by omega
    rw [hq] at h1 h2
    have sp := dw_split (xs := xs) 19
    rw [show xs.length - 19 = r by omega] at sp
    have tl := dw_range (hd.drop 19)
    rw [List.length_drop, show xs.length - 19 = r by omega] at tl
    have hv := (dw_range (hd.take 19)).1
    generalize dw (xs.take 19) = v at *
    generalize dw (xs.drop 19) = t at *
    generalize dw xs = D at *
    have ta := tens_add (e := e) (q := e + r) (r := r) rfl
    have pp : (0 : Int) < 10 ^ e.toNat * 10 ^ (-(e + r)).toNat := Int.mul_pos (Int.pow_pos (by decide)) (Int.pow_pos (by decide))
    have le1 : x1 ≤ y := by
      refine h1.stp.le rfl hv D0 hy ?_
      rw [Int.mul_assoc, ← ta, Int.mul_assoc, ← Int.mul_assoc v]
      exact Int.mul_le_mul_of_nonneg_right (by omega) (by omega)
    have ge1 : y ≤ x1 := by
      refine h2.stp.ge rfl (by omega) V0 D0 hy ?_
      rw [Int.mul_assoc (v + 1), ← ta, Int.mul_assoc D, ← Int.mul_assoc (v + 1)]
      refine Int.mul_le_mul_of_nonneg_right ?_ (by omega)
      rw [Int.add_mul, Int.one_mul]
      omega
    omega
  · exact absurd h (by simp)
end Go.Proofs.YtjkefcikepnbpaaGreatDoor

namespace Go.Proofs.YtjkefcikepnbpaaGreatDoor
open Go Go.RowKit Go.Deep

theorem nml_iff (xs : List Int) (e : Int) : Nml xs e ↔ xs ≠ [] ∧ -1152921504606846976 ≤ e ∧ e ≤ 1152921504606846976 ∧ (∀ i, i < xs.length → 48 ≤ xs.getD i 0 ∧ xs.getD i 0 ≤ 57) ∧ ((xs = [48] ∧ e = 0) ∨ (xs ≠ [48] ∧ xs.getD 0 0 ≠ 48 ∧ xs.getD (xs.length - 1) 0 ≠ 48)) := by
  constructor
  · rintro ⟨h, k⟩
    refine ⟨h.1, h.2.1, h.2.2.1, fun i hi => (isdec_dig h).at hi, ?_⟩
    by_cases c : Sc.lz xs = xs.length
    · rw [Sc.nrm_zero c] at k
      injection k with k1 k2 k3
      exact .inl ⟨k2.symm, k3.symm⟩
    · rw [Sc.nrm_pos c] at k
      injection k with k1 k2 k3
      have tz0 : Sc.tz xs = 0 := by omega
      have hl := congrArg List.length k2
      rw [List.length_take, List.length_drop, tz0] at hl
      have le := Sc.lz_le xs
      have lz0 : Sc.lz xs = 0 := by omega
      have e1 := Sc.lz_end xs
      rw [lz0] at e1
      have e2 := Sc.tz_end (ds := xs) (by omega)
      rw [tz0] at e2
      refine .inr ⟨?_, e1, e2⟩
      rintro rfl
      exact e1 rfl
  · rintro ⟨h1, h2, h3, h4, h5⟩
    have dg : ∀ x ∈ xs, Sc.dg x = true := fun x hx => by
      obtain ⟨i, hi, rfl⟩ := List.getElem_of_mem hx
      have := h4 i hi
      rw [show xs.getD i 0 = xs[i] by simp [List.getD, hi]] at this
      exact Sc.dg_iff.2 this
    rcases h5 with ⟨rfl, rfl⟩ | ⟨_, e1, e2⟩
    · decide +kernel
    · have hp : 0 < xs.length := by
        rcases Nat.eq_zero_or_pos xs.length with c | c
        · exact absurd (List.length_eq_zero_iff.1 c) h1
        · exact c
      have lz0 : Sc.lz xs = 0 := Sc.lz_is (fun i hi => by omega) e1
      have tz0 : Sc.tz xs = 0 := by
        have := Sc.tz_is (ds := xs) (k := xs.length) (Nat.le_refl _) (fun i hi hj => by omega) (fun _ => e2)
        omega
      refine ⟨⟨h1, h2, h3, dg, fun _ => by rw [tz0]; omega⟩, ?_⟩
      rw [Sc.nrm_pos (by omega), lz0, tz0]
      simp

end Go.Proofs.YtjkefcikepnbpaaGreatDoor

namespace Go.Proofs.YtjkefcikepnbpaaGreatDoor
open Go Go.RowKit Go.Deep

namespace Ie
theorem Near.same {P Q P' Q' : Int} {m : Bool} {x : Int} (hQ : 0 < Q) (hQ' : 0 < Q') (h : Near P Q m x) (hv : P * Q' = P' * Q) : Near P' Q' m x := by
  have key : ∀ y : Int, (y * Q < P → y * Q' < P') ∧ (y * Q = P → y * Q' = P') ∧ (P < y * Q → P' < y * Q') := by
    intro y
    have f : y * Q * Q' = y * Q' * Q := by rw [Int.mul_assoc, Int.mul_comm Q Q', Int.mul_assoc]
    refine ⟨fun g => ?_, fun g => ?_, fun g => ?_⟩
    · have := Int.mul_lt_mul_of_pos_right g hQ'
      exact Int.lt_of_mul_lt_mul_right (a := Q) (by omega) (by omega)
    · rw [g] at f
      exact Int.eq_of_mul_eq_mul_right (a := Q) (by omega) (by omega)
    · have := Int.mul_lt_mul_of_pos_right g hQ'
      exact Int.lt_of_mul_lt_mul_right (a := Q) (by omega) (by omega)
  refine ⟨h.1, fun hx => ?_, fun hx => ?_⟩
  · rcases h.2.1 hx with g | ⟨g, g'⟩
    · exact .inl ((key _).1 g)
    · exact .inr ⟨(key _).2.1 g, g'⟩
  · rcases h.2.2 hx with g | ⟨g, g'⟩
    · exact .inl ((key _).2.2 g)
    · exact .inr ⟨((key _).2.1 g.symm).symm, g'⟩

theorem Rnd.same {n d n' d' e : Int} {m : Bool} {x : Int} (hd : 0 < d) (hd' : 0 < d') (h : Rnd n d e m x) (hv : n * d' = n' * d) : Rnd n' d' e m x := by
  intro a b hab
  refine (h a b hab).same (Int.mul_pos hd (Nm.two_pos _)) (Int.mul_pos hd' (Nm.two_pos _)) ?_
  have e1 : n * 2 ^ a * (d' * 2 ^ b) = n * d' * (2 ^ a * 2 ^ b) := by ac_rfl
  have e2 : n' * 2 ^ a * (d * 2 ^ b) = n' * d * (2 ^ a * 2 ^ b) := by ac_rfl
  rw [e1, e2, hv]

theorem Rnd.up {n d e : Int} {m : Bool} {x : Int} (k : Nat) (h : Rnd n d e m x) : Rnd (n * 2 ^ k) d (e - k) m x := by
  intro a b hab
  have := h (k + a) b (by omega)
  rw [Nm.two_add, ← Int.mul_assoc] at this
  exact this
theorem Rnd.down {n d e : Int} {m : Bool} {x : Int} (k : Nat) (h : Rnd n d e m x) : Rnd n (d * 2 ^ k) (e + k) m x := by
  intro a b hab
  have := h a (k + b) (by omega)
  rw [Nm.two_add, ← Int.mul_assoc d] at this
  exact this

theorem rnd_great {n d : Int} (hd : 0 < d) (h : 2 ^ 1024 * d ≤ n) : Rnd n d 0 false 9218868437227405312 := by
  refine Rnd.of (a := 1075) (b := 0) (by decide) ⟨⟨by omega, by omega⟩, fun _ => .inl ?_, fun h => absurd h (by omega)⟩
  rw [show (9218868437227405312 : Int) - 1 = 9218868437227405311 by omega, md_last, Int.pow_zero, Int.mul_one]
  have e1 : (2 : Int) ^ 2045 = 2 ^ 970 * 2 ^ 1075 := by rw [← Nm.two_add]
  have e2 : (2 : Int) ^ 1024 = 18014398509481984 * 2 ^ 970 := by rw [show 1024 = 54 + 970 by rfl, Nm.two_add, show (2 : Int) ^ 54 = 18014398509481984 by decide]
  have p := Nm.two_pos 970
  have q := Nm.two_pos 1075
  rw [e2] at h
  rw [e1]
  generalize (2 : Int) ^ 970 = A at *
  generalize (2 : Int) ^ 1075 = B at *
  have h1 : 18014398509481984 * A * d * B ≤ n * B := Int.mul_le_mul_of_nonneg_right h (by omega)
  have e3 : 18014398509481983 * (A * B) * d = 18014398509481983 * (A * d * B) := by ac_rfl
  have e4 : 18014398509481984 * A * d * B = 18014398509481984 * (A * d * B) := by ac_rfl
  have r := Int.mul_pos (Int.mul_pos p hd) q
  rw [e3]
  rw [e4] at h1
  generalize A * d * B = C at *
  omega

theorem rnd_little {n d : Int} (h : n * 2 ^ 1075 < d) : Rnd n d 0 false 0 := by
  refine Rnd.of (a := 1075) (b := 0) (by decide) ⟨⟨by omega, by omega⟩, fun h => absurd h (by omega), fun _ => .inl ?_⟩
  rw [md_zero, Int.one_mul, Int.pow_zero, Int.mul_one]
  exact h

theorem ten_five (k : Nat) : (10 : Int) ^ k = 5 ^ k * 2 ^ k := by rw [← Int.mul_pow]; rfl
theorem ten_pos (k : Nat) : (0 : Int) < 10 ^ k := Int.pow_pos (by decide)
theorem ten_le {a b : Nat} (h : a ≤ b) : (10 : Int) ^ a ≤ 10 ^ b := by
  have h1 := Nat.pow_le_pow_right (show 0 < 10 by decide) h
  have e : ∀ k : Nat, ((10 ^ k : Nat) : Int) = 10 ^ k := by intro k; simp
  have e1 := e a
  have e2 := e b
  omega
theorem five_mono {a b : Nat} (h : a ≤ b) : (5 : Int) ^ a ≤ 5 ^ b := by
  have h1 := Nat.pow_le_pow_right (show 0 < 5 by decide) h
  have e : ∀ k : Nat, ((5 ^ k : Nat) : Int) = 5 ^ k := by intro k; simp
  have e1 := e a
  have e2 := e b
  omega

theorem big1 : (2 : Int) ^ 1024 ≤ 10 ^ 400 := by decide +kernel
theorem big2 : (2 : Int) ^ 1075 ≤ 10 ^ 399 := by decide +kernel
theorem big3 : (2 : Int) ^ 1024 ≤ 10 ^ 767 := by decide +kernel
theorem big4 : (18014398509481984 : Int) * 5 ^ 1075 ≤ 10 ^ 768 := by decide +kernel

/-- Of the numbers with 768 figures, no two neighbours have a middle between them. -/
theorem no_middle {A T : Int} {u p q : Nat} (hA : 0 < A) (hA1 : A < 18014398509481984) (hu : u ≤ 2045) (hT : 10 ^ 767 ≤ T) (hpq : p = 0 ∨ q = 0) :
    A * 2 ^ u * 10 ^ q ≤ T * 10 ^ p * 2 ^ 1075 ∨ (T + 1) * 10 ^ p * 2 ^ 1075 ≤ A * 2 ^ u * 10 ^ q := by
  have tp := ten_pos p
  have tq := ten_pos q
  have T0 : 0 < T := by have := ten_pos 767; omega
  rcases (show 1075 ≤ u ∨ u < 1075 by omega) with h | h
  · obtain ⟨k, rfl⟩ : ∃ k, u = k + 1075 := ⟨u - 1075, by omega⟩
    have e1 : A * 2 ^ (k + 1075) * 10 ^ q = A * 2 ^ k * 10 ^ q * 2 ^ 1075 := by rw [Nm.two_add, ← Int.mul_assoc A, Int.mul_assoc (A * 2 ^ k), Int.mul_comm (2 ^ 1075) (10 ^ q), ← Int.mul_assoc]
    rw [e1]
    have P := Nm.two_pos 1075
    generalize (2 : Int) ^ 1075 = B at *
    have key : A * 2 ^ k * 10 ^ q ≤ T * 10 ^ p ∨ (T + 1) * 10 ^ p ≤ A * 2 ^ k * 10 ^ q := by
      rcases hpq with rfl | rfl
      · rw [Int.pow_zero, Int.mul_one, Int.mul_one]; omega
      · left
        rw [Int.pow_zero, Int.mul_one]
        have k1 : (2 : Int) ^ k ≤ 2 ^ 970 := Nm.two_mono (by omega)
        have e2 : (2 : Int) ^ 1024 = 18014398509481984 * 2 ^ 970 := by rw [show 1024 = 54 + 970 by rfl, Nm.two_add, show (2 : Int) ^ 54 = 18014398509481984 by decide]
        have h1 : A * 2 ^ k ≤ A * 2 ^ 970 := Int.mul_le_mul_of_nonneg_left k1 (by omega)
        have h2 : A * 2 ^ 970 ≤ 18014398509481984 * 2 ^ 970 := Int.mul_le_mul_of_nonneg_right (by omega) (by have := Nm.two_pos 970; omega)
        have h3 : T * 1 ≤ T * 10 ^ p := Int.mul_le_mul_of_nonneg_left (by omega) (by omega)
        have h4 := big3
        rw [e2] at h4
        generalize (2 : Int) ^ 970 = C at *
        generalize (10 : Int) ^ 767 = G at *
        omega
    rcases key with g | g
    · exact .inl (Int.mul_le_mul_of_nonneg_right g (by omega))
    · exact .inr (Int.mul_le_mul_of_nonneg_right g (by omega))
  · obtain ⟨k, hk⟩ : ∃ k, u + k = 1075 := ⟨1075 - u, by omega⟩
    have e0 : (2 : Int) ^ 1075 = 2 ^ u * 2 ^ k := by rw [← hk, Nm.two_add]
    have pu := Nm.two_pos u
    have f5 : (0 : Int) < 5 ^ k := Int.pow_pos (by decide)
    have N1 : A * 5 ^ k < 10 ^ 768 := by
      have g1 : A * 5 ^ k < 18014398509481984 * 5 ^ k := Int.mul_lt_mul_of_pos_right hA1 f5
      have g2 : (18014398509481984 : Int) * 5 ^ k ≤ 18014398509481984 * 5 ^ 1075 := Int.mul_le_mul_of_nonneg_left (five_mono (by omega)) (by omega)
      have g3 := big4
      generalize (5 : Int) ^ 1075 = X at *
      generalize (10 : Int) ^ 768 = Y at *
      omega
    have key : A * 5 ^ k * 10 ^ q ≤ T * 10 ^ (p + k) ∨ (T + 1) * 10 ^ (p + k) ≤ A * 5 ^ k * 10 ^ q := by
      rcases (show p + k ≤ q ∨ q < p + k by omega) with g | g
      · have hp : p = 0 := by omega
        obtain ⟨r, rfl⟩ : ∃ r, q = r + (p + k) := ⟨q - (p + k), by omega⟩
        have e1 : A * 5 ^ k * 10 ^ (r + (p + k)) = A * 5 ^ k * 10 ^ r * 10 ^ (p + k) := by rw [Int.pow_add 10 r (p + k), ← Int.mul_assoc]
        rw [e1]
        have tk := ten_pos (p + k)
        rcases (show A * 5 ^ k * 10 ^ r ≤ T ∨ T + 1 ≤ A * 5 ^ k * 10 ^ r by omega) with c | c
        · exact .inl (Int.mul_le_mul_of_nonneg_right c (by omega))
        · exact .inr (Int.mul_le_mul_of_nonneg_right c (by omega))
      · left
        obtain ⟨r, hr⟩ : ∃ r, p + k = r + 1 + q := ⟨p + k - q - 1, by omega⟩
        have e1 : T * 10 ^ (p + k) = T * 10 ^ (r + 1) * 10 ^ q := by rw [hr, Int.pow_add 10 (r + 1) q, Int.mul_assoc]
        rw [e1]
        refine Int.mul_le_mul_of_nonneg_right ?_ (by omega)
        have g1 : T * 10 ^ 1 ≤ T * 10 ^ (r + 1) := Int.mul_le_mul_of_nonneg_left (ten_le (by omega)) (by omega)
        have g2 : (10 : Int) ^ 768 = 10 ^ 767 * 10 := Int.pow_succ 10 767
        rw [Int.pow_one] at g1
        rw [g2] at N1
        generalize (10 : Int) ^ 767 = Y at *
        omega
    have e1 : ∀ X : Int, X * 10 ^ p * 2 ^ 1075 * 5 ^ k = X * 10 ^ (p + k) * 2 ^ u := by
      intro X
      rw [e0, Int.pow_add, ten_five k]
      ac_rfl
    have e2 : A * 2 ^ u * 10 ^ q * 5 ^ k = A * 5 ^ k * 10 ^ q * 2 ^ u := by ac_rfl
    rcases key with g | g
    · left
      have := Int.mul_le_mul_of_nonneg_right g (show (0 : Int) ≤ 2 ^ u by omega)
      rw [← e1, ← e2] at this
      exact Int.le_of_mul_le_mul_right this f5
    · right
      have := Int.mul_le_mul_of_nonneg_right g (show (0 : Int) ≤ 2 ^ u by omega)
      rw [← e1, ← e2] at this
      exact Int.le_of_mul_le_mul_right this f5

theorem md_side {T y : Int} {p q : Nat} (hT : 10 ^ 767 ≤ T) (hpq : p = 0 ∨ q = 0) (h0 : 0 ≤ y) (h1 : y < 9218868437227405312) :
    md y * 10 ^ q ≤ T * 10 ^ p * 2 ^ 1075 ∨ (T + 1) * 10 ^ p * 2 ^ 1075 ≤ md y * 10 ^ q := by
  have m := man_nn y h0
  exact no_middle (by omega) (by omega) (by unfold ex; omega) hT hpq

/-- V / D lies between T and T + 1, times 10^(p - q). -/
def Btw (T : Int) (p q : Nat) (V D : Int) : Prop := T * 10 ^ p * D < V * 10 ^ q ∧ V * 10 ^ q < (T + 1) * 10 ^ p * D

theorem Btw.lo {T V D M : Int} {p q : Nat} (h : Btw T p q V D) (hD : 0 < D) (hM : M * 10 ^ q ≤ T * 10 ^ p * 2 ^ 1075) : M * D < V * 2 ^ 1075 := by
  have tq := ten_pos q
  have P := Nm.two_pos 1075
  generalize (2 : Int) ^ 1075 = B at *
  have a1 : M * 10 ^ q * D ≤ T * 10 ^ p * B * D := Int.mul_le_mul_of_nonneg_right hM (by omega)
  have a2 := Int.mul_lt_mul_of_pos_right h.1 P
  have e1 : T * 10 ^ p * B * D = T * 10 ^ p * D * B := by ac_rfl
  have e2 : M * 10 ^ q * D = M * D * 10 ^ q := by ac_rfl
  have e3 : V * 10 ^ q * B = V * B * 10 ^ q := by ac_rfl
  exact Int.lt_of_mul_lt_mul_right (a := 10 ^ q) (by omega) (by omega)
theorem Btw.hi {T V D M : Int} {p q : Nat} (h : Btw T p q V D) (hD : 0 < D) (hM : (T + 1) * 10 ^ p * 2 ^ 1075 ≤ M * 10 ^ q) : V * 2 ^ 1075 < M * D := by
  have tq := ten_pos q
  have P := Nm.two_pos 1075
  generalize (2 : Int) ^ 1075 = B at *
  have a1 : (T + 1) * 10 ^ p * B * D ≤ M * 10 ^ q * D := Int.mul_le_mul_of_nonneg_right hM (by omega)
  have a2 := Int.mul_lt_mul_of_pos_right h.2 P
  have e1 : (T + 1) * 10 ^ p * B * D = (T + 1) * 10 ^ p * D * B := by ac_rfl
  have e2 : M * 10 ^ q * D = M * D * 10 ^ q := by ac_rfl
  have e3 : V * 10 ^ q * B = V * B * 10 ^ q := by ac_rfl
  exact Int.lt_of_mul_lt_mul_right (a := 10 ^ q) (by omega) (by omega)

/-- Two numbers between the same neighbours round alike. -/
theorem Btw.rnd {T V D V' D' x : Int} {p q : Nat} (hT : 10 ^ 767 ≤ T) (hpq : p = 0 ∨ q = 0) (hD : 0 < D) (hD' : 0 < D') (h : Btw T p q V D) (h' : Btw T p q V' D') (hr : Rnd V D 0 false x) : Rnd V' D' 0 false x := by
  have hn := hr 1075 0 (by decide)
  refine Rnd.of (a := 1075) (b := 0) (by decide) ?_
  rw [Int.pow_zero, Int.mul_one] at hn ⊢
  refine ⟨hn.1, fun hx => .inl ?_, fun hx => .inl ?_⟩
  · rcases md_side (y := x - 1) hT hpq (by omega) (by have := hn.1; omega) with s | s
    · exact h'.lo hD' s
    · have a := h.hi hD s
      rcases hn.2.1 hx with g | g
      · omega
      · omega
  · rcases md_side (y := x) hT hpq hn.1.1 hx with s | s
    · have a := h.lo hD s
      rcases hn.2.2 hx with g | g
      · omega
      · omega
    · exact h'.hi hD' s
end Ie

/-- The double nearest to the decimal xs * 10^e. -/
def Dr (xs : List Int) (e x : Int) : Prop := Ie.Rnd (dw xs * 10 ^ e.toNat) (10 ^ (-e).toNat) 0 false x

theorem Dr.one {xs : List Int} {e x y : Int} (h : Dr xs e x) (k : Dr xs e y) : x = y :=
  Ie.Rnd.one (a := 0) (a' := 0) (Ie.ten_pos _) (Ie.ten_pos _) h k (by omega) rfl
theorem Dr.bd {xs : List Int} {e x : Int} (h : Dr xs e x) : 0 ≤ x ∧ x ≤ 9218868437227405312 := Ie.Rnd.bd h

theorem Dr.same {xs ys : List Int} {e f x : Int} (h : Dr xs e x) (hv : dw xs * 10 ^ e.toNat * 10 ^ (-f).toNat = dw ys * 10 ^ f.toNat * 10 ^ (-e).toNat) : Dr ys f x :=
  Ie.Rnd.same (Ie.ten_pos _) (Ie.ten_pos _) h hv

theorem Dr.mono {xs ys : List Int} {e f x y : Int} (h : Dr xs e x) (k : Dr ys f y) (hv : dw xs * 10 ^ e.toNat * 10 ^ (-f).toNat ≤ dw ys * 10 ^ f.toNat * 10 ^ (-e).toNat) : x ≤ y := by
  refine Ie.Rnd.mono (a := 0) (a' := 0) (Ie.ten_pos _) (Ie.ten_pos _) h k (by omega) ?_
  rw [Int.pow_zero, Int.mul_one, Int.mul_one]
  rcases Int.lt_or_eq_of_le hv with g | g
  · exact .inl g
  · exact .inr ⟨g, id⟩

theorem Dr.tell {xs : List Int} {e x y : Int} (hd : Dig9 xs) (h : TellIs xs e x true) (hy : Dr xs e y) : x = y := tell_true hd h hy

theorem dr_up {xs : List Int} {e x : Int} (j : Nat) (he : e = (j : Int)) (h : Ie.Rnd (dw xs * 5 ^ j) 1 e false x) : Dr xs e x := by
  have g := h.up j
  rw [show e - (j : Int) = 0 by omega, Int.mul_assoc, ← Ie.ten_five] at g
  unfold Dr
  rw [show e.toNat = j by omega, show (-e).toNat = 0 by omega]
  exact g
theorem dr_down {xs : List Int} {e x : Int} (j : Nat) (he : e = -(j : Int)) (h : Ie.Rnd (dw xs) (5 ^ j) e false x) : Dr xs e x := by
  have g := h.down j
  rw [show e + (j : Int) = 0 by omega, ← Ie.ten_five] at g
  unfold Dr
  rw [show e.toNat = 0 by omega, show (-e).toNat = j by omega, Int.pow_zero, Int.mul_one]
  exact g

theorem dw_low {xs : List Int} (h : Dig9 xs) (hn : xs ≠ []) (h0 : xs.getD 0 0 ≠ 48) : 10 ^ (xs.length - 1) ≤ dw xs := by
  cases xs with
  | nil => exact absurd rfl hn
  | cons x l =>
    have h1 := dv_cons x l
    rw [dw_dv, dw_dv] at h1
    have h2 := h x (by simp)
    have h3 : x ≠ 48 := h0
    have h4 := (dw_range (xs := l) (fun y hy => h y (by simp [hy]))).1
    have p := Ie.ten_pos l.length
    have h5 : 1 * 10 ^ l.length ≤ (x - 48) * 10 ^ l.length := Int.mul_le_mul_of_nonneg_right (by omega) (by omega)
    rw [show (x :: l).length - 1 = l.length by simp]
    omega

theorem dw_last {xs : List Int} (h : Dig9 xs) (hn : xs ≠ []) (h0 : xs.getD (xs.length - 1) 0 ≠ 48) : 0 < dw xs := by
  have l0 : 0 < xs.length := List.length_pos_iff.2 hn
  have h1 := dw_take (ds := xs) (j := xs.length - 1) (by omega)
  rw [show xs.length - 1 + 1 = xs.length by omega, List.take_length] at h1
  have h2 := h.at (j := xs.length - 1) (by omega)
  have h3 := (dw_bd h (xs.length - 1) (by omega)).1
  omega

theorem dr_inf {xs : List Int} {e : Int} (hd : Dig9 xs) (hn : xs ≠ []) (h0 : xs.getD 0 0 ≠ 48) (h : 400 ≤ e + xs.length - 1) : Dr xs e 9218868437227405312 := by
  refine Ie.rnd_great (Ie.ten_pos _) ?_
  have l0 : 0 < xs.length := List.length_pos_iff.2 hn
  have lo := dw_low hd hn h0
  have h1 : (10 : Int) ^ (400 + (-e).toNat) ≤ 10 ^ (xs.length - 1 + e.toNat) := Ie.ten_le (by omega)
  rw [Int.pow_add, Int.pow_add] at h1
  have h2 : (10 : Int) ^ (xs.length - 1) * 10 ^ e.toNat ≤ dw xs * 10 ^ e.toNat := Int.mul_le_mul_of_nonneg_right lo (Int.le_of_lt (Ie.ten_pos _))
  have h3 : (2 : Int) ^ 1024 * 10 ^ (-e).toNat ≤ 10 ^ 400 * 10 ^ (-e).toNat := Int.mul_le_mul_of_nonneg_right Ie.big1 (Int.le_of_lt (Ie.ten_pos _))
  exact Int.le_trans h3 (Int.le_trans h1 h2)

theorem dr_zero {xs : List Int} {e : Int} (hd : Dig9 xs) (hn : xs ≠ []) (h : e + xs.length - 1 ≤ -400) : Dr xs e 0 := by
  refine Ie.rnd_little ?_
  have l0 : 0 < xs.length := List.length_pos_iff.2 hn
  have hi := (dw_range hd).2
  have nn := (dw_range hd).1
  rw [show e.toNat = 0 by omega, Int.pow_zero, Int.mul_one]
  have h1 : (10 : Int) ^ (xs.length + 399) ≤ 10 ^ (-e).toNat := Ie.ten_le (by omega)
  rw [Int.pow_add] at h1
  have t := Ie.ten_pos 399
  have h2 : dw xs * 2 ^ 1075 ≤ dw xs * 10 ^ 399 := Int.mul_le_mul_of_nonneg_left Ie.big2 nn
  have h3 : dw xs * 10 ^ 399 < 10 ^ xs.length * 10 ^ 399 := Int.mul_lt_mul_of_pos_right hi t
  exact Int.lt_of_le_of_lt h2 (Int.lt_of_lt_of_le h3 h1)

theorem btw_of {T t v e E : Int} {r : Nat} (hE : E = e + r) (hv : v = T * 10 ^ r + t) (t0 : 0 < t) (t1 : t < 10 ^ r) : Ie.Btw T E.toNat (-E).toNat (v * 10 ^ e.toNat) (10 ^ (-e).toNat) := by
  have ta := tens_add hE
  have pp : (0 : Int) < 10 ^ e.toNat * 10 ^ (-E).toNat := Int.mul_pos (Ie.ten_pos _) (Ie.ten_pos _)
  unfold Ie.Btw
  rw [Int.mul_assoc T, Int.mul_assoc (T + 1), ← ta, Int.mul_assoc v, ← Int.mul_assoc T, ← Int.mul_assoc (T + 1)]
  refine ⟨Int.mul_lt_mul_of_pos_right (by omega) pp, Int.mul_lt_mul_of_pos_right ?_ pp⟩
  rw [Int.add_mul, Int.one_mul]
  omega

theorem dig1 : Dig9 [49] := fun x hx => by simp at hx; omega
theorem Dig9.append {xs ys : List Int} (h : Dig9 xs) (k : Dig9 ys) : Dig9 (xs ++ ys) := fun x hx => by
  rcases List.mem_append.1 hx with g | g
  · exact h x g
  · exact k x g

/-- Of the figures behind the first K only that there are some counts. -/
theorem dr_cut {xs : List Int} {e x : Int} (K : Nat) (hK : 768 ≤ K) (hd : Dig9 xs) (hl : K < xs.length) (h0 : xs.getD 0 0 ≠ 48) (h1 : xs.getD (xs.length - 1) 0 ≠ 48) (h : Dr (xs.take K ++ [49]) (e + xs.length - K - 1) x) : Dr xs e x := by
  have hT : 10 ^ 767 ≤ dw (xs.take K) := by
    have hlen : (xs.take K).length = K := by rw [List.length_take]; omega
    have := dw_low (hd.take K) (by intro c; rw [c] at hlen; simp at hlen; omega) (by
      cases xs with
      | nil => simp at hl
      | cons x l =>
        cases K with
        | zero => omega
        | succ k => simpa using h0)
    rw [hlen] at this
    exact Int.le_trans (Ie.ten_le (by omega)) this
  have sp := dw_split (xs := xs) K
  have tl := dw_range (hd.drop K)
  rw [List.length_drop] at tl
  have tp : 0 < dw (xs.drop K) := by
    refine dw_last (hd.drop K) ?_ ?_
    · intro c
      have := congrArg List.length c
      rw [List.length_drop, List.length_nil] at this
      omega
    · rw [List.length_drop, show (xs.drop K).getD (xs.length - K - 1) 0 = xs.getD (xs.length - 1) 0 by
        simp only [List.getD, List.getElem?_drop]; rw [show K + (xs.length - K - 1) = xs.length - 1 by omega]]
      exact h1
  obtain ⟨r, hr⟩ : ∃ r : Nat, xs.length = r + K := ⟨xs.length - K, by omega⟩
  rw [show xs.length - K = r by omega] at sp tl
  have b1 := btw_of (e := e) (E := e + r) rfl sp tp tl.2
  have sn := dw_snoc (xs.take K) 49
  have b2 := btw_of (T := dw (xs.take K)) (t := 1) (v := dw (xs.take K ++ [49])) (e := e + xs.length - K - 1) (E := e + r) (r := 1) (by omega) (by rw [sn, Int.pow_one, Int.mul_comm]; rfl) (by omega) (by decide)
  exact b2.rnd hT (by omega) (Ie.ten_pos _) (Ie.ten_pos _) b1 h

/-- Zeros at both ends don't count. -/
theorem dw_zeros {l : List Int} (h : ∀ i, i < l.length → l.getD i 0 = 48) : dw l = 0 := by
  have : ∀ j, j ≤ l.length → dw (l.take j) = 0 := by
    intro j
    induction j with
    | zero => intro _; simp [dw]
    | succ j ih =>
      intro hj
      rw [dw_take (by omega), ih (by omega), h j (by omega)]
      rfl
  have := this l.length (Nat.le_refl _)
  rwa [List.take_length] at this
theorem dw_head0 {l : List Int} (k : Nat) (h : ∀ i, i < k → l.getD i 0 = 48) : dw l = dw (l.drop k) := by
  rw [dw_split (xs := l) k, dw_zeros (l := l.take k) (fun i hi => ?_), Int.zero_mul, Int.zero_add]
  rw [List.length_take] at hi
  have hik : i < k := by omega
  have := h i hik
  simp only [List.getD, List.getElem?_take, if_pos hik] at *
  exact this
theorem dw_tail0 {l : List Int} (k : Nat) (h : ∀ i, k ≤ i → i < l.length → l.getD i 0 = 48) : dw l = dw (l.take k) * 10 ^ (l.length - k) := by
  rw [dw_split (xs := l) k, dw_zeros (l := l.drop k) (fun i hi => ?_), Int.add_zero]
  rw [List.length_drop] at hi
  have := h (k + i) (by omega) (by omega)
  simp only [List.getD, List.getElem?_drop] at *
  exact this

theorem dw_nrm (neg : Bool) (xs : List Int) (e : Int) : dw xs * 10 ^ e.toNat * 10 ^ (-(Sc.nrm neg xs e).e).toNat = dw (Sc.nrm neg xs e).ds * 10 ^ (Sc.nrm neg xs e).e.toNat * 10 ^ (-e).toNat := by
  by_cases h : Sc.lz xs = xs.length
  · rw [Sc.nrm_zero h]
    rw [dw_zeros (l := xs) (fun i hi => Sc.lz_at (by omega))]
    simp [dw]
  · rw [Sc.nrm_pos h]
    simp only
    have lt := Sc.lz_tz h
    have a1 := dw_head0 (l := xs) (Sc.lz xs) (fun i hi => Sc.lz_at hi)
    have a2 := dw_tail0 (l := xs.drop (Sc.lz xs)) (xs.length - Sc.tz xs - Sc.lz xs) (fun i hi hl => by
      rw [List.length_drop] at hl
      have := Sc.tz_at (ds := xs) (i := Sc.lz xs + i) (by omega) (by omega)
      rw [← this]
      exact Sc.pk_drop xs _ i)
    rw [List.length_drop, show xs.length - Sc.lz xs - (xs.length - Sc.tz xs - Sc.lz xs) = Sc.tz xs by omega] at a2
    rw [a1, a2]
    have ta := tens_add (e := e) (q := e + (Sc.tz xs : Nat)) (r := Sc.tz xs) rfl
    generalize dw ((xs.drop (Sc.lz xs)).take (xs.length - Sc.tz xs - Sc.lz xs)) = D
    rw [Int.mul_assoc D, Int.mul_assoc D, Int.mul_assoc (10 ^ Sc.tz xs), ta, ← Int.mul_assoc D]

theorem Dr.nrm {neg : Bool} {xs : List Int} {e x : Int} (h : Dr (Sc.nrm neg xs e).ds (Sc.nrm neg xs e).e x) : Dr xs e x := h.same (dw_nrm neg xs e).symm
theorem Dr.nrm' {neg : Bool} {xs : List Int} {e x : Int} (h : Dr xs e x) : Dr (Sc.nrm neg xs e).ds (Sc.nrm neg xs e).e x := h.same (dw_nrm neg xs e)
end Go.Proofs.YtjkefcikepnbpaaGreatDoor

namespace Go.Proofs.YtjkefcikepnbpaaGreatDoor
open Go Go.RowKit Go.Deep

theorem dw_cons (x : Int) (l : List Int) : dw (x :: l) = (x - 48) * 10 ^ l.length + dw l := by
  have h := dv_cons x l
  rw [dw_dv, dw_dv] at h
  exact h

theorem lex_le : ∀ (xs ys : List Int) (M : Nat), Dig9 xs → Dig9 ys → xs.length ≤ M → ys.length ≤ M → Sc.lex xs ys ≤ 0 → dw xs * 10 ^ (M - xs.length) ≤ dw ys * 10 ^ (M - ys.length)
  | [], ys, M, _, hy, _, _, _ => by
    have := (dw_range hy).1
    have h := Int.mul_nonneg this (Int.le_of_lt (Ie.ten_pos (M - ys.length)))
    simp only [dw, List.foldl_nil, Int.zero_mul]
    exact h
  | x :: a, [], M, _, _, _, _, h => by simp [Sc.lex] at h
  | x :: a, y :: b, 0, _, _, h, _, _ => by simp at h
  | x :: a, y :: b, M + 1, hx, hy, lx, ly, h => by
    have hxa : Dig9 a := fun z hz => hx z (by simp [hz])
    have hyb : Dig9 b := fun z hz => hy z (by simp [hz])
    rw [List.length_cons] at lx ly
    have ea : ∀ (z : Int) (l : List Int), l.length ≤ M → dw (z :: l) * 10 ^ (M + 1 - (z :: l).length) = (z - 48) * 10 ^ M + dw l * 10 ^ (M - l.length) := by
      intro z l hl
      rw [dw_cons, List.length_cons, show M + 1 - (l.length + 1) = M - l.length by omega, Int.add_mul, Int.mul_assoc, ← Int.pow_add, show l.length + (M - l.length) = M by omega]
    rw [ea x a (by omega), ea y b (by omega)]
    simp only [Sc.lex] at h
    rcases Int.lt_trichotomy x y with c | c | c
    · have b1 : dw a * 10 ^ (M - a.length) < 10 ^ a.length * 10 ^ (M - a.length) := Int.mul_lt_mul_of_pos_right (dw_range hxa).2 (Ie.ten_pos _)
      rw [← Int.pow_add, show a.length + (M - a.length) = M by omega] at b1
      have b2 : 0 ≤ dw b * 10 ^ (M - b.length) := Int.mul_nonneg (dw_range hyb).1 (Int.le_of_lt (Ie.ten_pos _))
      have b3 : (x - 48 + 1) * 10 ^ M ≤ (y - 48) * 10 ^ M := Int.mul_le_mul_of_nonneg_right (by omega) (Int.le_of_lt (Ie.ten_pos _))
      rw [Int.add_mul, Int.one_mul] at b3
      omega
    · subst c
      rw [if_neg (by omega), if_neg (by omega)] at h
      have := lex_le a b M hxa hyb (by omega) (by omega) h
      omega
    · rw [if_neg (by omega), if_pos c] at h
      omega

/-- a's number is at most b's. -/
def Vle (a b : Sc.D) : Prop := dw a.ds * 10 ^ a.e.toNat * 10 ^ (-b.e).toNat ≤ dw b.ds * 10 ^ b.e.toNat * 10 ^ (-a.e).toNat

theorem mc_le {a b : Sc.D} (ha : Dig9 a.ds) (hb : Dig9 b.ds) (hn : b.ds ≠ []) (h0 : b.ds.getD 0 0 ≠ 48) (h : Sc.mc a b ≤ 0) : Vle a b := by
  unfold Vle
  have l0 : 0 < b.ds.length := List.length_pos_iff.2 hn
  rw [Int.mul_assoc, Int.mul_assoc, ← Int.pow_add, ← Int.pow_add]
  unfold Sc.mc at h
  split at h
  · rename_i hp
    have hl : Sc.pl a < Sc.pl b := by rcases Sc.cmpI_c (Sc.pl a) (Sc.pl b) with k | k | k <;> omega
    unfold Sc.pl at hl
    have h1 : dw a.ds * 10 ^ (a.e.toNat + (-b.e).toNat) ≤ 10 ^ a.ds.length * 10 ^ (a.e.toNat + (-b.e).toNat) := Int.mul_le_mul_of_nonneg_right (Int.le_of_lt (dw_range ha).2) (Int.le_of_lt (Ie.ten_pos _))
    have h2 : 10 ^ (b.ds.length - 1) * 10 ^ (b.e.toNat + (-a.e).toNat) ≤ dw b.ds * 10 ^ (b.e.toNat + (-a.e).toNat) := Int.mul_le_mul_of_nonneg_right (dw_low hb hn h0) (Int.le_of_lt (Ie.ten_pos _))
    rw [← Int.pow_add] at h1 h2
    exact Int.le_trans h1 (Int.le_trans (Ie.ten_le (by omega)) h2)
  · rename_i hp
    have hl : Sc.pl a = Sc.pl b := by omega
    unfold Sc.pl at hl
    obtain ⟨M, hM⟩ : ∃ M, M = max a.ds.length b.ds.length := ⟨_, rfl⟩
    have := lex_le a.ds b.ds M ha hb (by omega) (by omega) h
    obtain ⟨s, hs⟩ : ∃ s, a.e.toNat + (-b.e).toNat = M - a.ds.length + s := ⟨a.e.toNat + (-b.e).toNat - (M - a.ds.length), by omega⟩
    have hs2 : b.e.toNat + (-a.e).toNat = M - b.ds.length + s := by omega
    rw [hs, hs2, Int.pow_add, Int.pow_add, ← Int.mul_assoc, ← Int.mul_assoc]
    exact Int.mul_le_mul_of_nonneg_right this (Int.le_of_lt (Ie.ten_pos _))

/-- A double with its sign, as a number. -/
def sv (neg : Bool) (x : Int) : Int := if neg = true then -x else x

theorem dr48 {x : Int} (h : Dr [48] 0 x) : x = 0 := by
  have h2 : Ie.Rnd 0 1 0 false x := by simpa [Dr, dw] using h
  exact Ie.Rnd.one (a := 0) (a' := 0) (by decide) (by decide) h2 (Ie.rnd_zero 1 0 false (by decide)) (by omega) rfl

theorem Nml.dig {xs : List Int} {e : Int} (h : Nml xs e) : Dig9 xs := isdec_dig h.1
theorem Nml.ne {xs : List Int} {e : Int} (h : Nml xs e) : xs ≠ [] := h.1.1
theorem Nml.form {xs : List Int} {e : Int} (h : Nml xs e) : (xs = [48] ∧ e = 0) ∨ (xs ≠ [48] ∧ xs.getD 0 0 ≠ 48 ∧ xs.getD (xs.length - 1) 0 ≠ 48) := ((nml_iff xs e).1 h).2.2.2.2

theorem Nml.zero {xs : List Int} {e x : Int} (h : Nml xs e) (h4 : xs = [48]) (hx : Dr xs e x) : x = 0 := by
  rcases h.form with ⟨_, g⟩ | ⟨g, _⟩
  · subst h4 g; exact dr48 hx
  · exact absurd h4 g

theorem nml_nrm {xs : List Int} {e : Int} (neg : Bool) (h : Sc.IsDec xs e) : Nml (Sc.nrm neg xs e).ds (Sc.nrm neg xs e).e := by
  rw [nml_iff]
  obtain ⟨h1, h2, h3, h4, h5⟩ := h
  by_cases hz : Sc.lz xs = xs.length
  · rw [Sc.nrm_zero hz]
    refine ⟨by simp, by simp, by simp, ?_, .inl ⟨rfl, rfl⟩⟩
    intro i hi
    simp at hi
    subst hi
    simp
  · rw [Sc.nrm_pos hz]
    have lt := Sc.lz_tz hz
    have e5 := h5 hz
    simp only
    have len : ((xs.drop (Sc.lz xs)).take (xs.length - Sc.tz xs - Sc.lz xs)).length = xs.length - Sc.tz xs - Sc.lz xs := by rw [List.length_take, List.length_drop]; omega
    have at_ : ∀ i, i < xs.length - Sc.tz xs - Sc.lz xs → ((xs.drop (Sc.lz xs)).take (xs.length - Sc.tz xs - Sc.lz xs)).getD i 0 = Sc.pk xs (Sc.lz xs + i) := by
      intro i hi
      have := Sc.pk_take (xs.drop (Sc.lz xs)) (xs.length - Sc.tz xs - Sc.lz xs) i
      rw [if_pos hi, Sc.pk_drop] at this
      exact this
    have hd : ((xs.drop (Sc.lz xs)).take (xs.length - Sc.tz xs - Sc.lz xs)).getD 0 0 ≠ 48 := by
      rw [at_ 0 (by omega), Nat.add_zero]; exact Sc.lz_end xs
    refine ⟨?_, by omega, by omega, ?_, .inr ⟨?_, hd, ?_⟩⟩
    · intro c; rw [c] at len; simp at len; omega
    · intro i hi
      rw [len] at hi
      rw [at_ i hi]
      have hi2 : Sc.lz xs + i < xs.length := by omega
      have := h4 (xs[Sc.lz xs + i]) (List.getElem_mem hi2)
      have e : Sc.pk xs (Sc.lz xs + i) = xs[Sc.lz xs + i] := by simp [Sc.pk, List.getD, hi2]
      rw [e]
      exact Sc.dg_iff.1 this
    · intro c; rw [c] at hd; exact hd rfl
    · rw [len, at_ _ (by omega), show Sc.lz xs + (xs.length - Sc.tz xs - Sc.lz xs - 1) = xs.length - Sc.tz xs - 1 by omega]
      exact Sc.tz_end (by omega)

end Go.Proofs.YtjkefcikepnbpaaGreatDoor

namespace Go.Proofs.YtjkefcikepnbpaaGreatDoor
open Go Go.RowKit Go.Deep

/-- What cut keeps. -/
def CutIs (xs : List Int) (e : Int) (ys : List Int) (f : Int) : Prop := (xs.length ≤ 768 ∧ ys = xs ∧ f = e) ∨ (768 < xs.length ∧ ys = xs.take 768 ++ [49] ∧ f = e + xs.length - (768 : Nat) - 1)

theorem Str.cat {s t : ByteArray} {xs ys : List Int} (h : Str s xs) (k : Str t ys) : Str (s ++ t) (xs ++ ys) := by
  unfold Str at *
  rw [ByteArray.data_append, Array.toList_append, List.map_append, h, k]

set_option maxRecDepth 100000 in
set_option maxHeartbeats 1000000 in
theorem cut_any10 (s : ByteArray) (xs : List Int) (e : Int) (w : World) (hs : Str s xs) (hn : xs.length ≤ 281474976710656) (e0 : -1152921504606846976 ≤ e) (e1 : e ≤ 1152921504606846976) :
    Calls Tryz.prog 197 #[.string s, .int .i64 e] w fun r w' => (∃ t ys f, r = .returned (.tuple #[.string t, .int .i64 f]) ∧ Str t ys ∧ CutIs xs e ys f) ∧ w' = w := by
  have hsz := hs.size
  by_cases h : xs.length ≤ 768
  · have F : Hid (∃ t ys f, Ending.returned (.tuple #[.string s, .int .i64 e]) = .returned (.tuple #[.string t, .int .i64 f]) ∧ Str t ys ∧ CutIs xs e ys f) := ⟨s, xs, e, rfl, hs, .inl ⟨h, rfl, rfl⟩⟩
    have hi : (xs.length : Int) ≤ 768 := by omega
    clear hs hn h
    go_enter Tryz.func197, Tryz.ntmps197
    go_wp2_with fail
    go_ret2
    exact ⟨F.out, rfl⟩
  · have EX := hs.extract 0 768
    simp only [List.drop_zero, Nat.sub_zero] at EX
    have F : Hid (∃ t ys f, Ending.returned (.tuple #[.string (s.extract 0 768 ++ ⟨#[49]⟩), .int .i64 (e + xs.length - (768 : Nat) - 1)]) = .returned (.tuple #[.string t, .int .i64 f]) ∧ Str t ys ∧ CutIs xs e ys f) := ⟨_, _, _, rfl, EX.cat (ys := [49]) rfl, .inr ⟨by omega, rfl, rfl⟩⟩
    have hx : (s.extract 0 768).size = 768 := by rw [EX.size, List.length_take]; omega
    have hi : ¬ (xs.length : Int) ≤ 768 := by omega
    have hb : (xs.length : Int) ≤ 281474976710656 := by omega
    have hs1 : 768 ≤ s.size := by omega
    obtain ⟨q, hq⟩ : ∃ q, e + ((xs.length : Int) - 768 - 1) = q := ⟨_, rfl⟩
    have hq2 : e + (xs.length : Int) - (768 : Nat) - 1 = q := by omega
    rw [hq2] at F
    clear hs hn h EX hq2
    go_enter Tryz.func197, Tryz.ntmps197
    go_wp2_with fail
    go_ret2
    exact ⟨F.out, rfl⟩

theorem five_pw10 {j : Nat} (h : j ≤ 4000) : (5 : Int) ^ j < Nm.pw 4095 := by
  have h1 := Nat.pow_le_pow_left (show 5 ≤ 2 ^ 3 by decide) j
  rw [← Nat.pow_mul] at h1
  have e1 : ((5 ^ j : Nat) : Int) = 5 ^ j := by simp
  have e2 : ((2 ^ (3 * j) : Nat) : Int) = 2 ^ (3 * j) := by simp
  have h3 := Nm.two_mono (show 3 * j + 1 ≤ 64 * 4095 by omega)
  rw [Int.pow_succ] at h3
  rw [Nm.pw_two]
  have := Nm.two_pos (3 * j)
  generalize (2 : Int) ^ (64 * 4095) = y at *
  omega
theorem pw_up : Nm.pw 4095 ≤ Nm.pw 4096 := by
  rw [Nm.pw_two, Nm.pw_two]
  exact Nm.two_mono (by decide)

theorem pow5_ok (k : Int) (n : Nat) (w : World) (hk : k = (n : Int)) (hn : n ≤ 4000) :
    Calls Tryz.prog 64 #[.int .i64 k] w fun e w' => ∃ r os, e = .returned (.tuple #[.slice r (List.length os) (List.length os), .int .i64 0]) ∧ Ans w.heap.size w' r os (5 ^ n) ∧ Below w.heap.size w w' := by
  refine (pow5_gives k n w hk (by omega)).mono ?_
  rintro e w' ⟨⟨_, r, os, rfl, A⟩ | ⟨h, _⟩, hB⟩
  · exact ⟨r, os, rfl, A, hB⟩
  · exact absurd (Int.lt_of_lt_of_le (five_pw10 hn) pw_up) (Int.not_lt.2 h)

theorem CutIs.bd {xs ys : List Int} {e f : Int} (h : CutIs xs e ys f) (hm : Nml xs e) (p0 : -400 < e + xs.length - 1) (p1 : e + xs.length - 1 < 400) :
    Dig9 ys ∧ ys ≠ [] ∧ ys.length ≤ 769 ∧ -1200 ≤ f ∧ f ≤ 400 ∧ ∀ x, Dr ys f x → Dr xs e x := by
  have hd := hm.dig
  have hn := hm.ne
  have l0 : 0 < xs.length := List.length_pos_iff.2 hn
  rcases h with ⟨h, rfl, rfl⟩ | ⟨h, rfl, rfl⟩
  · exact ⟨hd, hn, by omega, by omega, by omega, fun _ => id⟩
  · refine ⟨(hd.take 768).append dig1, by simp, by rw [List.length_append, List.length_take]; simp; omega, by omega, by omega, fun x hx => ?_⟩
    rcases hm.form with ⟨g, _⟩ | ⟨_, g1, g2⟩
    · rw [g] at h; simp at h
    · exact dr_cut 768 (Nat.le_refl _) hd h g1 g2 hx

set_option maxRecDepth 100000 in
set_option maxHeartbeats 2000000 in
theorem near_any10 (s : ByteArray) (xs : List Int) (e y : Int) (w : World) (hT : Tab w) (hs : Str s xs) (hn : xs.length ≤ 281474976710655) (hm : Nml xs e) (hy : Dr xs e y) :
    Calls Tryz.prog 196 #[.string s, .int .i64 e] w fun r w' => r = .returned (.int .u64 y) ∧ Below w.heap.size w w' := by
  have hsz := hs.size
  have hb : (xs.length : Int) ≤ 281474976710655 := by omega
  have hd := hm.dig
  have hne := hm.ne
  have e0 := hm.1.2.1
  have e1 := hm.1.2.2.1
  by_cases h4 : 400 ≤ e + xs.length - 1
  · have hy0 : y = 9218868437227405312 := by
      rcases hm.form with ⟨g, g0⟩ | ⟨_, g1, _⟩
      · rw [g, g0] at h4; simp at h4
      · exact hy.one (dr_inf hd hne g1 h4)
    subst hy0
    clear hs hn hm hy hd hne hT
    go_enter Tryz.func196, Tryz.ntmps196
    go_wp2_with fail
    go_ret
    exact ⟨rfl, Below.refl _ _⟩
  · by_cases h5 : e + xs.length - 1 ≤ -400
    · have hy0 : y = 0 := hy.one (dr_zero hd hne h5)
      subst hy0
      clear hs hn hm hy hd hne hT
      go_enter Tryz.func196, Tryz.ntmps196
      go_wp2_with fail
      go_ret
      exact ⟨rfl, Below.refl _ _⟩
    · have CT := hid (fun wx => cut_any10 s xs e wx hs (by omega) e0 e1)
      have CB := hid (fun ys f (h : CutIs xs e ys f) => h.bd hm (by omega) (by omega))
      have HY := hid (fun x (h : Dr xs e x) => h.one hy)
      have HT := hid hT
      clear hs hn hm hy hd hne hT
      go_enter Tryz.func196, Tryz.ntmps196
      go_wp2_with fail
      with_reducible refine (CT.out _).mono ?_
      rintro r w1 ⟨⟨t, ys, f, rfl, ht, hc⟩, rfl⟩
      obtain ⟨yd, yn, yl, f0, f1, yc⟩ := CB.out ys f hc
      have rg := dw_range yd
      have big : dw ys < Nm.pw 4096 := by have := ten_pw (show ys.length ≤ 20000 by omega); omega
      have RD := hid (fun wx => read_any t ys wx ht (by omega) yd yn (by rw [dw_dv]; exact big))
      rw [dw_dv] at RD
      have FY : Hid (∀ x, Dr ys f x → x = y) := fun x hx => HY.out x (yc x hx)
      have HW : Hid (dw ys < 10 ^ ys.length ∧ 0 ≤ dw ys ∧ ys.length ≤ 769 ∧ dw ys < Nm.pw 4096) := ⟨rg.2, rg.1, yl, big⟩
      clear CT CB HY hc yd yn yl yc rg ht big h4 h5 e0 e1
      by_cases hf : f < 0
      · obtain ⟨j, hj⟩ := Int.eq_ofNat_of_zero_le (show 0 ≤ -f by omega)
        have P := hid (fun wx => pow5_ok (-f) j wx hj (by omega))
        have f5 : (0 : Int) < 5 ^ j := Int.pow_pos (by decide)
        have RR : Hid (∀ p os q ps wx, Tab wx → Ans w1.heap.size wx p os (dw ys) → Ans w1.heap.size wx q ps (5 ^ j) → Calls Tryz.prog 199 #[.bool false, .slice p (List.length os) (List.length os), .slice q (List.length ps) (List.length ps), .int .i64 f] wx fun r w' => r = .returned (.tuple #[.int .u64 y, .int .i64 0]) ∧ Below wx.heap.size wx w') := fun p os q ps wx hT A B => by
          have fp := five_pw10 (show j ≤ 4000 by omega)
          have fq := Int.lt_of_lt_of_le fp pw_up
          refine (roundRatio_any false p q _ _ _ _ os ps wx (A.argT HW.out.2.2.2) (B.argT fq) hT (A.tsT HW.out.2.2.2) ((Nm.tsize_le_iff B.2.1 4095).2 (by rw [B.2.2.2.1]; exact fp)) (dw ys) (5 ^ j) f A.2.2.2.1 B.2.2.2.1 f5).mono ?_
          rintro r w' ⟨x, rfl, R, hB⟩
          obtain rfl := FY.out x (dr_down j (by omega) R)
          exact ⟨rfl, hB⟩
        clear FY hj f5
        go_wp2_with fail
        with_reducible refine (RD.out _).mono ?_
        rintro r w2 ⟨p, os, rfl, A, hB⟩
        have A2 := hid A
        have B2 := hid hB
        clear A hB RD
        go_wp2_with fail
        with_reducible refine (P.out _).mono ?_
        rintro r w3 ⟨q, ps, rfl, A, hB⟩
        have R2 := hid (RR.out p os q ps w3 (HT.out.below (below_on B2.out hB)) (A2.out.below hB (Nat.le_refl _)) (A.upT B2.out.size))
        have B3 := hid (below_on B2.out hB)
        clear A hB RR P A2 B2
        go_wp2_with fail
        with_reducible refine R2.out.mono ?_
        rintro r w4 ⟨rfl, hB⟩
        have B4 := hid (below_on B3.out hB)
        clear hB R2 B3
        go_wp2_with fail
        go_ret
        exact ⟨rfl, B4.out⟩
      · obtain ⟨j, hj⟩ := Int.eq_ofNat_of_zero_le (show 0 ≤ f by omega)
        have P := hid (fun wx => pow5_ok f j wx hj (by omega))
        have f5 : (0 : Int) < 5 ^ j := Int.pow_pos (by decide)
        have lim : Hid (dw ys * 5 ^ j < Nm.pw 4096) := by
          show _ < _
          have g1 : dw ys * 5 ^ j < 10 ^ ys.length * 5 ^ j := Int.mul_lt_mul_of_pos_right HW.out.1 f5
          have g2 : (10 : Int) ^ ys.length * 5 ^ j ≤ 10 ^ ys.length * 10 ^ j := by
            refine Int.mul_le_mul_of_nonneg_left ?_ (Int.le_of_lt (Ie.ten_pos _))
            rw [Ie.ten_five j]
            have := Nm.two_pos j
            have : (5 : Int) ^ j * 1 ≤ 5 ^ j * 2 ^ j := Int.mul_le_mul_of_nonneg_left (by omega) (by omega)
            omega
          rw [← Int.pow_add] at g2
          have := ten_pw (show ys.length + j ≤ 20000 by have := HW.out.2.2.1; omega)
          omega
        have ML : Hid (∀ p os q ps wx, Ans w1.heap.size wx p os (dw ys) → Ans w1.heap.size wx q ps (5 ^ j) → Calls Tryz.prog 65 #[.slice p (List.length os) (List.length os), .slice q (List.length ps) (List.length ps)] wx fun e w' => ∃ r os, e = .returned (.tuple #[.slice r (List.length os) (List.length os), .int .i64 0]) ∧ Ans wx.heap.size w' r os (dw ys * 5 ^ j) ∧ Below wx.heap.size wx w') := fun p os q ps wx A B => by
          have fp := five_pw10 (show j ≤ 4000 by omega)
          have fq := Int.lt_of_lt_of_le fp pw_up
          refine (mul_ok p q _ _ _ _ os ps wx (A.argT HW.out.2.2.2) (B.argT fq) (A.tsT HW.out.2.2.2) (B.tsT fq) (by rw [A.2.2.2.1, B.2.2.2.1]; exact lim.out)).mono ?_
          rw [A.2.2.2.1, B.2.2.2.1]
          exact fun e w' h => h
        have RN : Hid (∀ p os b wx, Tab wx → Ans b wx p os (dw ys * 5 ^ j) → Calls Tryz.prog 200 #[.bool false, .slice p (List.length os) (List.length os), .int .i64 f, .bool false] wx fun r w' => r = .returned (.tuple #[.int .u64 y, .int .i64 0]) ∧ Below wx.heap.size wx w') := fun p os b wx hT A => by
          refine (round_any false p _ _ os wx (A.argT lim.out) hT (A.tsT lim.out) (dw ys * 5 ^ j) f false A.2.2.2.1).mono ?_
          rintro r w' ⟨x, rfl, R, hB⟩
          obtain rfl := FY.out x (dr_up j (by omega) R)
          exact ⟨rfl, hB⟩
        clear FY hj f5 lim HW
        go_wp2_with fail
        with_reducible refine (RD.out _).mono ?_
        rintro r w2 ⟨p, os, rfl, A, hB⟩
        have A2 := hid A
        have B2 := hid hB
        clear A hB RD
        go_wp2_with fail
        with_reducible refine (P.out _).mono ?_
        rintro r w3 ⟨q, ps, rfl, A, hB⟩
        have M2 := hid (ML.out p os q ps w3 (A2.out.below hB (Nat.le_refl _)) (A.upT B2.out.size))
        have B3 := hid (below_on B2.out hB)
        clear A hB ML P A2 B2
        go_wp2_with fail
        with_reducible refine M2.out.mono ?_
        rintro r w4 ⟨p4, os4, rfl, A, hB⟩
        have R2 := hid (RN.out p4 os4 _ w4 (HT.out.below (below_on B3.out hB)) A)
        have B4 := hid (below_on B3.out hB)
        clear A hB M2 B3 RN
        go_wp2_with fail
        with_reducible refine R2.out.mono ?_
        rintro r w5 ⟨rfl, hB⟩
        have B5 := hid (below_on B4.out hB)
        clear hB R2 B4
        go_wp2_with fail
        go_ret
        exact ⟨rfl, B5.out⟩
end Go.Proofs.YtjkefcikepnbpaaGreatDoor

namespace Go.Proofs.YtjkefcikepnbpaaGreatDoor
open Go Go.RowKit Go.Deep

/-- What Try tells of a normal Dec. -/
def TryY (neg : Bool) (xs : List Int) (e y : Int) (w : World) (r : Ending) (w' : World) : Prop :=
  ∃ su, (∃ x, TellIs xs e x su) ∧ r = .returned (.tuple #[.int .u64 (if su = true then Ie.sg neg y else 0), .bool su]) ∧ Below w.heap.size w w'

theorem try_y10 (neg : Bool) (s : ByteArray) (xs : List Int) (e y : Int) (w : World) (hT : Tab w) (hX : Tens w) (hs : Str s xs) (hn : xs.length ≤ 281474976710655) (hm : Nml xs e) (hy : Dr xs e y) :
    Calls Tryz.prog 221 #[decV neg s e] w fun r w' => TryY neg xs e y w r w' := by
  refine (try_any9 neg s xs e w hT hX hs (by omega)).mono ?_
  rintro r w' ⟨⟨h, _⟩ | ⟨_, x, su, TI, x0, x1, rfl⟩, hB⟩
  · exact absurd hm h
  · refine ⟨su, ⟨x, TI⟩, ?_, hB⟩
    cases su with
    | true => rw [tell_true hm.dig TI hy]; rfl
    | false => rw [tell_no TI]; rfl

set_option maxRecDepth 100000 in
set_option maxHeartbeats 1000000 in
theorem qdouble_any10 (neg : Bool) (s : ByteArray) (xs : List Int) (e y : Int) (w : World) (hT : Tab w) (hX : Tens w) (hs : Str s xs) (hn : xs.length ≤ 281474976710655) (hm : Nml xs e) (hy : Dr xs e y) :
    Calls Tryz.prog 220 #[.agg #[], decV neg s e] w fun r w' => TryY neg xs e y w r w' := by
  have TR := hid (fun wx (b : Below w.heap.size w wx) => try_y10 neg s xs e y wx (hT.below b) (hX.below b) hs hn hm hy)
  have FF : Hid (∀ su w1 w2, Below w.heap.size w w1 → TryY neg xs e y w1 (.returned (.tuple #[.int .u64 (if su = true then Ie.sg neg y else 0), .bool su])) w2 → TryY neg xs e y w (.returned (.tuple #[.int .u64 (if su = true then Ie.sg neg y else 0), .bool su])) w2) := by
    rintro su w1 w2 b ⟨su', h1, h2, h3⟩
    exact ⟨su', h1, h2, below_on b h3⟩
  have B2 := hid (below_on (alloc_b w (.cells #[] 85)) (alloc_b _ (.cells #[.bool neg, .string s, .int .i64 e] 25)))
  have b2 := B2.out
  unfold decV at *
  clear hs hn hm hy hT hX
  go_enter Tryz.func220, Tryz.ntmps220
  go_wp2_with fail
  with_reducible refine (TR.out _ b2).mono ?_
  rintro r w1 ⟨su, h1, rfl, hB⟩
  have F := hid (FF.out su _ w1 b2 ⟨su, h1, rfl, hB⟩)
  clear hB h1 FF TR b2 B2
  generalize (if su = true then Ie.sg neg y else 0) = X at *
  go_wp2_with fail
  go_ret2
  exact F.out

set_option maxRecDepth 100000 in
set_option maxHeartbeats 1000000 in
theorem xdouble_any10 (neg : Bool) (s : ByteArray) (xs : List Int) (e y : Int) (w : World) (hT : Tab w) (hs : Str s xs) (hn : xs.length ≤ 281474976710655) (hm : Nml xs e) (hy : Dr xs e y) :
    Calls Tryz.prog 195 #[.agg #[], decV neg s e] w fun r w' => r = .returned (.tuple #[.int .u64 (Ie.sg neg y), .bool true]) ∧ Below w.heap.size w w' := by
  have NR := hid (fun wx (b : Below w.heap.size w wx) => near_any10 s xs e y wx (hT.below b) hs hn hm hy)
  have yb := hy.bd
  have b2 := below_on (alloc_b w (.cells #[] 61)) (alloc_b _ (.cells #[.bool neg, .string s, .int .i64 e] 25))
  have Z : Hid (Row3 ((w.alloc (.cells #[] 61)).alloc (.cells #[.bool neg, .string s, .int .i64 e] 25)) (w.heap.size + 1) (.bool neg) (.string s) (.int .i64 e)) := by
    have := Row3.new (w.alloc (.cells #[] 61)) (.bool neg) (.string s) (.int .i64 e)
    rw [show (w.alloc (.cells #[] 61)).heap.size = w.heap.size + 1 by simp] at this
    exact this
  have NG := hid (fun (wx : World) => neg_any y wx yb.1 (by omega))
  rw [show Ie.ng y = Ie.sg true y by unfold Ie.ng Ie.sg; rw [if_pos (by omega), if_pos rfl]] at NG
  unfold decV
  clear hs hn hm hy hT
  go_enter Tryz.func195, Tryz.ntmps195
  go_wp2_with fail
  with_reducible refine (NR.out _ b2).mono ?_
  rintro r w1 ⟨rfl, hB⟩
  have Z1 := hid (Z.out.below hB Z.out.lt)
  have B1 := hid (below_on b2 hB)
  obtain ⟨⟨c0, c1, c2⟩, _⟩ := Z1.out.cells
  clear hB b2 NR Z
  cases neg with
  | false =>
    go_wp2_with fail
    go_ret2
    exact ⟨rfl, B1.out⟩
  | true =>
    go_wp2_with fail
    with_reducible refine (NG.out _).mono ?_
    rintro r w2 ⟨rfl, rfl⟩
    go_wp2_with fail
    go_ret2
    exact ⟨rfl, B1.out⟩
end Go.Proofs.YtjkefcikepnbpaaGreatDoor

namespace Go.Proofs.YtjkefcikepnbpaaGreatDoor
open Go Go.RowKit Go.Deep

/-- A list of roads: the exact one alone, or the quick one ahead of it. -/
def RX (w : World) (b : Nat) : Prop := w.cell? ⟨b, 0, none⟩ = some (.iface 61 (.agg #[]))
def RQ (w : World) (b : Nat) : Prop := w.cell? ⟨b, 0, none⟩ = some (.iface 85 (.agg #[])) ∧ w.cell? ⟨b, 1, none⟩ = some (.iface 61 (.agg #[]))

theorem meth_x (w : World) : (method 357 61 (.agg #[]) "abacus/strtod.double").run Tryz.prog w = .ok (195, .agg #[]) w := by kernel_rfl
theorem meth_q (w : World) : (method 357 85 (.agg #[]) "abacus/strtod.double").run Tryz.prog w = .ok (220, .agg #[]) w := by kernel_rfl

set_option maxRecDepth 100000 in
set_option maxHeartbeats 1000000 in
theorem travel1_any10 (neg : Bool) (s : ByteArray) (xs : List Int) (e y : Int) (b : Nat) (w : World) (hT : Tab w) (hb : RX w b) (hs : Str s xs) (hn : xs.length ≤ 281474976710655) (hm : Nml xs e) (hy : Dr xs e y) :
    Calls Tryz.prog 35 #[decV neg s e, .slice (some ⟨b, 0, none⟩) 1 1] w fun r w' => r = .returned (.tuple #[.int .u64 (Ie.sg neg y), .int .i64 1]) ∧ Below w.heap.size w w' := by
  have XD := hid (fun wx (b : Below w.heap.size w wx) => xdouble_any10 neg s xs e y wx (hT.below b) hs hn hm hy)
  have b1 := alloc_b w (.cells #[.bool neg, .string s, .int .i64 e] 25)
  have Z := hid (Row3.new w (.bool neg) (.string s) (.int .i64 e))
  have c3 : w.cell? ⟨b, 0, none⟩ = some (.iface 61 (.agg #[])) := hb
  have lt := cell_lt c3
  unfold decV at *
  clear hs hn hm hy hT hb
  go_enter Tryz.func35, Tryz.ntmps35
  go_wp2_with fail
  generalize hW : w.alloc (.cells #[.bool neg, .string s, .int .i64 e] 25) = W at *
  obtain ⟨⟨c0, c1, c2⟩, _⟩ := Z.out.cells
  have c4 : W.cell? ⟨b, 0, none⟩ = some (.iface 61 (.agg #[])) := by rw [b1.cell lt]; exact c3
  clear hW c3
  go_loopw [12] (fun i wr => i = .int .i64 0 ∧ wr = W) (fun _ _ => 1)
  case atStart => exact ⟨rfl, rfl⟩
  case round =>
    obtain ⟨rfl, rfl⟩ := hrel
    have mx := meth_x
    go_wp2_with fail
    with_reducible refine (XD.out _ b1).mono ?_
    rintro r w1 ⟨rfl, hB⟩
    have B1 := hid (below_on b1 hB)
    clear hB b1 XD c0 c1 c2 c4
    go_wp2_with fail
    go_ret2
    exact ⟨rfl, B1.out⟩

/-- A Dec in its box. -/
def DX (w wx : World) (b : Nat) (neg : Bool) (s : ByteArray) (e : Int) : Prop := Below w.heap.size w wx ∧ w.heap.size ≤ b ∧ Row3 wx b (.bool neg) (.string s) (.int .i64 e)
theorem DX.new (w : World) (neg : Bool) (s : ByteArray) (e : Int) : DX w (w.alloc (.cells #[.bool neg, .string s, .int .i64 e] 25)) w.heap.size neg s e := ⟨alloc_b _ _, Nat.le_refl _, Row3.new _ _ _ _⟩
theorem DX.on {w wx wy : World} {b : Nat} {neg : Bool} {s : ByteArray} {e : Int} (h : DX w wx b neg s e) (k : Below wx.heap.size wx wy) : DX w wy b neg s e := ⟨below_on h.1 k, h.2.1, h.2.2.below k h.2.2.lt⟩
theorem DX.drew {w wx : World} {b : Nat} {neg : Bool} {s : ByteArray} {e : Int} (h : DX w wx b neg s e) : DX w wx.drew b neg s e := h.on (below_drewN (Below.refl _ _) 1)
theorem DX.three {w wx : World} {b : Nat} {neg : Bool} {s : ByteArray} {e : Int} (h : DX w wx b neg s e) : wx.cell? ⟨b, 0, none⟩ = some (.bool neg) ∧ wx.cell? ⟨b, 1, none⟩ = some (.string s) ∧ wx.cell? ⟨b, 2, none⟩ = some (.int .i64 e) := h.2.2.cells.1
theorem DX.put {w wx : World} {b : Nat} {neg : Bool} {s : ByteArray} {e : Int} (h : DX w wx b neg s e) (neg' : Bool) (s' : ByteArray) (e' : Int) : DX w (((wx.setCell ⟨b, 0, none⟩ (.bool neg')).setCell ⟨b, 1, none⟩ (.string s')).setCell ⟨b, 2, none⟩ (.int .i64 e')) b neg' s' e' := ⟨set3_below h.1 h.2.1, h.2.1, h.2.2.put _ _ _⟩

def RL (q : Bool) (w : World) (b : Nat) : Prop := b < w.heap.size ∧ (if q = true then RQ w b else RX w b)
def ln (q : Bool) : Nat := if q = true then 2 else 1
theorem RL.below {q : Bool} {w w' : World} {b : Nat} (h : RL q w b) (k : Below w.heap.size w w') : RL q w' b := by
  refine ⟨Nat.lt_of_lt_of_le h.1 k.size, ?_⟩
  have h2 := h.2
  cases q with
  | true =>
    have h3 : RQ w b := h2
    have h4 : RQ w' b := ⟨by rw [k.cell (p := ⟨b, 0, none⟩) h.1]; exact h3.1, by rw [k.cell (p := ⟨b, 1, none⟩) h.1]; exact h3.2⟩
    exact h4
  | false =>
    have h3 : RX w b := h2
    have h4 : RX w' b := by unfold RX; rw [k.cell (p := ⟨b, 0, none⟩) h.1]; exact h3
    exact h4

/-- What travel tells: the double, and which road told it. -/
def TravTold (q neg : Bool) (xs : List Int) (e y : Int) (w : World) (r : Ending) (w' : World) : Prop :=
  ∃ k : Int, (q = true → ∃ su x, TellIs xs e x su ∧ k = if su = true then 1 else 2) ∧ r = .returned (.tuple #[.int .u64 (Ie.sg neg y), .int .i64 k]) ∧ Below w.heap.size w w'

def TS (w : World) (b : Nat) (neg : Bool) (s : ByteArray) (xs : List Int) (e : Int) (j : Nat) (wr : World) : Prop := DX w wr w.heap.size neg s e ∧ RL true wr b ∧ (j = 0 ∨ (j = 1 ∧ ∃ x, TellIs xs e x false))

set_option maxRecDepth 100000 in
set_option maxHeartbeats 1000000 in
theorem travel2_any10 (neg : Bool) (s : ByteArray) (xs : List Int) (e y : Int) (b : Nat) (w : World) (hT : Tab w) (hX : Tens w) (hb : RL true w b) (hs : Str s xs) (hn : xs.length ≤ 281474976710655) (hm : Nml xs e) (hy : Dr xs e y) :
    Calls Tryz.prog 35 #[decV neg s e, .slice (some ⟨b, 0, none⟩) 2 2] w fun r w' => TravTold true neg xs e y w r w' := by
  have XD := hid (fun wx (b : Below w.heap.size w wx) => xdouble_any10 neg s xs e y wx (hT.below b) hs hn hm hy)
  have QD := hid (fun wx (b : Below w.heap.size w wx) => qdouble_any10 neg s xs e y wx (hT.below b) (hX.below b) hs hn hm hy)
  have ST : Hid (TS w b neg s xs e 0 (w.alloc (.cells #[.bool neg, .string s, .int .i64 e] 25))) := ⟨DX.new _ _ _ _, hb.below (alloc_b _ _), .inl rfl⟩
  have FF : Hid (∀ su x w', TellIs xs e x su → Below w.heap.size w w' → TravTold true neg xs e y w (.returned (.tuple #[.int .u64 (Ie.sg neg y), .int .i64 (if su = true then 1 else 2)])) w') := fun su x w' h k => ⟨_, fun _ => ⟨su, x, h, rfl⟩, rfl, k⟩
  unfold decV at *
  have mx := meth_x
  have mq := meth_q
  clear hs hn hm hy hT hX hb
  go_enter Tryz.func35, Tryz.ntmps35
  go_wp2_with fail
  generalize hW : w.alloc (.cells #[.bool neg, .string s, .int .i64 e] 25) = W at *
  clear hW
  go_loopw [12] (fun i wr => ∃ j : Nat, i = .int .i64 j ∧ Hid (TS w b neg s xs e j wr)) (fun i _ => 2 - (intOf i).toNat)
  case atStart => exact ⟨0, rfl, ST.out⟩
  case round =>
    clear ST
    obtain ⟨j, rfl, I⟩ := hrel
    obtain ⟨i1, i2, i3⟩ := I.out
    have b1 := i1.1
    obtain ⟨c0, c1, c2⟩ := i1.three
    obtain ⟨c3, c4⟩ : RQ wr b := i2.2
    have HD := hid i1
    have HL := hid i2
    clear i1 i2 I
    rcases i3 with rfl | ⟨rfl, hsu⟩
    · go_wp2_with fail
      with_reducible refine (QD.out _ b1).mono ?_
      rintro r w1 ⟨su, ⟨x, hx⟩, rfl, hB⟩
      have B1 := hid (below_on b1 hB)
      cases su with
      | true =>
        have F := hid (FF.out true x w1 hx B1.out)
        clear hB b1 hx XD QD c0 c1 c2 c3 c4 HD HL FF
        go_wp2_with fail
        go_ret2
        exact F.out
      | false =>
        have S2 : Hid (TS w b neg s xs e 1 w1) := ⟨HD.out.on hB, HL.out.below hB, .inr ⟨rfl, x, hx⟩⟩
        clear hB b1 hx XD QD c0 c1 c2 c3 c4 HD HL FF
        go_wp2_with fail
        go_roundw
        case rel => exact ⟨1, rfl, S2.out⟩
        case measure => simp [intOf]
    · obtain ⟨x, hx⟩ := hsu
      have HX := hid hx
      clear hx
      go_wp2_with fail
      with_reducible refine (XD.out _ b1).mono ?_
      rintro r w1 ⟨rfl, hB⟩
      have F := hid (FF.out false x w1 HX.out (below_on b1 hB))
      clear hB b1 XD QD c0 c1 c2 c3 c4 HD HL FF HX
      go_wp2_with fail
      go_ret2
      exact F.out

theorem travel_any10 (q neg : Bool) (s : ByteArray) (xs : List Int) (e y : Int) (b : Nat) (w : World) (hT : Tab w) (hX : q = true → Tens w) (hb : RL q w b) (hs : Str s xs) (hn : xs.length ≤ 281474976710655) (hm : Nml xs e) (hy : Dr xs e y) :
    Calls Tryz.prog 35 #[decV neg s e, .slice (some ⟨b, 0, none⟩) (ln q) (ln q)] w fun r w' => TravTold q neg xs e y w r w' := by
  cases q with
  | true => exact travel2_any10 neg s xs e y b w hT (hX rfl) hb hs hn hm hy
  | false =>
    refine (travel1_any10 neg s xs e y b w hT hb.2 hs hn hm hy).mono ?_
    rintro r w' ⟨rfl, hB⟩
    exact ⟨1, fun h => absurd h (by simp), rfl, hB⟩

end Go.Proofs.YtjkefcikepnbpaaGreatDoor
