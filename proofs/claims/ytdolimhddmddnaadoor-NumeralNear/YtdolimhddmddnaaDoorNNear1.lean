/-
  layer 3's law: rowed; numeral's Read; a shift by one.
-/
import Derived.Test.YtdolimhddmddnaaDoorNRound
import Derived.Test.YtdolimhddmddnaaDoorNFrom
import Derived.Test.YtdolimhddmddnaaDoorNSub
import Derived.Test.YtdolimhddmddnaaDoorShl
import Derived.Test.YtdolimhddmddnaaDoorBitW
import Derived.Test.YtdolimhddmddnaaDoorQPow2
import Derived.Laws.Concat
namespace Go.Proofs.YtdolimhddmddnaaDoor
open Go.RowKit Go.Deep

theorem Str.append {a b : ByteArray} {xs ys : List Int} (h : Str a xs) (k : Str b ys) : Str (a ++ b) (xs ++ ys) := by
  unfold Str at *
  rw [← h, ← k, ByteArray.data_append]
  simp

def RowedTold (xs : List Int) (e : Ending) : Prop := ∃ b, e = .returned (.bool b) ∧ (b = true ↔ Digs xs ∧ xs ≠ [])

set_option maxRecDepth 100000 in
set_option maxHeartbeats 1000000 in
theorem rowed_any (s : ByteArray) (xs : List Int) (w : World) (hs : Str s xs) (hl : xs.length ≤ 140737488355328) :
    Calls Tryd.prog 16 #[.string s] w fun e w' => RowedTold xs e ∧ w' = w := by
  obtain ⟨n, HN⟩ : ∃ n, Hid (xs.length = n) := ⟨_, rfl⟩
  have hsz : s.size = n := by rw [hs.size, HN.out]
  have hnb : (n : Int) ≤ 140737488355328 := by have := HN.out; omega
  have HS := hid hs
  clear hs hl
  go_enter Tryd.func16, Tryd.ntmps16
  go_wp2_with fail
  go_loop [3] (fun c => ∃ j : Nat, c = .int .i64 (j : Int) ∧ j ≤ n ∧ Hid (∀ i, i < j → 48 ≤ xs.getD i 0 ∧ xs.getD i 0 ≤ 57)) (fun c => n - (intOf c).toNat)
  case atStart => exact ⟨0, rfl, Nat.zero_le _, fun i hi => by omega⟩
  case round =>
    obtain ⟨j, rfl, hj, I⟩ := hrel
    by_cases hlt : j < n
    · have hji : (j : Int) < (n : Int) := by omega
      obtain ⟨x, X⟩ : ∃ x, Hid (xs.getD j 0 = x) := ⟨_, rfl⟩
      have hx : ∀ h : j < s.size, ((s[j]'h).toNat : Int) = x := fun h => by rw [HS.out.at j h, X.out]
      have BAD : Hid (¬ (48 ≤ x ∧ x ≤ 57) → ((false = true) ↔ Digs xs ∧ xs ≠ [])) := fun c => ⟨fun h => (by cases h), fun h => by
        have := digs_at h.1 j (by have := HN.out; omega)
        rw [X.out] at this
        exact absurd this c⟩
      rcases (show x < 48 ∨ (48 ≤ x ∧ 57 < x) ∨ (48 ≤ x ∧ x ≤ 57) by omega) with h | ⟨h, k⟩ | ⟨h, k⟩
      · have F := hid (BAD.out (by omega))
        clear I BAD
        go_wp2_with fail
        go_ret
        exact ⟨⟨_, rfl, F.out⟩, rfl⟩
      · have F := hid (BAD.out (by omega))
        clear I BAD
        go_wp2_with fail
        go_ret
        exact ⟨⟨_, rfl, F.out⟩, rfl⟩
      · have I2 : Hid (∀ i, i < j + 1 → 48 ≤ xs.getD i 0 ∧ xs.getD i 0 ≤ 57) := fun i hi => by
          by_cases e : i = j
          · subst e; rw [X.out]; exact ⟨h, k⟩
          · exact I.out i (by omega)
        clear I BAD
        go_wp2_with fail
        go_round
        case rel => exact ⟨j + 1, by go_num, by omega, I2.out⟩
        case measure => simp [intOf]; omega
    · obtain rfl : j = n := by omega
      have DG : Hid (Digs xs) := fun d hd => by
        obtain ⟨i, hi, rfl⟩ := List.getElem_of_mem hd
        have := I.out i (by have := HN.out; omega)
        simpa [List.getD, hi] using this
      by_cases h0 : j = 0
      · have F : Hid ((false = true) ↔ Digs xs ∧ xs ≠ []) := ⟨fun h => (by cases h), fun h => absurd (List.eq_nil_of_length_eq_zero (by have := HN.out; omega)) h.2⟩
        subst h0
        clear I
        go_wp2_with fail
        go_ret
        exact ⟨⟨_, rfl, F.out⟩, rfl⟩
      · have NE : Hid (xs ≠ []) := fun c => by have := HN.out; rw [c] at this; simp at this; omega
        have hj0 : (0 : Int) < (j : Int) := by omega
        clear I
        go_wp2_with fail
        go_ret
        have hjn : 0 < j := by omega
        refine ⟨⟨_, rfl, ?_⟩, rfl⟩
        rw [decide_eq_true hjn]
        exact ⟨fun _ => ⟨DG.out, NE.out⟩, fun _ => rfl⟩

theorem wv_map {xs : List Int} (h : Digs xs) : xs.map wv = xs.map (fun d => d - 48) := List.map_congr_left (fun x hx => wv_dig (h x hx))

set_option maxRecDepth 100000 in
theorem read_any (s : ByteArray) (xs : List Int) (w : World) (hs : Str s xs) (hl : xs.length ≤ 140737488355328) (hd : Digs xs) (h0 : xs ≠ []) (hv : dv xs < Nm.pw 4096) :
    Calls Tryd.prog 18 #[.string s] w fun e w' => ∃ r os, e = .returned (.tuple #[.slice r (List.length os) (List.length os), .int .i64 0, .int .i64 0]) ∧ Ans w.heap.size w' r os (dv xs) ∧ Below w.heap.size w w' := by
  have FB : Hid (Calls Tryd.prog 11 #[.string s, .int .i64 10] w fun e w' => ∃ r os, e = .returned (.tuple #[.slice r (List.length os) (List.length os), .int .i64 0, .int .i64 0]) ∧ Ans w.heap.size w' r os (dv xs) ∧ Below w.heap.size w w') := by
    refine (fromBase_any s xs 10 w hs hl (by omega) (by omega)).mono ?_
    rintro e w' ⟨r, os, at_, E, rfl, h, d⟩
    have ev : Dn.tv 10 0 (xs.map wv) = dv xs := by rw [wv_map hd]; rfl
    cases h with
    | base h => omega
    | empty _ _ h => exact absurd h h0
    | digit t _ _ h1 _ h3 =>
      have := digs_at hd t h1
      rw [wv_dig this] at h3
      omega
    | big _ _ _ _ h =>
      rw [ev] at h
      exact absurd hv (Int.not_lt.2 h)
    | ok r os _ _ _ _ _ h =>
      rw [ev] at h
      exact ⟨r, os, rfl, h, d⟩
  clear hs hl hd h0 hv
  go_enter Tryd.func18, Tryd.ntmps18
  go_wp2_with fail
  refine FB.out.mono ?_
  rintro e w1 ⟨r, os, rfl, A1, d1⟩
  have F := hid (And.intro A1 d1)
  clear A1 d1 FB
  go_wp2_with fail
  go_ret3
  exact ⟨r, os, rfl, F.out⟩

/-- A shift by one place. -/
theorem shl1_any (p : Option Addr) (n cap : Nat) (zs : List Int) (w : World) (ha : Arg w p n cap zs) (hv : 2 * Nm.val zs < Nm.pw 4096) :
    Calls Tryd.prog 22 #[.slice p n cap, .int .i64 1] w fun e w' => ∃ r os, e = .returned (.tuple #[.slice r (List.length os) (List.length os), .int .i64 0]) ∧ Ans w.heap.size w' r os (2 * Nm.val zs) ∧ Below w.heap.size w w' := by
  have v0 := (Nm.val_bd zs ha.2.2.2.2).1
  have tz : Nm.tsize zs ≤ 4096 := (Nm.tsize_le_iff ha.2.2.2.2 4096).2 (by omega)
  by_cases hz : Nm.tsize zs = 0
  · refine (shl_zero p n cap zs 1 w ha (by omega) hz).mono ?_
    rintro e w' ⟨rfl, rfl⟩
    have := (Nm.tsize_zero_iff ha.2.2.2.2).1 hz
    exact ⟨none, [], rfl, ⟨Lies.nil _ _, Nm.Limbs.nil, rfl, by rw [this]; rfl, fun a h => by cases h⟩, Below.refl _ _⟩
  · obtain ⟨L, l1, l2, l3, l4⟩ := blen_is (Nm.trim zs) ha.2.2.2.2.trim
    rw [Nm.val_trim] at l2
    have hL : L + 1 ≤ 262144 := by
      rcases Nat.lt_or_ge L 262144 with c | c
      · omega
      · exfalso
        have hp : 0 < Nm.val zs := by
          have := Nm.tsize_zero_iff ha.2.2.2.2
          omega
        have h3 := (l2.2.2 hp).2
        have h4 := Nm.two_mono (show 262143 ≤ L - 1 by omega)
        rw [Nm.pw_two 4096, show 64 * 4096 = 262143 + 1 from rfl, Int.pow_succ] at hv
        generalize (2 : Int) ^ 262143 = a at *
        generalize (2 : Int) ^ (L - 1) = b at *
        omega
    refine (shl_ok p n cap zs 1 1 L w ha tz rfl (by omega) l1 hL).mono ?_
    rintro e w' ⟨r, os, rfl, A, d⟩
    rw [Int.pow_succ, Int.pow_zero, Int.one_mul, Int.mul_comm] at A
    exact ⟨r, os, rfl, A, d⟩

theorem ten_small {j : Nat} (h : j ≤ 4002) : (10 : Int) ^ j < Nm.pw 4096 := by
  have h1 := Pn.pow_mono (show (1 : Int) ≤ 10 by omega) h
  have h2 := Pn.pow_base (a := 10) (A := 2 ^ 4) (by omega) (by decide) 4002
  have h3 : ((2 : Int) ^ 4) ^ 4002 = 2 ^ 16008 := by rw [← Int.pow_mul]
  have h4 := Nm.two_mono (show 16009 ≤ 262144 by omega)
  have h5 : (2 : Int) ^ 16009 = 2 ^ 16008 * 2 := Int.pow_succ _ _
  have h6 : (0 : Int) < 2 ^ 16008 := Int.pow_pos (by omega)
  rw [Nm.pw_two 4096, show 64 * 4096 = 262144 from rfl]
  rw [h3] at h2
  generalize (2 : Int) ^ 262144 = a at *
  generalize (2 : Int) ^ 16009 = b at *
  generalize (2 : Int) ^ 16008 = c at *
  generalize (10 : Int) ^ 4002 = d at *
  omega
end Go.Proofs.YtdolimhddmddnaaDoor
