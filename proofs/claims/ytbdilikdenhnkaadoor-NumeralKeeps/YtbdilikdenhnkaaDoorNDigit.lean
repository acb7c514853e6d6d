/-
  numeral's worth and wrong.
-/
import Derived.Test.YtbdilikdenhnkaaDoorRE
namespace Go.Proofs.YtbdilikdenhnkaaDoor
open Go.RowKit Go.Deep

/-- What a byte counts as a digit; 36 if it is none. -/
def wv (x : Int) : Int := if 48 ≤ x ∧ x ≤ 57 then x - 48 else if 97 ≤ x ∧ x ≤ 122 then x - 97 + 10 else if 65 ≤ x ∧ x ≤ 90 then x - 65 + 10 else 36

theorem wv_bd (x : Int) : 0 ≤ wv x ∧ wv x ≤ 36 := by
  unfold wv
  split
  · omega
  · split
    · omega
    · split <;> omega

theorem dret_u64 {a b : Int} (h : a = b) : Ending.returned (.int .u64 a) = .returned (.int .u64 b) := by rw [h]

set_option maxRecDepth 100000 in
theorem worth_any (x : Int) (w : World) (h0 : 0 ≤ x) (h1 : x < 256) :
    Calls Tryd.prog 31 #[.int .u8 x] w fun e w' => e = .returned (.int .u64 (wv x)) ∧ w' = w := by
  by_cases a1 : 48 ≤ x ∧ x ≤ 57
  · have E : Hid (x - 48 = wv x) := by show _ = _; rw [wv, if_pos a1]
    obtain ⟨a1, a2⟩ := a1
    go_enter Tryd.func31, Tryd.ntmps31
    go_wp2
    go_ret
    exact ⟨dret_u64 E.out, rfl⟩
  by_cases a2 : 97 ≤ x ∧ x ≤ 122
  · have E : Hid (x - 97 + 10 = wv x) := by show _ = _; rw [wv, if_neg a1, if_pos a2]
    obtain ⟨a3, a4⟩ := a2
    clear a1
    go_enter Tryd.func31, Tryd.ntmps31
    go_wp2
    go_ret
    exact ⟨dret_u64 E.out, rfl⟩
  by_cases a3 : 65 ≤ x ∧ x ≤ 90
  · have E : Hid (x - 65 + 10 = wv x) := by show _ = _; rw [wv, if_neg a1, if_neg a2, if_pos a3]
    obtain ⟨a5, a6⟩ := a3
    clear a1 a2
    go_enter Tryd.func31, Tryd.ntmps31
    go_wp2
    go_ret
    exact ⟨dret_u64 E.out, rfl⟩
  · have E : Hid (36 = wv x) := by show _ = _; rw [wv, if_neg a1, if_neg a2, if_neg a3]
    rcases (show x < 48 ∨ (57 < x ∧ x < 65) ∨ (90 < x ∧ x < 97) ∨ 122 < x by omega) with h | ⟨h, k⟩ | ⟨h, k⟩ | h <;> clear a1 a2 a3
    · go_enter Tryd.func31, Tryd.ntmps31
      go_wp2
      go_ret
      exact ⟨dret_u64 E.out, rfl⟩
    · go_enter Tryd.func31, Tryd.ntmps31
      go_wp2
      go_ret
      exact ⟨dret_u64 E.out, rfl⟩
    · go_enter Tryd.func31, Tryd.ntmps31
      go_wp2
      go_ret
      exact ⟨dret_u64 E.out, rfl⟩
    · go_enter Tryd.func31, Tryd.ntmps31
      go_wp2
      go_ret
      exact ⟨dret_u64 E.out, rfl⟩
/-- What wrong tells. -/
inductive WrongIs (xs : List Int) (B : Int) : Int → Prop
  | none : (∀ i, i < xs.length → wv (xs.getD i 0) < B) → WrongIs xs B (-1)
  | here (t : Nat) : t < xs.length → (∀ i, i < t → wv (xs.getD i 0) < B) → B ≤ wv (xs.getD t 0) → WrongIs xs B (t : Int)

set_option maxRecDepth 100000 in
set_option maxHeartbeats 1000000 in
theorem wrong_any (s : ByteArray) (xs : List Int) (n : Nat) (B : Int) (w : World) (hs : Str s xs) (hn : xs.length = n) (hn1 : n ≤ 140737488355329) :
    Calls Tryd.prog 17 #[.string s, .int .u64 B] w fun e w' => (∃ r, e = .returned (.int .i64 r) ∧ WrongIs xs B r) ∧ w' = w := by
  have hsz : s.size = n := by rw [hs.size, hn]
  have HS := hid hs
  have HN := hid hn
  clear hs hn
  go_enter Tryd.func17, Tryd.ntmps17
  go_wp2_with fail
  go_loop [5, 8] (fun _ c => ∃ j : Nat, c = .int .i64 (j : Int) ∧ j ≤ n ∧ Hid (∀ i, i < j → wv (xs.getD i 0) < B)) (fun _ c => n - (intOf c).toNat)
  case atStart => exact ⟨0, rfl, Nat.zero_le _, fun i hi => by omega⟩
  case round =>
    obtain ⟨j, rfl, hj, I⟩ := hrel
    by_cases hlt : j < n
    · have hji : (j : Int) < (n : Int) := by omega
      obtain ⟨x, X⟩ : ∃ x, Hid (xs.getD j 0 = x) := ⟨_, rfl⟩
      have hx : ∀ h : j < s.size, ((s[j]'h).toNat : Int) = x := fun h => by rw [HS.out.at j h, X.out]
      have hxb := HS.out.atb j
      rw [X.out] at hxb
      obtain ⟨hx0, hx1⟩ := hxb
      obtain ⟨v, V⟩ : ∃ v, Hid (wv x = v) := ⟨_, rfl⟩
      have WO := hid (worth_any x w hx0 hx1)
      rw [V.out] at WO
      have hv0 : 0 ≤ v := by have := (wv_bd x).1; have := V.out; omega
      have hv1 : v ≤ 36 := by have := (wv_bd x).2; have := V.out; omega
      by_cases hd : v < B
      · go_wp2_with fail
        refine WO.out.mono ?_
        rintro e w' ⟨rfl, rfl⟩
        have I2 : Hid (∀ i, i < j + 1 → wv (xs.getD i 0) < B) := fun i hi => by
          by_cases e : i = j
          · subst e; rw [X.out, V.out]; exact hd
          · exact I.out i (by omega)
        clear I WO
        go_wp2_with fail
        go_round
        case rel => exact ⟨j + 1, by go_num, by omega, I2.out⟩
        case measure => simp [intOf]; omega
      · have F : Hid (WrongIs xs B (j : Int)) := .here j (by have := HN.out; omega) I.out (by rw [X.out, V.out]; omega)
        clear I
        go_wp2_with fail
        refine WO.out.mono ?_
        rintro e w' ⟨rfl, rfl⟩
        clear WO
        go_wp2_with fail
        go_ret
        exact ⟨⟨_, rfl, F.out⟩, rfl⟩
    · obtain rfl : j = n := by omega
      have F : Hid (WrongIs xs B (-1)) := .none (fun i hi => I.out i (by have := HN.out; omega))
      clear I
      go_wp2_with fail
      go_ret
      exact ⟨⟨_, rfl, F.out⟩, rfl⟩
end Go.Proofs.YtbdilikdenhnkaaDoor
