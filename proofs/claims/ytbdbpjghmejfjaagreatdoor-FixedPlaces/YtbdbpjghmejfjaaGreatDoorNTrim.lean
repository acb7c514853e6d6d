/-
  strings.Trim at one '0': is there anything else?
-/
import Derived.Test.YtbdbpjghmejfjaaGreatDoorNSTrim
import Derived.Test.YtbdbpjghmejfjaaGreatDoorWalk5a
import Derived.Deep.RegionWith
import Derived.Deep.CutRange
namespace Go.Proofs.YtbdbpjghmejfjaaGreatDoor
open Go.RowKit Go.Deep

/-- s' is s without some zeros at its end, and ends with none. -/
def TailTold (xs : List Int) (e : Ending) : Prop := ∃ s' k, e = .returned (.string s') ∧ Str s' (xs.take k) ∧ k ≤ xs.length ∧ (∀ i, k ≤ i → i < xs.length → xs.getD i 0 = 48)

set_option maxRecDepth 100000 in
set_option maxHeartbeats 1000000 in
theorem rtrim_any (s : ByteArray) (xs : List Int) (w : World) (hs : Str s xs) (hn1 : xs.length ≤ 140737488355328) :
    Calls Tryz.prog 73 #[.string s, .int .u8 48] w fun e w' => TailTold xs e ∧ w' = w := by
  have HS := hid hs
  have HN := hid hn1
  clear hs hn1
  go_enter Tryz.func73, Tryz.ntmps73
  go_wp2_with fail
  go_loop [0] (fun c => ∃ s' m, c = .string s' ∧ Hid (Str s' (xs.take m) ∧ m ≤ xs.length ∧ s'.size = m ∧ (∀ i, m ≤ i → i < xs.length → xs.getD i 0 = 48))) (fun c => match c with | .string s' => s'.size | _ => 0)
  case atStart => exact ⟨s, xs.length, rfl, by rw [List.take_length]; exact HS.out, Nat.le_refl _, HS.out.size, fun i h1 h2 => by omega⟩
  case round =>
    obtain ⟨s', m, rfl, I⟩ := hrel
    have hsz : s'.size = m := I.out.2.2.1
    have hmb : (m : Int) ≤ 140737488355328 := by have := HN.out; have := I.out.2.1; omega
    by_cases h0 : m = 0
    · subst h0
      have F : Hid (TailTold xs (.returned (.string s'))) := ⟨s', 0, rfl, I.out.1, Nat.zero_le _, I.out.2.2.2⟩
      clear I
      go_wp2_with fail
      go_ret
      exact ⟨F.out, rfl⟩
    · obtain ⟨u, hu⟩ : ∃ u, m = u + 1 := ⟨m - 1, by omega⟩
      have hmi : (0 : Int) < (m : Int) := by omega
      have hmu : (m : Int) - 1 = (u : Int) := by omega
      have hum : (u : Int) < (m : Int) := by omega
      obtain ⟨x, X⟩ : ∃ x, Hid (xs.getD u 0 = x) := ⟨_, rfl⟩
      have hx : ∀ h : u < s'.size, ((s'[u]'h).toNat : Int) = x := fun h => by
        rw [I.out.1.at u h, ← X.out]
        simp [List.getD, show u < m by omega]
      have HU := hid hu
      by_cases hd : x = 48
      · subst hd
        have F : Hid (Str (s'.extract 0 u) (xs.take u) ∧ u ≤ xs.length ∧ (s'.extract 0 u).size = u ∧ (∀ i, u ≤ i → i < xs.length → xs.getD i 0 = 48)) := by
          have e := I.out.1.extract 0 u
          rw [List.drop_zero, Nat.sub_zero, List.take_take, show min u m = u by omega] at e
          refine ⟨e, by have := I.out.2.1; omega, by rw [e.size]; have := I.out.2.1; simp; omega, fun i h1 h2 => ?_⟩
          by_cases c : i = u
          · subst c; exact X.out
          · exact I.out.2.2.2 i (by omega) h2
        have SZ : Hid ((s'.extract 0 u).size < s'.size) := by show _ < _; rw [F.out.2.2.1, hsz]; omega
        clear I hu h0
        go_wp2_with fail
        go_round
        case rel => exact ⟨_, _, rfl, F.out⟩
        case measure => exact SZ.out
      · have hd2 : (x == 48) = false := by rw [beq_eq_false_iff_ne]; exact hd
        have F : Hid (TailTold xs (.returned (.string s'))) := ⟨s', m, rfl, I.out.1, I.out.2.1, I.out.2.2.2⟩
        clear I hu h0
        go_wp2_with fail
        go_ret
        exact ⟨F.out, rfl⟩

/-- Whether anything but zeros stands there. -/
def TrimTold (xs : List Int) (e : Ending) : Prop := ∃ s', e = .returned (.string s') ∧ (s'.toList = [] ↔ ∀ i, i < xs.length → xs.getD i 0 = 48)

theorem str_nil {s : ByteArray} {xs : List Int} (h : Str s xs) : s.toList = [] ↔ xs = [] := by
  rw [ByteArray.toList_eq]
  constructor
  · intro c
    rw [← h, c]
    rfl
  · intro c
    unfold Str at h
    rw [c] at h
    simpa using h

theorem trim_told {xs : List Int} {k : Nat} (h2 : k ≤ xs.length) (h3 : ∀ i, k ≤ i → i < xs.length → xs.getD i 0 = 48) {e : Ending} (h : STold (xs.take k) e) : TrimTold xs e := by
  obtain ⟨s', j, rfl, ⟨b1, b2, b3⟩, b4⟩ := h
  refine ⟨s', rfl, ?_⟩
  rw [str_nil b1]
  have hl : (xs.take k).length = k := by simp; omega
  have hg : ∀ i, i < k → (xs.take k).getD i 0 = xs.getD i 0 := fun i hi => by simp [List.getD, hi]
  rw [hl] at b2
  constructor
  · intro c
    have hj : k ≤ j := by
      have := congrArg List.length c
      simp at this
      omega
    intro i hi
    by_cases c1 : i < k
    · rw [← hg i c1]
      exact b3 i (by omega)
    · exact h3 i (by omega) hi
  · intro c
    apply List.drop_of_length_le
    rw [hl]
    rcases Nat.lt_or_ge j k with c1 | c1
    · exact absurd (by rw [hg j c1]; exact c j (by omega)) (b4 (by rw [hl]; exact c1))
    · exact c1

set_option maxRecDepth 100000 in
set_option maxHeartbeats 1000000 in
theorem trim0_any (s : ByteArray) (xs : List Int) (w : World) (hs : Str s xs) (hn1 : xs.length ≤ 140737488355328) :
    Calls Tryz.prog 101 #[.string s, .string ⟨#[48]⟩] w fun e w' => TrimTold xs e ∧ Below w.heap.size w w' := by
  by_cases h : xs = []
  · have F : Hid (TrimTold xs (.returned (.string s))) := ⟨s, rfl, by rw [str_nil hs, h]; simp⟩
    have hs0 : s = ⟨#[]⟩ := hs.inj (by rw [h]; rfl)
    subst hs0
    clear hs hn1 h
    go_enter Tryz.func101, Tryz.ntmps101
    go_wp2_with fail
    go_ret
    exact ⟨F.out, Below.refl _ _⟩
  · have e1 : s.toList ≠ [] := fun c => h ((str_nil hs).1 c)
    have e2 : (s.toList == []) = false := by rw [beq_eq_false_iff_ne]; exact e1
    have e3 : s.toList.isEmpty = false := by rw [List.isEmpty_eq_false_iff]; exact e1
    have R := hid (rtrim_any s xs w.drew hs hn1)
    have L : Hid (∀ (s1 : ByteArray) (k : Nat), Str s1 (xs.take k) → Calls Tryz.prog 105 #[.string s1, .int .u8 48] w.drew fun e w' => STold (xs.take k) e ∧ w' = w.drew) := fun s1 k h1 => strim1_any s1 (xs.take k) w.drew h1 (by simp; omega)
    clear hs hn1 h
    go_enter Tryz.func101, Tryz.ntmps101
    go_upto_region 4 with fail
    go_region_with (first | (go_at_call 73; refine R.out.mono ?_; rintro e w1 ⟨⟨s1, k, rfl, k1, k2, k3⟩, rfl⟩; have L1 := hid (L.out s1 k k1); have K2 := hid k2; have K3 := hid k3; clear k1 k2 k3) | (go_at_call 105; refine L1.out.mono ?_; rintro e w1 ⟨t1, rfl⟩; have F := hid (trim_told K2.out K3.out t1); obtain ⟨s2, j2, rfl, -⟩ := t1))
    all_goals (go_wp2_with fail; go_ret; exact ⟨F.out, below_drewN (Below.refl _ _) 1⟩)
end Go.Proofs.YtbdbpjghmejfjaaGreatDoor
