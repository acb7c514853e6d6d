/-
  numeral's FromBase.
-/
import Derived.Test.YtbdilikdenhnkaaDoorNNatural
import Derived.OwnWalk
namespace Go.Proofs.YtbdilikdenhnkaaDoor
open Go.RowKit Go.Deep

/-- What FromBase tells. -/
inductive FromIs (xs : List Int) (B : Int) (w0 w' : World) : Option Addr → List Int → Int → Int → Prop
  | base : (B < 2 ∨ 36 < B) → FromIs xs B w0 w' none [] 0 32
  | empty : 2 ≤ B → B ≤ 36 → xs = [] → FromIs xs B w0 w' none [] 0 30
  | digit (t : Nat) : 2 ≤ B → B ≤ 36 → t < xs.length → (∀ i, i < t → wv (xs.getD i 0) < B) → B ≤ wv (xs.getD t 0) → FromIs xs B w0 w' none [] (t : Int) 31
  | big : 2 ≤ B → B ≤ 36 → (∀ i, i < xs.length → wv (xs.getD i 0) < B) → xs ≠ [] → Nm.pw 4096 ≤ Dn.tv B 0 (xs.map wv) → FromIs xs B w0 w' none [] 0 2
  | ok (r : Option Addr) (os : List Int) : 2 ≤ B → B ≤ 36 → (∀ i, i < xs.length → wv (xs.getD i 0) < B) → xs ≠ [] → Dn.tv B 0 (xs.map wv) < Nm.pw 4096 → Ans w0.heap.size w' r os (Dn.tv B 0 (xs.map wv)) → FromIs xs B w0 w' r os 0 0

def FromTold (xs : List Int) (B : Int) (w : World) (e : Ending) (w' : World) : Prop :=
  ∃ r os at_ E, e = .returned (.tuple #[.slice r (List.length os) (List.length os), .int .i64 at_, .int .i64 E]) ∧ FromIs xs B w w' r os at_ E ∧ Below w.heap.size w w'

set_option maxRecDepth 100000 in
set_option maxHeartbeats 4000000 in
theorem fromBase_any (s : ByteArray) (xs : List Int) (B : Int) (w : World) (hs : Str s xs) (hn : xs.length ≤ 140737488355329) (hB0 : -9223372036854775808 ≤ B) (hB1 : B ≤ 9223372036854775807) :
    Calls Tryd.prog 10 #[.string s, .int .i64 B] w fun e w' => FromTold xs B w e w' := by
  by_cases h1 : B < 2 ∨ 36 < B
  · have F : Hid (FromTold xs B w (.returned (.tuple #[.slice none 0 0, .int .i64 0, .int .i64 32])) w) := ⟨none, [], _, _, rfl, .base h1, Below.refl _ _⟩
    clear hs hn
    rcases h1 with h1 | h1
    · go_enter Tryd.func10, Tryd.ntmps10
      go_wp2_with fail
      go_ret3
      exact F.out
    · go_enter Tryd.func10, Tryd.ntmps10
      go_wp2_with fail
      go_ret3
      exact F.out
  have h2 : 2 ≤ B := by omega
  have h36 : B ≤ 36 := by omega
  by_cases h3 : xs = []
  · have F : Hid (FromTold xs B w (.returned (.tuple #[.slice none 0 0, .int .i64 0, .int .i64 30])) w) := ⟨none, [], _, _, rfl, .empty h2 h36 h3, Below.refl _ _⟩
    have hs0 : s = ⟨#[]⟩ := hs.inj (by rw [h3]; rfl)
    subst hs0
    clear hs hn h1 h3
    go_enter Tryd.func10, Tryd.ntmps10
    go_wp2_with fail
    go_ret3
    exact F.out
  have e1 : s.toList ≠ [] := by
    intro c
    apply h3
    rw [ByteArray.toList_eq] at c
    rw [← hs, c]
    rfl
  have e2 : (s.toList == []) = false := by rw [beq_eq_false_iff_ne]; exact e1
  have e3 : s.toList.isEmpty = false := by rw [List.isEmpty_eq_false_iff]; exact e1
  have WR := hid (wrong_any s xs xs.length B w hs rfl hn)
  have HS := hid hs
  have HN := hid hn
  have H3 := hid h3
  clear hs hn h1 h3
  go_enter Tryd.func10, Tryd.ntmps10
  go_wp2_with fail
  refine WR.out.mono ?_
  rintro e w' ⟨⟨r, rfl, k⟩, rfl⟩
  clear WR
  cases k with
  | here t a1 a2 a3 =>
    have F : Hid (FromTold xs B w' (.returned (.tuple #[.slice none 0 0, .int .i64 (t : Int), .int .i64 31])) w') := ⟨none, [], _, _, rfl, .digit t h2 h36 a1 a2 a3, Below.refl _ _⟩
    have ht : (0 : Int) ≤ (t : Int) := by omega
    clear a1 a2 a3
    go_wp2_with fail
    go_ret3
    exact F.out
  | none a1 =>
    have NA := hid (natural_any s xs B w' HS.out HN.out h2 h36 a1)
    have HA := hid a1
    clear a1
    go_wp2_with fail
    refine NA.out.mono ?_
    rintro e w1 ⟨h | h, d1⟩
    · obtain ⟨k1, r, os, rfl, A1⟩ := h
      have F : Hid (FromTold xs B w' (.returned (.tuple #[.slice r (List.length os) (List.length os), .int .i64 0, .int .i64 0])) w1) := ⟨r, os, _, _, rfl, .ok r os h2 h36 HA.out H3.out k1 A1, d1⟩
      clear k1 A1 d1 NA
      go_wp2_with fail
      go_ret3
      exact F.out
    · obtain ⟨k1, rfl⟩ := h
      have F : Hid (FromTold xs B w' (.returned (.tuple #[.slice none 0 0, .int .i64 0, .int .i64 2])) w1) := ⟨none, [], _, _, rfl, .big h2 h36 HA.out H3.out k1, d1⟩
      clear k1 d1 NA
      go_wp2_with fail
      go_ret3
      exact F.out
end Go.Proofs.YtbdilikdenhnkaaDoor
