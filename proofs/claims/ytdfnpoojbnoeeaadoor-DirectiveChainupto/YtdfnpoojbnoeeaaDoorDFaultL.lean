/-
  abacuslaw13: DirectiveFault, where nothing is too great.
-/
import Derived.Test.YtdfnpoojbnoeeaaDoorDCut2
import Derived.Test.YtdfnpoojbnoeeaaDoorDAwake
import Derived.Laws.Concat
namespace Go.Proofs.YtdfnpoojbnoeeaaDoor
open Go Go.RowKit Go.Deep Go.Shelf

theorem ct_at {p : Int → Bool} : ∀ {l : List Int} {i : Nat}, i < Dr.ct p l → p (l.getD i 0) = true
  | [], i, h => by simp [Dr.ct] at h
  | c :: l, i, h => by
    rw [Dr.ct] at h
    by_cases hc : p c = true
    · rw [if_pos hc] at h
      cases i with
      | zero => exact hc
      | succ i => exact ct_at (l := l) (i := i) (by omega)
    · rw [if_neg hc] at h; omega
theorem ct_stop {p : Int → Bool} : ∀ {l : List Int}, Dr.ct p l < l.length → p (l.getD (Dr.ct p l) 0) = false
  | [], h => by simp at h
  | c :: l, h => by
    rw [Dr.ct] at h ⊢
    by_cases hc : p c = true
    · rw [if_pos hc, List.length_cons] at h
      rw [if_pos hc]
      exact ct_stop (l := l) (by omega)
    · rw [if_neg hc]
      simpa using hc
theorem drop_getD' (l : List Int) (a i : Nat) : (l.drop a).getD i 0 = l.getD (a + i) 0 := by
  rw [List.getD, List.getElem?_drop, List.getD]
theorem Str.app {s t : ByteArray} {xs ys : List Int} (h : Str s xs) (k : Str t ys) : Str (s ++ t) (xs ++ ys) := by
  unfold Str at *
  rw [ByteArray.data_append, Array.toList_append, List.map_append, h, k]
theorem row_nil {base : Nat} {w : World} {mv : Value} (h : RowP base w mv []) : ∃ p c, mv = .slice p 0 c := by
  obtain ⟨h1, h2⟩ := h
  rcases h2 with h2 | ⟨g, cap, cur, e1, e2, e3⟩
  · exact ⟨_, _, h2.1⟩
  · exact ⟨_, _, e1⟩

theorem extract_take {s : ByteArray} {xs : List Int} (h : Str s xs) (k : Nat) : Str (s.extract 0 k) (xs.take k) := by
  have := h.extract 0 k
  rwa [List.drop_zero, Nat.sub_zero] at this

set_option maxRecDepth 100000 in
set_option maxHeartbeats 2000000 in
theorem fault_law (s t : ByteArray) (xs ys : List Int) (w : World) (hs : Str s xs) (ht : Str t ys) (hx : xs.length ≤ 1048576) (hy : ys.length ≤ 1048576) (hT : T10 w.heap.size w) :
    Calls Tryd.prog 6 #[.string s, .string t] w fun e w' => e = .returned (.bool true) ∧ Below w.heap.size w w' := by
  have AW := hid (awake_any w hT)
  have sx := hs.size
  have sy := ht.size
  have PX := hid (fun W => parse_any s xs W hs (by omega))
  clear hT
  by_cases ok : (Dr.prs xs).2.2 = 0
  · have P1 : Hid (∀ W, Calls Tryd.prog 14 #[.string s] W fun r w' => ∃ mv a, r = .returned (.tuple #[mv, .int .i64 a, .int .i64 0]) ∧ Below W.heap.size W w') := fun W => (PX.out W).mono (by
      rintro e w' ⟨mv, rfl, _, b⟩
      rw [ok]
      exact ⟨_, _, rfl, b⟩)
    have PK : Hid (∀ (K : Nat) W, K ≤ s.size → Calls Tryd.prog 14 #[.string (s.extract 0 K)] W fun r w' => ∃ mv a b, r = .returned (.tuple #[mv, .int .i64 a, .int .i64 b]) ∧ ((b = 0 ∧ a = 0) ∨ (b = 131 ∧ a = (K : Int))) ∧ Below W.heap.size W w') := fun K W hK => (parse_any (s.extract 0 K) (xs.take K) W (extract_take hs K) (by rw [List.length_take]; omega)).mono (by
      rintro e w' ⟨mv, rfl, _, b⟩
      refine ⟨_, _, _, rfl, ?_, b⟩
      rcases Dr.fmt_cut _ xs K (Nat.le_refl _) (by omega) ok with g | g
      · left; rw [Dr.prs_ok' g]; exact ⟨rfl, rfl⟩
      · right; rw [g]; exact ⟨rfl, rfl⟩)
    have sb : (s.size : Int) ≤ 1048576 := by omega
    have tb : (t.size : Int) ≤ 1048576 := by omega
    clear PX hs ht hx hy sx sy ok
    by_cases hk : s.size < t.size
    · have hki : (s.size : Int) < (t.size : Int) := by omega
      have P2 := hid (fun W => PK.out s.size W (Nat.le_refl _))
      rw [show s.extract 0 s.size = s by simp] at P2
      clear PK hk
      go_enter Tryd.func6, Tryd.ntmps6
      go_wp2_with fail
      refine AW.out.mono ?_
      rintro e w0 ⟨rfl, b0⟩
      have B0 := hid b0
      clear b0 AW
      go_wp2_with fail
      with_reducible refine (P1.out _).mono ?_
      rintro e w1 ⟨mv, a, rfl, b1⟩
      have B1 := hid (below_on B0.out b1)
      clear b1 B0 P1
      go_wp2_with fail
      with_reducible refine (P2.out _).mono ?_
      rintro e w2 ⟨mv2, a2, b2, rfl, h, c2⟩
      have B2 := hid (below_on B1.out c2)
      clear c2 B1 P2
      rcases h with ⟨rfl, rfl⟩ | ⟨rfl, rfl⟩
      · go_wp2_with fail
        go_ret
        exact ⟨rfl, B2.out⟩
      · go_wp2_with fail
        go_ret
        exact ⟨rfl, B2.out⟩
    · have hki : ¬ (s.size : Int) < (t.size : Int) := by omega
      have hkl : (t.size : Int) ≤ (s.size : Int) := by omega
      have P2 := hid (fun W => PK.out t.size W (by omega))
      clear PK hk
      go_enter Tryd.func6, Tryd.ntmps6
      go_wp2_with fail
      refine AW.out.mono ?_
      rintro e w0 ⟨rfl, b0⟩
      have B0 := hid b0
      clear b0 AW
      go_wp2_with fail
      with_reducible refine (P1.out _).mono ?_
      rintro e w1 ⟨mv, a, rfl, b1⟩
      have B1 := hid (below_on B0.out b1)
      clear b1 B0 P1
      go_wp2_with fail
      with_reducible refine (P2.out _).mono ?_
      rintro e w2 ⟨mv2, a2, b2, rfl, h, c2⟩
      have B2 := hid (below_on B1.out c2)
      clear c2 B1 P2
      rcases h with ⟨rfl, rfl⟩ | ⟨rfl, rfl⟩
      · go_wp2_with fail
        go_ret
        exact ⟨rfl, B2.out⟩
      · go_wp2_with fail
        go_ret
        exact ⟨rfl, B2.out⟩
  · obtain ⟨f1, f2, f3, f4⟩ := Dr.fmt_bad _ xs (Nat.le_refl _) ok
    have pb := Dr.prs_bad' ok
    obtain ⟨A, hA⟩ : ∃ A, (Dr.prs xs).2.1 = A := ⟨_, rfl⟩
    obtain ⟨E, hE⟩ : ∃ E, (Dr.prs xs).2.2 = E := ⟨_, rfl⟩
    rw [hA, hE] at pb
    rw [hA] at f1 f2 f3 f4
    rw [hE] at f3 f4 ok
    have P1 : Hid (∀ W, Calls Tryd.prog 14 #[.string s] W fun r w' => ∃ p c, r = .returned (.tuple #[.slice p 0 c, .int .i64 (A : Int), .int .i64 E]) ∧ Below W.heap.size W w') := fun W => (PX.out W).mono (by
      rintro e w' ⟨mv, rfl, r, b⟩
      rw [pb] at r ⊢
      obtain ⟨p, c, rfl⟩ := row_nil r
      exact ⟨_, _, rfl, b⟩)
    have P2 : Hid (∀ W, Calls Tryd.prog 14 #[.string (s.extract 0 A)] W fun r w' => ∃ mv, r = .returned (.tuple #[mv, .int .i64 (A : Int), .int .i64 131]) ∧ Below W.heap.size W w') := fun W => (parse_any (s.extract 0 A) (xs.take A) W (extract_take hs A) (by rw [List.length_take]; omega)).mono (by
      rintro e w' ⟨mv, rfl, _, b⟩
      rw [f2]
      exact ⟨_, rfl, b⟩)
    have sb : (s.size : Int) ≤ 1048576 := by omega
    have a0 : ¬ (A : Int) < 0 := by omega
    have a1 : ¬ (s.size : Int) < (A : Int) := by omega
    have a2 : (A : Int) ≤ (s.size : Int) := by omega
    have e0 : (E == 0) = false := by simpa using ok
    by_cases h131 : E = 131
    · have asz := f3 h131
      have e1 : (E == 131) = true := by simpa using h131
      have as1 : ((A : Int) == (s.size : Int)) = true := by rw [asz, sx]; simp
      clear PX hs ht hx hy sx sy f1 f2 f3 f4 pb hA hE h131 asz ok
      go_enter Tryd.func6, Tryd.ntmps6
      go_wp2_with fail
      refine AW.out.mono ?_
      rintro e w0 ⟨rfl, b0⟩
      have B0 := hid b0
      clear b0 AW
      go_wp2_with fail
      with_reducible refine (P1.out _).mono ?_
      rintro e w1 ⟨p, c, rfl, b1⟩
      have B1 := hid (below_on B0.out b1)
      clear b1 B0 P1
      go_wp2_with fail
      with_reducible refine (P2.out _).mono ?_
      rintro e w2 ⟨mv2, rfl, c2⟩
      have B2 := hid (below_on B1.out c2)
      clear c2 B1 P2
      go_wp2_with fail
      go_ret
      exact ⟨rfl, B2.out⟩
    · obtain ⟨g1, g2, g3⟩ := f4 h131
      have e1 : (E == 131) = false := by simpa using h131
      obtain ⟨F, hF⟩ : ∃ F, Dr.fe xs A E = F := ⟨_, rfl⟩
      rw [hF] at g1 g2 g3
      have P3 : Hid (∀ W, Calls Tryd.prog 14 #[.string (s.extract 0 F ++ t)] W fun r w' => ∃ mv, r = .returned (.tuple #[mv, .int .i64 (A : Int), .int .i64 E]) ∧ Below W.heap.size W w') := fun W => (parse_any (s.extract 0 F ++ t) (xs.take F ++ ys) W ((extract_take hs F).app ht) (by rw [List.length_append, List.length_take]; omega)).mono (by
        rintro e w' ⟨mv, rfl, _, b⟩
        rw [g3]
        exact ⟨_, rfl, b⟩)
      have CAT : ∀ wx, (Op.stringOp .add (s.extract 0 F) t).run Tryd.prog wx = .ok (.string (s.extract 0 F ++ t)) wx := fun wx => run_string_add_sum wx _ _ (by have := (extract_take hs F).size; rw [List.length_take] at this; omega)
      have DIG : Hid (∀ j, A + 1 ≤ j → j < F → (E == 6) = true ∧ j < s.size ∧ ∃ x : Int, 48 ≤ x ∧ x ≤ 57 ∧ ∀ h, ((s[j]'h).toNat : Int) = x) := by
        intro j j1 j2
        rw [Dr.fe] at hF
        by_cases e6 : E = 6
        · rw [if_pos e6] at hF
          refine ⟨by simpa using e6, by omega, xs.getD j 0, ?_⟩
          have c := ct_at (p := Dr.isD) (l := xs.drop A) (i := j - A) (by omega)
          rw [drop_getD', show A + (j - A) = j by omega] at c
          have := Dr.isD_iff.1 c
          exact ⟨this.1, this.2, fun h => hs.at j h⟩
        · rw [if_neg e6] at hF; omega
      have STP : Hid ((E == 6) = false ∨ ((E == 6) = true ∧ (¬ (F : Int) < (s.size : Int) ∨ ((F : Int) < (s.size : Int) ∧ ∃ x : Int, (∀ h, ((s[F]'h).toNat : Int) = x) ∧ (¬ 48 ≤ x ∨ (48 ≤ x ∧ ¬ x ≤ 57)))))) := by
        rw [Dr.fe] at hF
        by_cases e6 : E = 6
        · rw [if_pos e6] at hF
          refine .inr ⟨by simpa using e6, ?_⟩
          by_cases fl : F < s.size
          · refine .inr ⟨by omega, xs.getD F 0, fun h => hs.at F h, ?_⟩
            have c := ct_stop (p := Dr.isD) (l := xs.drop A) (by rw [List.length_drop]; omega)
            rw [drop_getD', hF] at c
            have := Dr.isD_not.1 c
            omega
          · exact .inl (by omega)
        · exact .inl (by simpa using e6)
      have fs : (F : Int) ≤ (s.size : Int) := by omega
      have FB : Hid (F ≤ 1048576) := by show F ≤ _; omega
      have AF' : Hid (A + 1 ≤ F) := g1
      clear PX hs ht hx hy sx sy f1 f2 f3 f4 pb hA hE h131 ok g2 g3 g1 hF
      go_enter Tryd.func6, Tryd.ntmps6
      go_wp2_with fail
      refine AW.out.mono ?_
      rintro e w0 ⟨rfl, b0⟩
      have B0 := hid b0
      clear b0 AW
      go_wp2_with fail
      with_reducible refine (P1.out _).mono ?_
      rintro e w1 ⟨p, c, rfl, b1⟩
      have B1 := hid (below_on B0.out b1)
      clear b1 B0 P1
      go_wp2_with fail
      with_reducible refine (P2.out _).mono ?_
      rintro e w2 ⟨mv2, rfl, c2⟩
      have B2 := hid (below_on B1.out c2)
      clear c2 B1 P2
      go_wp2_with fail
      go_loopg [15] (F - (A + 1)) (fun m k wr => ∃ j : Nat, j + m = F ∧ A + 1 ≤ j ∧ k = .int .i64 (j : Int) ∧ Hid (Below w.heap.size w wr))
      case atStart => exact ⟨A + 1, by have := AF'.out; omega, Nat.le_refl _, by go_num, B2.out⟩
      case round =>
        obtain ⟨j, hj, hj2, rfl, I⟩ := hrel
        clear B2
        by_cases jl : j < F
        · obtain ⟨d1, d2, x, d3, d4, d5⟩ := DIG.out j hj2 jl
          have jli : (j : Int) < (s.size : Int) := by omega
          have jb : (j : Int) ≤ 1048576 := by have := FB.out; omega
          clear DIG STP CAT P3
          go_wp2_with fail
          go_roundg (F - (j + 1))
          case measure => omega
          case rel => exact ⟨j + 1, by omega, by omega, by go_num, I.out⟩
        · obtain rfl : j = F := by omega
          clear DIG
          have ST := STP.out
          clear STP hj hj2 jl
          rcases ST with e6 | ⟨e6, fl | ⟨fl, x, hx, hx1 | ⟨hx0, hx1⟩⟩⟩
          all_goals go_wp2_with fail
          all_goals with_reducible refine (P3.out _).mono ?_
          all_goals rintro e w3 ⟨mv3, rfl, c3⟩
          all_goals have B3 := hid (below_on I.out c3)
          all_goals clear c3 I P3
          all_goals go_wp2_with fail
          all_goals go_ret
          all_goals exact ⟨rfl, B3.out⟩
end Go.Proofs.YtdfnpoojbnoeeaaDoor
