/-
  abacusref13's counted, directive, Takes, Wants (mkdref13.py).
-/
import Derived.Test.YtaadooippelcfaaDoorGD
import Derived.Test.YtaadooippelcfaaDoorDList
import Derived.Test.YtaadooippelcfaaDoorDForm
namespace Go.Proofs.YtaadooippelcfaaDoor
open Go Go.RowKit Go.Deep

theorem rcounted_any (k n l : Int) (w : World) : Calls Tryd.prog 48 #[.int .i64 k, .int .i64 n, .int .i64 l] w fun e w' => e = .returned (.bool (decide (Dr.num k n l))) ∧ w' = w := by
  by_cases h0 : k = 0
  · have e : decide (Dr.num k n l) = (n == 0) := by
      exact dec_of (by unfold Dr.num; by_cases h : n = 0 <;> simp [h0, h])
    rw [e]
    subst h0
    go_enter Tryd.func48, Tryd.ntmps48
    go_wp2_with fail
    go_ret
    exact ⟨rfl, rfl⟩
  · by_cases h2 : k = 2
    · have e : decide (Dr.num k n l) = (n == 0) := by
        exact dec_of (by unfold Dr.num; by_cases h : n = 0 <;> simp [h2, h])
      rw [e]
      subst h2
      go_enter Tryd.func48, Tryd.ntmps48
      go_wp2_with fail
      go_ret
      exact ⟨rfl, rfl⟩
    · by_cases h1 : k = 1
      · subst h1
        by_cases a : l ≤ n
        · have e : decide (Dr.num 1 n l) = decide (n ≤ 4096) := dec_of (by unfold Dr.num; simp [a])
          rw [e]
          go_enter Tryd.func48, Tryd.ntmps48
          go_wp2_with fail
          go_ret
          exact ⟨rfl, rfl⟩
        · have e : decide (Dr.num 1 n l) = false := dec_of (by unfold Dr.num; simp [a])
          rw [e]
          go_enter Tryd.func48, Tryd.ntmps48
          go_wp2_with fail
          go_ret
          exact ⟨rfl, rfl⟩
      · have e : decide (Dr.num k n l) = false := dec_of (by unfold Dr.num; simp [h0, h1, h2])
        rw [e]
        go_enter Tryd.func48, Tryd.ntmps48
        go_wp2_with fail
        go_ret
        exact ⟨rfl, rfl⟩

set_option maxRecDepth 100000 in
set_option maxHeartbeats 1000000 in
theorem rdirective_any (s : ByteArray) (xs : List Int) (v f a b c d : Int) (w : World) (hs : Str s xs) :
    Calls Tryd.prog 35 #[.agg #[.string s, .int .u8 v, .int .i64 f, .int .i64 a, .int .i64 b, .int .i64 c, .int .i64 d]] w fun e w' => e = .returned (.bool (decide (Dr.isR ⟨xs, v, f, a, b, c, d⟩))) ∧ Below w.heap.size w w' := by
  have N0 := str_nil2 hs
  have IX := hid (fun W => rat_any ⟨#[100, 105, 111, 117, 120, 88, 99, 115, 101, 69, 102, 70, 103, 71]⟩ Dr.verbs v W rfl (by decide))
  have NM := hid rcounted_any
  have B := hid (alloc_b w (.cells #[.string s, .int .u8 v, .int .i64 f, .int .i64 a, .int .i64 b, .int .i64 c, .int .i64 d] 25))
  have D : ∀ q : Bool, ((0 ≤ Dr.idx Dr.verbs v ∧ xs = [] ∧ 0 ≤ f ∧ f ≤ 31 ∧ Dr.num a b 1 ∧ Dr.num c d 0) ↔ q = true) → decide (Dr.isR ⟨xs, v, f, a, b, c, d⟩) = q := fun q h => dec_of h
  clear hs
  generalize decide (Dr.isR ⟨xs, v, f, a, b, c, d⟩) = R at *
  generalize Dr.idx Dr.verbs v = i at *
  by_cases hi : 0 ≤ i
  · have z0 := hi
    by_cases hx : xs = []
    · have NE := N0.2 hx
      have NE2 : s.toList.isEmpty = true := by rw [NE]; rfl
      have z1 := hx
      by_cases h0 : 0 ≤ f
      · have z2 := h0
        by_cases h1 : f ≤ 31
        · have z3 := h1
          by_cases m1 : Dr.num a b 1
          · have M1 := decide_eq_true m1
            have z4 := m1
            by_cases m2 : Dr.num c d 0
            · have M2 := decide_eq_true m2
              have z5 := m2
              have e := D true ⟨fun _ => rfl, fun _ => ⟨hi, hx, h0, h1, m1, m2⟩⟩
              subst e
              clear D N0 hx m1 m2 z1 z4 z5
              go_enter Tryd.func35, Tryd.ntmps35
              go_wp2_with (first | (go_at_call 26; refine (IX.out _).mono ?_; rintro e w2 ⟨rfl, rfl⟩) | (go_at_call 48; refine (NM.out _ _ _ _).mono ?_; rintro e w2 ⟨rfl, rfl⟩))
              go_ret
              exact ⟨rfl, B.out⟩
            · have e := D false ⟨fun q => absurd q.2.2.2.2.2 m2, fun q => by cases q⟩
              subst e
              have M2 := decide_eq_false m2
              clear D N0 hx z1 m1 z4 m2
              go_enter Tryd.func35, Tryd.ntmps35
              go_wp2_with (first | (go_at_call 26; refine (IX.out _).mono ?_; rintro e w2 ⟨rfl, rfl⟩) | (go_at_call 48; refine (NM.out _ _ _ _).mono ?_; rintro e w2 ⟨rfl, rfl⟩))
              go_ret
              exact ⟨rfl, B.out⟩
          · have e := D false ⟨fun q => absurd q.2.2.2.2.1 m1, fun q => by cases q⟩
            subst e
            have M1 := decide_eq_false m1
            clear D N0 hx z1 m1
            go_enter Tryd.func35, Tryd.ntmps35
            go_wp2_with (first | (go_at_call 26; refine (IX.out _).mono ?_; rintro e w2 ⟨rfl, rfl⟩) | (go_at_call 48; refine (NM.out _ _ _ _).mono ?_; rintro e w2 ⟨rfl, rfl⟩))
            go_ret
            exact ⟨rfl, B.out⟩
        · have e := D false ⟨fun q => absurd q.2.2.2.1 h1, fun q => by cases q⟩
          subst e
          clear D N0 hx z1
          go_enter Tryd.func35, Tryd.ntmps35
          go_wp2_with (first | (go_at_call 26; refine (IX.out _).mono ?_; rintro e w2 ⟨rfl, rfl⟩) | (go_at_call 48; refine (NM.out _ _ _ _).mono ?_; rintro e w2 ⟨rfl, rfl⟩))
          go_ret
          exact ⟨rfl, B.out⟩
      · have e := D false ⟨fun q => absurd q.2.2.1 h0, fun q => by cases q⟩
        subst e
        clear D N0 hx z1
        go_enter Tryd.func35, Tryd.ntmps35
        go_wp2_with (first | (go_at_call 26; refine (IX.out _).mono ?_; rintro e w2 ⟨rfl, rfl⟩) | (go_at_call 48; refine (NM.out _ _ _ _).mono ?_; rintro e w2 ⟨rfl, rfl⟩))
        go_ret
        exact ⟨rfl, B.out⟩
    · have e := D false ⟨fun q => absurd q.2.1 hx, fun q => by cases q⟩
      subst e
      have NE : ¬ s.toList = [] := fun q => hx (N0.1 q)
      have NE2 : s.toList.isEmpty = false := by cases h : s.toList with | nil => exact absurd h NE | cons c l => rfl
      clear D N0 hx
      go_enter Tryd.func35, Tryd.ntmps35
      go_wp2_with (first | (go_at_call 26; refine (IX.out _).mono ?_; rintro e w2 ⟨rfl, rfl⟩) | (go_at_call 48; refine (NM.out _ _ _ _).mono ?_; rintro e w2 ⟨rfl, rfl⟩))
      go_ret
      exact ⟨rfl, B.out⟩
  · have e := D false ⟨fun q => absurd q.1 hi, fun q => by cases q⟩
    subst e
    clear D N0
    go_enter Tryd.func35, Tryd.ntmps35
    go_wp2_with (first | (go_at_call 26; refine (IX.out _).mono ?_; rintro e w2 ⟨rfl, rfl⟩) | (go_at_call 48; refine (NM.out _ _ _ _).mono ?_; rintro e w2 ⟨rfl, rfl⟩))
    go_ret
    exact ⟨rfl, B.out⟩


set_option maxRecDepth 100000 in
theorem rtakes_any (s : ByteArray) (xs : List Int) (v f a b c d : Int) (w : World) :
    Calls Tryd.prog 37 #[.agg #[.string s, .int .u8 v, .int .i64 f, .int .i64 a, .int .i64 b, .int .i64 c, .int .i64 d]] w fun e w' => e = .returned (.int .i64 (Dr.tk ⟨xs, v, f, a, b, c, d⟩)) ∧ Below w.heap.size w w' := by
  have B := hid (alloc_b w (.cells #[.string s, .int .u8 v, .int .i64 f, .int .i64 a, .int .i64 b, .int .i64 c, .int .i64 d] 25))
  have D : ∀ z : Int, z = (if v = 0 ∨ v = 37 then 0 else 1 + (if a = 2 then 1 else 0) + (if c = 2 then 1 else 0)) → Dr.tk ⟨xs, v, f, a, b, c, d⟩ = z := fun z h => h.symm
  generalize Dr.tk ⟨xs, v, f, a, b, c, d⟩ = K at *
  by_cases h0 : v = 0
  · have e := D 0 (by rw [if_pos (.inl h0)])
    subst e
    subst h0
    clear D
    go_enter Tryd.func37, Tryd.ntmps37
    go_wp2_with fail
    go_ret
    exact ⟨rfl, B.out⟩
  · by_cases h3 : v = 37
    · have e := D 0 (by rw [if_pos (.inr h3)])
      subst e
      subst h3
      clear D
      go_enter Tryd.func37, Tryd.ntmps37
      go_wp2_with fail
      go_ret
      exact ⟨rfl, B.out⟩
    · rw [if_neg (fun q => q.elim h0 h3)] at D
      have u0 : (v == 0) = false := by simpa using h0
      have u3 : (v == 37) = false := by simpa using h3
      by_cases ha : a = 2 <;> by_cases hc : c = 2
      · have e := D 3 (by rw [if_pos ha, if_pos hc]; rfl)
        subst e
        have ua : (a == 2) = true := by simpa using ha
        have uc : (c == 2) = true := by simpa using hc
        clear D h0 h3 ha hc
        go_enter Tryd.func37, Tryd.ntmps37
        go_wp2_with fail
        go_ret
        exact ⟨rfl, B.out⟩
      · have e := D 2 (by rw [if_pos ha, if_neg hc]; rfl)
        subst e
        have ua : (a == 2) = true := by simpa using ha
        have uc : (c == 2) = false := by simpa using hc
        clear D h0 h3 ha hc
        go_enter Tryd.func37, Tryd.ntmps37
        go_wp2_with fail
        go_ret
        exact ⟨rfl, B.out⟩
      · have e := D 2 (by rw [if_neg ha, if_pos hc]; rfl)
        subst e
        have ua : (a == 2) = false := by simpa using ha
        have uc : (c == 2) = true := by simpa using hc
        clear D h0 h3 ha hc
        go_enter Tryd.func37, Tryd.ntmps37
        go_wp2_with fail
        go_ret
        exact ⟨rfl, B.out⟩
      · have e := D 1 (by rw [if_neg ha, if_neg hc]; rfl)
        subst e
        have ua : (a == 2) = false := by simpa using ha
        have uc : (c == 2) = false := by simpa using hc
        clear D h0 h3 ha hc
        go_enter Tryd.func37, Tryd.ntmps37
        go_wp2_with fail
        go_ret
        exact ⟨rfl, B.out⟩

set_option maxRecDepth 100000 in
set_option maxHeartbeats 1000000 in
theorem rwants_any (a : Option Addr) (cap : Nat) (ps : List Dr.Pc) (w : World) (h : LP w a ps) (hn : ps.length ≤ 2199023255552) :
    Calls Tryd.prog 18 #[.slice a ps.length cap] w fun e w' => e = .returned (.int .i64 (Dr.wants ps)) ∧ Below w.heap.size w w' := by
  have H := hid h
  have HN := hid hn
  have K : Hid (Dr.wants (ps.take ps.length) = Dr.wants ps) := by rw [Hid, List.take_length]
  clear h hn
  go_enter Tryd.func18, Tryd.ntmps18
  go_wp2_with fail
  go_loopg [3, 4] ps.length (fun m nv iv wr => ∃ i : Nat, i + m = ps.length ∧ nv = .int .i64 (Dr.wants (ps.take i)) ∧ iv = .int .i64 (i : Int) ∧ Hid (Below w.heap.size w wr))
  case atStart => exact ⟨0, by omega, rfl, rfl, Below.refl _ _⟩
  case round =>
    obtain ⟨i, hi, rfl, rfl, I⟩ := hrel
    have bd := Dr.wants_bd (ps.take i)
    have bl : ((ps.take i).length : Int) ≤ 2199023255552 := by have := HN.out; rw [List.length_take]; omega
    by_cases hl : i < ps.length
    · have hli : (i : Int) < (ps.length : Int) := by omega
      obtain ⟨b, off, rfl, hc⟩ := (H.out.below I.out).at i hl
      have NX := hid (Dr.wants_take hl)
      obtain ⟨c0, c1, c2, c3, c4, c5, c6⟩ := hc
      have tb := Dr.tk_bd (ps.getD i Dr.Pc.no)
      generalize Dr.wants (ps.take i) = n at *
      generalize ps.getD i Dr.Pc.no = p at *
      have ib : (i : Int) ≤ 2199023255552 := by have := HN.out; omega
      have n0 : 0 ≤ n := bd.1
      have n1 : n ≤ 6597069766656 := by omega
      obtain ⟨t0, t1⟩ := tb
      have TK : Hid (∀ W, Calls Tryd.prog 37 #[.agg #[.string (strOfNums p.t), .int .u8 p.v, .int .i64 p.fl, .int .i64 p.wk, .int .i64 p.wd, .int .i64 p.pk, .int .i64 p.pr]] W fun e w' => e = .returned (.int .i64 (Dr.tk p)) ∧ Below W.heap.size W w') := fun W => rtakes_any (strOfNums p.t) p.t p.v p.fl p.wk p.wd p.pk p.pr W
      clear bd bl
      generalize Dr.tk p = tp at *
      go_wp2_with fail
      with_reducible refine (TK.out _).mono ?_
      rintro e w1 ⟨rfl, b1⟩
      have I1 := hid (below_on I.out b1)
      clear b1 TK I c0 c1 c2 c3 c4 c5 c6
      go_wp2_with fail
      go_roundg (ps.length - (i + 1))
      case measure => omega
      case rel => exact ⟨i + 1, by omega, by rw [NX.out], by go_num, I1.out⟩
    · have hli : ¬ (i : Int) < (ps.length : Int) := by omega
      obtain rfl : i = ps.length := by omega
      rw [K.out]
      go_wp2_with fail
      go_ret
      exact ⟨rfl, I.out⟩
end Go.Proofs.YtaadooippelcfaaDoor
