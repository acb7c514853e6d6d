/-
  Texts put together: GCanN, GCan, GBulk.
-/
import Derived.Test.YtdolgbojbmioeaaDoorGA
import Derived.Test.YtdolgbojbmioeaaDoorRows
namespace Go.Proofs.YtdolgbojbmioeaaDoor
namespace Ga

/-- What finite doubles sum up to, in units of 2^-2148. -/
def sv : List Int → Int
  | [] => 0
  | z :: r => Ie.uv z * 2 ^ 1074 + sv r

theorem sv_succ : ∀ (zs : List Int) (j : Nat), j < zs.length → sv (zs.take (j + 1)) = sv (zs.take j) + Ie.uv (zs.getD j 0) * 2 ^ 1074
  | z :: r, 0, _ => by
    simp only [List.take_succ_cons, List.take_zero, sv, List.getD_cons_zero]
    rw [Int.add_zero, Int.zero_add]
  | z :: r, j + 1, h => by
    have := sv_succ r j (by simpa using h)
    simp only [List.take_succ_cons, sv, List.getD_cons_succ]
    rw [this]
    omega

/-- s and t are told alike, but for V more in s. -/
structure Rel (V : Int) (s t : St) : Prop where
  n : s.n = t.n
  u : s.u = t.u
  d : s.d = t.d
  T : s.P - s.N = t.P - t.N + V

theorem Rel.refl (s : St) : Rel 0 s s := ⟨rfl, rfl, rfl, by omega⟩

theorem prod_c' (s : St) (x y : Int) : (s.prod x y).c = s.c + 1 ∧ (s.prod x y).z ≤ s.z + 1 := by
  rw [St.prod, St.note]
  split
  · split
    · exact ⟨rfl, by simp [St.inc]; omega⟩
    · split
      · split <;> exact ⟨rfl, by simp [St.inc]; omega⟩
      · exact ⟨rfl, by simp [St.inc]; omega⟩
  · split
    · split
      · exact ⟨rfl, by simp⟩
      · exact ⟨rfl, by simp [St.inc]; omega⟩
    · split <;> exact ⟨rfl, by simp [St.inc]; omega⟩

theorem add_c' {s : St} (hc : s.c < 1099511627776) (x : Int) : (s.add x).c = s.c + 1 ∧ (s.add x).z ≤ s.z + 1 := by
  rw [St.add, if_pos hc]
  exact prod_c' s x _

theorem mul_c' {s : St} (hc : s.c < 1099511627776) (x y : Int) : (s.mul x y).c = s.c + 1 ∧ (s.mul x y).z ≤ s.z + 1 := by
  rw [St.mul, if_pos hc]
  exact prod_c' s x _

theorem Rel.add {V : Int} {s t : St} (h : Rel V s t) (hs : s.c < 1099511627776) (ht : t.c < 1099511627776) (y : Int) : Rel V (s.add y) (t.add y) := by
  obtain ⟨h1, h2, h3, h4⟩ := h
  rw [St.add, if_pos hs, St.add, if_pos ht, St.prod, St.prod, St.note, St.note]
  split
  · split
    · exact ⟨by simp [St.inc, h1], h2, h3, h4⟩
    · split
      · split
        · exact ⟨h1, h2, by simp [St.inc, h3], h4⟩
        · exact ⟨h1, by simp [St.inc, h2], h3, h4⟩
      · exact ⟨h1, h2, h3, h4⟩
  · split
    · split <;> exact ⟨h1, h2, h3, h4⟩
    · split
      · exact ⟨h1, h2, h3, by simp only [St.inc]; omega⟩
      · exact ⟨h1, h2, h3, by simp only [St.inc]; omega⟩

theorem Rel.more {V : Int} {s t : St} (h : Rel V s t) (hs : s.c < 1099511627776) {x : Int} (fx : Ie.fin x) : Rel (V + Ie.uv x * 2 ^ 1074) (s.add x) t := by
  have M := add_fin s fx hs
  exact ⟨by rw [M.n, h.n], by rw [M.u, h.u], by rw [M.d, h.d], by rw [M.T, h.T]; omega⟩

theorem fin_mone : Ie.fin 13830554455654793216 := fin_lit (by decide)
theorem uv_mone : Ie.uv 13830554455654793216 = -2 ^ 1074 := by
  rw [show (13830554455654793216 : Int) = 4607182418800017408 + 9223372036854775808 by decide, Ie.uv_neg (by decide) (by decide), Ie.un_1, show (4503599627370496 : Int) = 2 ^ 52 by decide, ← Nm.two_add]

theorem Rel.less {V : Int} {s t : St} (h : Rel V s t) (hs : s.c < 1099511627776) {x : Int} (fx : Ie.fin x) : Rel (V - Ie.uv x * 2 ^ 1074) (s.mul x 13830554455654793216) t := by
  have M := prod_fin s fx fin_mone
  rw [uv_mone, Int.mul_neg] at M
  rw [St.mul, if_pos hs]
  exact ⟨by rw [M.n, h.n], by rw [M.u, h.u], by rw [M.d, h.d], by rw [M.T, h.T]; omega⟩

theorem prod_comm (s : St) (x y : Int) : s.prod x y = s.prod y x := by
  have w : ∀ a b : Int, Wild a b ↔ Wild b a := fun a b => by simp only [Wild]; omega
  have o : odd (Ie.cls x) (Ie.cls y) = odd (Ie.cls y) (Ie.cls x) := by
    simp only [odd]
    congr 1
    · exact decide_eq_decide.2 (w _ _)
    · exact decide_eq_decide.2 (by omega)
  have n : (Ie.ngd x != Ie.ngd y) = (Ie.ngd y != Ie.ngd x) := by cases Ie.ngd x <;> cases Ie.ngd y <;> rfl
  have e : ∀ s' : St, s'.note (Ie.cls x) (Ie.cls y) (Ie.ngd x != Ie.ngd y) = s'.note (Ie.cls y) (Ie.cls x) (Ie.ngd x != Ie.ngd y) := fun s' => by
    rw [St.note, St.note]
    by_cases h : Wild (Ie.cls x) (Ie.cls y)
    · rw [if_pos h, if_pos ((w _ _).1 h)]
    · rw [if_neg h, if_neg (fun q => h ((w _ _).2 q))]
      by_cases h2 : Ie.cls x = 3 ∨ Ie.cls y = 3
      · rw [if_pos h2, if_pos h2.symm]
      · rw [if_neg h2, if_neg (fun q => h2 q.symm)]
  rw [St.prod, St.prod, e, o, ← n, Int.mul_comm (Ie.un (Ie.ab x))]
  by_cases ho : odd (Ie.cls y) (Ie.cls x) = true
  · rw [if_pos ho, if_pos ho]
  rw [if_neg ho, if_neg ho]
  by_cases h : Ie.dm x = 0 ∨ Ie.dm y = 0
  · rw [if_pos h, if_pos h.symm]
  · rw [if_neg h, if_neg (show ¬ (Ie.dm y = 0 ∨ Ie.dm x = 0) from fun q => h q.symm)]

theorem mul_one_add (s : St) (y : Int) : s.mul 4607182418800017408 y = s.add y := by
  rw [St.mul, St.add, prod_comm]

/-- Told alike, and neither is all zeros with the sign minus: one answer. -/
theorem Rel.one {s t : St} (h : Rel 0 s t) (hs : s.z + 1 ≤ s.c) (ht : t.z + 1 ≤ t.c) {r r' : Int} (a : s.Is 1 r) (b : t.Is 1 r') : r = r' := by
  have oo : s.Odd ↔ t.Odd := by rw [St.Odd, St.Odd, h.n, h.u, h.d]
  rw [St.Is] at a b
  by_cases ho : s.Odd
  · rw [if_pos ho] at a
    rw [if_pos (oo.1 ho)] at b
    rw [a, b, St.told, St.told, h.n, h.u, h.d]
  · rw [if_neg ho, show s.zs = false by rw [St.zs, decide_eq_false]; omega] at a
    rw [if_neg (fun q => ho (oo.2 q)), show t.zs = false by rw [St.zs, decide_eq_false]; omega] at b
    have hQ : (0 : Int) < 2 ^ 1074 * 1 := by rw [Int.mul_one]; exact Nm.two_pos _
    refine a.one hQ hQ b ?_
    rw [h.T, Int.add_zero]

/-- What is held of the one Acc. -/
structure Inv (s t : St) (c V : Int) : Prop where
  c : s.c = c
  z : s.z + 1 ≤ s.c
  r : Rel V s t

theorem first : Inv (none.add 0) (none.add 0) 1 0 := by
  have M := add_fin none (x := 0) (fin_lit (by decide)) (by decide)
  refine ⟨M.c, ?_, Rel.refl _⟩
  have e : (none.add 0).z = none.z + _ := M.z
  have e2 : (none.add 0).c = none.c + 1 := M.c
  rw [e, e2, if_neg (fun q => absurd q.1 (by decide))]
  decide

theorem Inv.more {s t : St} {c V : Int} (h : Inv s t c V) (hc : c < 1099511627776) {x : Int} (fx : Ie.fin x) : Inv (s.add x) t (c + 1) (V + Ie.uv x * 2 ^ 1074) := by
  have hs : s.c < 1099511627776 := by rw [h.c]; exact hc
  have e := add_c' hs x
  exact ⟨by rw [e.1, h.c], by have := h.z; omega, h.r.more hs fx⟩
theorem Inv.less {s t : St} {c V : Int} (h : Inv s t c V) (hc : c < 1099511627776) {x : Int} (fx : Ie.fin x) : Inv (s.mul x 13830554455654793216) t (c + 1) (V - Ie.uv x * 2 ^ 1074) := by
  have hs : s.c < 1099511627776 := by rw [h.c]; exact hc
  have e := mul_c' hs x 13830554455654793216
  exact ⟨by rw [e.1, h.c], by have := h.z; omega, h.r.less hs fx⟩
theorem Inv.both {s t : St} {c V : Int} (h : Inv s t c V) (hc : c < 1099511627776) (ht : t.c < 1099511627776) (x : Int) : Inv (s.add x) (t.add x) (c + 1) V := by
  have hs : s.c < 1099511627776 := by rw [h.c]; exact hc
  have e := add_c' hs x
  exact ⟨by rw [e.1, h.c], by have := h.z; omega, h.r.add hs ht x⟩

/-- The other one: the first zero and all of a list. -/
theorem adds_inv (zs : List Int) (j : Nat) (hj : j ≤ zs.length) (hb : j < 1099511627000) : ((none.add 0).adds (zs.take j)).c = 1 + j ∧ ((none.add 0).adds (zs.take j)).z + 1 ≤ ((none.add 0).adds (zs.take j)).c := by
  generalize hO : none.add 0 = O
  have f1 : O.c = 1 := by rw [← hO]; exact first.c
  have f2 : O.z + 1 ≤ O.c := by rw [← hO]; exact first.z
  clear hO
  induction j with
  | zero =>
    rw [List.take_zero, show O.adds [] = O from rfl]
    exact ⟨by rw [f1]; rfl, f2⟩
  | succ j ih =>
    obtain ⟨h1, h2⟩ := ih (by omega) (by omega)
    rw [adds_succ _ zs j (by omega)]
    have e := add_c' (s := O.adds (zs.take j)) (by omega) (zs.getD j 0)
    exact ⟨by rw [e.1, h1]; omega, by omega⟩
end Ga
end Go.Proofs.YtdolgbojbmioeaaDoor

namespace Go.Proofs.YtdolgbojbmioeaaDoor
open Go.RowKit Go.Deep

theorem Arg.elem {w : World} {p : Option Addr} {n cap : Nat} {zs : List Int} (h : Arg w p n cap zs) (j : Nat) (hj : j < n) :
    ∃ b off x, p = some ⟨b, off, none⟩ ∧ w.cell? ⟨b, off + j, none⟩ = some (.int .u64 x) ∧ zs.getD j 0 = x ∧ 0 ≤ x ∧ x < 18446744073709551616 := by
  obtain ⟨hn, -, -, hL, hm⟩ := h
  rcases hL with rfl | ⟨b, off, rfl, hc⟩
  · simp at hn; omega
  · have := hm.at j
    exact ⟨b, off, _, rfl, hc j (by omega), rfl, this.1, this.2⟩

set_option maxRecDepth 100000 in
theorem finite_any (p : Option Addr) (n cap : Nat) (zs : List Int) (w : World) (ha : Arg w p n cap zs) :
    Calls Tryd.prog 15 #[.slice p n cap] w fun e w' => (e = .returned (.bool false) ∨ (e = .returned (.bool true) ∧ ∀ j, j < n → Ie.fin (zs.getD j 0))) ∧ w' = w := by
  have nb : n ≤ 140737488355328 := by have := ha.2.1; have := ha.2.2.1; omega
  have HA := hid ha
  have F0 : Hid (∀ i, i < 0 → Ie.fin (zs.getD i 0)) := fun i hi => absurd hi (by omega)
  clear ha
  go_enter Tryd.func15, Tryd.ntmps15
  go_wp2
  go_loopw [3] (fun i wr => ∃ j : Nat, i = .int .i64 j ∧ j ≤ n ∧ wr = w ∧ Hid (∀ i, i < j → Ie.fin (zs.getD i 0))) (fun i _ => n - (intOf i).toNat)
  case atStart => exact ⟨0, rfl, Nat.zero_le _, rfl, F0⟩
  case round =>
    clear F0
    obtain ⟨j, rfl, hj, rfl, F⟩ := hrel
    by_cases hlt : j < n
    · obtain ⟨b, off, x, rfl, hx, X, x0, x1⟩ := HA.out.elem j hlt
      have X := hid X
      have hlt' : (j : Int) < (n : Int) := by omega
      by_cases hf : x % 9223372036854775808 < 9218868437227405312
      · have hf' : ¬ 9218868437227405312 ≤ x % 9223372036854775808 := by omega
        have F1 : Hid (∀ i, i < j + 1 → Ie.fin (zs.getD i 0)) := fun i hi => by
          rcases (show i < j ∨ i = j by omega) with q | rfl
          · exact F.out i q
          · rw [X.out]; exact hf
        clear hf F
        go_wp2
        go_roundw
        case rel => exact ⟨j + 1, by go_num, by omega, by first | rfl | trivial, F1⟩
        case measure => simp [intOf]; omega
      · have hf' : 9218868437227405312 ≤ x % 9223372036854775808 := by omega
        clear hf F
        go_wp2
        go_ret
        exact ⟨.inl rfl, rfl⟩
    · have hjn : j = n := by omega
      subst hjn
      go_wp2
      go_ret
      exact ⟨.inr ⟨rfl, F.out⟩, rfl⟩

/-- The one Acc. -/
def One7 (w : World) (g : Nat) (t : Ga.St) (c V : Int) (wr : World) : Prop := ∃ S, AccAt wr g S ∧ Ga.Inv S t c V ∧ Below w.heap.size w wr

set_option maxRecDepth 100000 in
set_option maxHeartbeats 4000000 in
theorem cancels_law (p q : Option Addr) (n cap m cap' : Nat) (zs ys : List Int) (w : World) (ha : Arg w p n cap zs) (hb : Arg w q m cap' ys) (hs : n + m ≤ 1048576) (hT : Tab w) :
    Calls Tryd.prog 4 #[.slice p n cap, .slice q m cap'] w fun e w' => e = .returned (.bool true) ∧ Below w.heap.size w w' := by
  have AW := hid (awake_any w hT)
  have HT := hid hT
  have HA := hid (fun (wx : World) (h : Below w.heap.size w wx) => ha.below h (Nat.le_refl _))
  have HB := hid (fun (wx : World) (h : Below w.heap.size w wx) => hb.below h (Nat.le_refl _))
  have lz := hid ha.1
  have ly := hid hb.1
  have nb : n ≤ 1048576 := by omega
  have mb : m ≤ 1048576 := by omega
  obtain ⟨O, hO⟩ : ∃ O, Ga.none.add 0 = O := ⟨_, rfl⟩
  have FI := hid Ga.first
  have AI := hid (fun (j : Nat) (hj : j ≤ m) => Ga.adds_inv ys j (by rw [hb.1]; exact hj) (by omega))
  rw [hO] at FI AI
  clear ha hb hT hs
  go_enter Tryd.func4, Tryd.ntmps4
  go_wp2_with fail
  refine AW.out.mono ?_
  rintro e w1 ⟨rfl, hB1⟩
  have B1 := hid hB1
  have FN := hid (finite_any p n cap zs w1 (HA.out w1 hB1))
  clear hB1 AW
  go_wp2_with fail
  refine FN.out.mono ?_
  rintro e w1' ⟨he, rfl⟩
  clear FN
  rcases he with rfl | ⟨rfl, fz⟩
  · go_wp2_with fail
    go_ret
    exact ⟨rfl, B1.out⟩
  · have FZ := hid fz
    clear fz
    have NW := hid (new_any w1')
    go_wp2_with fail
    refine NW.out.mono ?_
    rintro e w2 ⟨rfl, hA, hB⟩
    obtain ⟨g, hg⟩ : ∃ g, w1'.heap.size = g := ⟨_, rfl⟩
    rw [hg] at hA
    simp only [hg]
    have gb : w.heap.size ≤ g := by have := B1.out.size; omega
    have B2 := hid (B1.out.trans (hB.mono B1.out.size))
    have A0 := add_all g _ w2 hA 0 (by decide) (by decide)
    rw [hO] at A0
    have A0 := hid A0
    clear hA hB hg NW B1
    go_wp2_with fail
    refine A0.out.mono ?_
    rintro e w3 ⟨rfl, hA, hOn⟩
    have R0 : Hid (One7 w g O (1 + ((0 : Nat) : Int)) (Ga.sv (zs.take 0)) w3) := ⟨O, hA, FI.out, B2.out.trans (hOn.below gb B2.out.size)⟩
    clear hA hOn B2 A0
    go_wp2_with fail
    go_loopw [6] (fun i wr => ∃ j : Nat, i = .int .i64 j ∧ j ≤ n ∧ Hid (One7 w g O (1 + (j : Int)) (Ga.sv (zs.take j)) wr)) (fun i _ => n - (intOf i).toNat)
    case atStart => exact ⟨0, rfl, Nat.zero_le _, R0⟩
    case round =>
      clear R0
      obtain ⟨j, rfl, hj, R⟩ := hrel
      by_cases hlt : j < n
      · obtain ⟨S, sA, sI, sB⟩ := R.out
        obtain ⟨b, off, x, rfl, hx, X, x0, x1⟩ := (HA.out wr sB).elem j hlt
        have AD := hid (add_all g S wr sA x x0 x1)
        have E : Hid (∀ w4, AccAt w4 g (S.add x) → Only g wr w4 → One7 w g O (1 + ((j + 1 : Nat) : Int)) (Ga.sv (zs.take (j + 1))) w4) := fun w4 h4 o4 => by
          have I1 := sI.more (by omega) (x := x) (by rw [← X]; exact FZ.out j hlt)
          rw [Ga.sv_succ zs j (by rw [lz.out]; exact hlt), X, show (1 : Int) + ((j + 1 : Nat) : Int) = 1 + (j : Int) + 1 by omega]
          exact ⟨_, h4, I1, sB.trans (o4.below gb sB.size)⟩
        have hlt' : (j : Int) < (n : Int) := by omega
        clear sA sI sB R X
        go_wp2_with fail
        refine AD.out.mono ?_
        rintro e w4 ⟨rfl, h4, o4⟩
        have R1 := hid (E.out w4 h4 o4)
        clear h4 o4 AD E hx
        go_wp2_with fail
        go_roundw
        case rel => exact ⟨j + 1, by go_num, by omega, R1⟩
        case measure => simp [intOf]; omega
      · have hjn : j = n := by omega
        subst hjn
        have R0 : Hid (One7 w g (O.adds (ys.take 0)) (1 + (j : Int) + ((0 : Nat) : Int)) (Ga.sv (zs.take j)) wr) := by
          rw [Hid, List.take_zero, show (1 : Int) + (j : Int) + ((0 : Nat) : Int) = 1 + (j : Int) by omega]
          exact R.out
        clear R hlt hj
        go_wp2_with fail
        go_loopw [7] (fun i wr => ∃ k : Nat, i = .int .i64 k ∧ k ≤ m ∧ Hid (One7 w g (O.adds (ys.take k)) (1 + (j : Int) + (k : Int)) (Ga.sv (zs.take j)) wr)) (fun i _ => m - (intOf i).toNat)
        case atStart => exact ⟨0, rfl, Nat.zero_le _, R0⟩
        case round =>
          clear R0
          obtain ⟨k, rfl, hk, R⟩ := hrel
          by_cases hlt : k < m
          · obtain ⟨S, sA, sI, sB⟩ := R.out
            obtain ⟨b, off, x, rfl, hx, X, x0, x1⟩ := (HB.out _ sB).elem k hlt
            have AD := hid (add_all g S _ sA x x0 x1)
            have E : Hid (∀ w4, AccAt w4 g (S.add x) → Only g wr w4 → One7 w g (O.adds (ys.take (k + 1))) (1 + (j : Int) + ((k + 1 : Nat) : Int)) (Ga.sv (zs.take j)) w4) := fun w4 h4 o4 => by
              have c1 := (AI.out k hk).1
              have I1 := sI.both (by omega) (by omega) x
              rw [Ga.adds_succ O ys k (by rw [ly.out]; exact hlt), X, show (1 : Int) + (j : Int) + ((k + 1 : Nat) : Int) = 1 + (j : Int) + (k : Int) + 1 by omega]
              exact ⟨_, h4, I1, sB.trans (o4.below gb sB.size)⟩
            have hlt' : (k : Int) < (m : Int) := by omega
            clear sA sI sB R X
            go_wp2_with fail
            refine AD.out.mono ?_
            rintro e w4 ⟨rfl, h4, o4⟩
            have R1 := hid (E.out w4 h4 o4)
            clear h4 o4 AD E hx
            go_wp2_with fail
            go_roundw
            case rel => exact ⟨k + 1, by go_num, by omega, R1⟩
            case measure => simp [intOf]; omega
          · have hkm : k = m := by omega
            subst hkm
            have R0 : Hid (One7 w g (O.adds (ys.take k)) (1 + (j : Int) + (k : Int) + ((j : Int) - ((j : Nat) : Int))) (Ga.sv (zs.take j)) wr) := by
              rw [Hid, show (1 : Int) + (j : Int) + (k : Int) + ((j : Int) - ((j : Nat) : Int)) = 1 + (j : Int) + (k : Int) by omega]
              exact R.out
            clear R hlt hk
            go_wp2_with fail
            go_loopw [8] (fun i wr => ∃ l : Nat, i = .int .i64 ((l : Int) - 1) ∧ l ≤ j ∧ Hid (One7 w g (O.adds (ys.take k)) (1 + (j : Int) + (k : Int) + ((j : Int) - (l : Int))) (Ga.sv (zs.take l)) wr)) (fun i _ => (intOf i + 1).toNat)
            case atStart => exact ⟨j, by go_num, Nat.le_refl _, R0⟩
            case round =>
              clear R0
              obtain ⟨l, rfl, hl, R⟩ := hrel
              rcases l with _ | l
              · have R1 : Hid (One7 w g (O.adds (ys.take k)) (1 + 2 * (j : Int) + (k : Int)) 0 wr) := by
                  have := R.out
                  rw [List.take_zero, show (1 : Int) + (j : Int) + (k : Int) + ((j : Int) - ((0 : Nat) : Int)) = 1 + 2 * (j : Int) + (k : Int) by omega] at this
                  exact this
                clear R hl
                obtain ⟨SA, hSA⟩ := R1.out
                have K1 := hid hSA
                have NW := hid (new_any wr)
                obtain ⟨g', hg'⟩ : ∃ g', wr.heap.size = g' := ⟨_, rfl⟩
                have gg : g ≠ g' := by have := K1.out.1.lt; omega
                have gb' : w.heap.size ≤ g' := by have := K1.out.2.2.size; omega
                rw [hg'] at NW
                clear hSA R1
                go_wp2_with fail
                refine NW.out.mono ?_
                rintro e w5 ⟨rfl, hA, hB⟩
                have K2 := hid (show AccAt w5 g SA ∧ Below w.heap.size w w5 from ⟨K1.out.1.on (by rw [hg']; exact hB), K1.out.2.2.trans (hB.mono gb')⟩)
                have A0 := add_all g' _ w5 hA 0 (by decide) (by decide)
                rw [hO] at A0
                have A0 := hid A0
                have INV := hid K1.out.2.1
                clear hA hB hg' NW K1
                go_wp2_with fail
                refine A0.out.mono ?_
                rintro e w6 ⟨rfl, hA, hOn⟩
                have R0 : Hid (AccAt w6 g SA ∧ AccAt w6 g' (O.adds (ys.take 0)) ∧ Below w.heap.size w w6) := ⟨K2.out.1.only hOn gg, hA, K2.out.2.trans (hOn.below gb' K2.out.2.size)⟩
                clear hA hOn A0 K2
                go_wp2_with fail
                go_loopw [10] (fun i wr => ∃ a : Nat, i = .int .i64 a ∧ a ≤ k ∧ Hid (AccAt wr g SA ∧ AccAt wr g' (O.adds (ys.take a)) ∧ Below w.heap.size w wr)) (fun i _ => k - (intOf i).toNat)
                case atStart => exact ⟨0, rfl, Nat.zero_le _, R0⟩
                case round =>
                  clear R0
                  obtain ⟨a, rfl, hak, R⟩ := hrel
                  by_cases hlt : a < k
                  · obtain ⟨s1, s2, sB⟩ := R.out
                    obtain ⟨b, off, x, rfl, hx, X, x0, x1⟩ := (HB.out _ sB).elem a hlt
                    have AD := addProduct_all g' _ _ s2 4607182418800017408 x (by decide) (by decide) x0 x1
                    rw [Ga.mul_one_add, ← X, ← Ga.adds_succ O ys a (by rw [ly.out]; exact hlt), X] at AD
                    have AD := hid AD
                    have E : Hid (∀ w7, AccAt w7 g' (O.adds (ys.take (a + 1))) → Only g' wr w7 → AccAt w7 g SA ∧ AccAt w7 g' (O.adds (ys.take (a + 1))) ∧ Below w.heap.size w w7) := fun w7 h7 o7 => ⟨s1.only o7 gg, h7, sB.trans (o7.below gb' sB.size)⟩
                    have hlt' : (a : Int) < (k : Int) := by omega
                    clear s1 s2 sB R X
                    go_wp2_with fail
                    refine AD.out.mono ?_
                    rintro e w7 ⟨rfl, h7, o7⟩
                    have R1 := hid (E.out w7 h7 o7)
                    clear h7 o7 AD E hx
                    go_wp2_with fail
                    go_roundw
                    case rel => exact ⟨a + 1, by go_num, by omega, R1⟩
                    case measure => simp [intOf]; omega
                  · have hak' : a = k := by omega
                    subst hak'
                    obtain ⟨s1, s2, sB⟩ := R.out
                    have cI := AI.out a (Nat.le_refl _)
                    have VA := hid (value_any g SA wr s1 (HT.out.below sB))
                    have ON : Hid (∀ r r', SA.Is 1 r → (O.adds (ys.take a)).Is 1 r' → r = r') := fun r r' h h' => INV.out.r.one INV.out.z cI.2 h h'
                    have KK : Hid (∀ wx, Below wr.heap.size wr wx → AccAt wx g SA ∧ AccAt wx g' (O.adds (ys.take a)) ∧ Tab wx ∧ Below w.heap.size w wx) := fun wx hx => ⟨s1.on hx, s2.on hx, (HT.out.below sB).below hx, sB.trans (hx.mono sB.size)⟩
                    have C1 := hid INV.out.c
                    have C2 := hid cI.1
                    clear s1 s2 sB cI R
                    go_wp2_with fail
                    refine VA.out.mono ?_
                    rintro e w8 ⟨r8, rfl, E8, b8⟩
                    have k8 := KK.out w8 b8
                    have VB := hid (value_any g' _ w8 k8.2.1 k8.2.2.1)
                    have B8 := hid b8
                    clear VA k8 b8
                    go_wp2_with fail
                    refine VB.out.mono ?_
                    rintro e w9 ⟨r9, rfl, E9, b9⟩
                    have er := ON.out _ _ E8.out E9.out
                    subst er
                    have k9 := KK.out w9 (B8.out.trans (b9.mono B8.out.size))
                    have CA := count_any g _ w9 k9.1
                    have CB := count_any g' _ w9 k9.2.1
                    rw [C1.out] at CA
                    rw [C2.out] at CB
                    have CA := hid CA
                    have CB := hid CB
                    have B9 := hid k9.2.2.2
                    clear VB k9 b9 E8 E9 ON KK
                    go_wp2_with fail
                    refine CA.out.mono ?_
                    rintro e wz ⟨rfl, hz⟩
                    replace hz := hz.symm
                    subst hz
                    go_wp2_with fail
                    refine CB.out.mono ?_
                    rintro e wz ⟨rfl, hz⟩
                    replace hz := hz.symm
                    subst hz
                    go_wp2_with fail
                    go_ret
                    exact ⟨rfl, B9.out⟩
              · obtain ⟨S, sA, sI, sB⟩ := R.out
                obtain ⟨b, off, x, rfl, hx, X, x0, x1⟩ := (HA.out _ sB).elem l (by omega)
                have AD := hid (addProduct_all g S _ sA x 13830554455654793216 x0 x1 (by decide) (by decide))
                have E : Hid (∀ w4, AccAt w4 g (S.mul x 13830554455654793216) → Only g wr w4 → One7 w g (O.adds (ys.take k)) (1 + (j : Int) + (k : Int) + ((j : Int) - (l : Int))) (Ga.sv (zs.take l)) w4) := fun w4 h4 o4 => by
                  have I1 := sI.less (by omega) (x := x) (by rw [← X]; exact FZ.out l (by omega))
                  rw [Ga.sv_succ zs l (by rw [lz.out]; omega), X, show (1 : Int) + (j : Int) + (k : Int) + ((j : Int) - ((l + 1 : Nat) : Int)) + 1 = 1 + (j : Int) + (k : Int) + ((j : Int) - (l : Int)) by omega, Int.add_sub_cancel] at I1
                  exact ⟨_, h4, I1, sB.trans (o4.below gb sB.size)⟩
                have hll : (l : Int) < (j : Int) := by omega
                have ei : (((l + 1 : Nat) : Int) - 1) = (l : Int) := by omega
                rw [ei]
                clear sA sI sB R X ei
                go_wp2_with fail
                refine AD.out.mono ?_
                rintro e w4 ⟨rfl, h4, o4⟩
                have R1 := hid (E.out w4 h4 o4)
                clear h4 o4 AD E hx
                go_wp2_with fail
                go_roundw
                case rel => exact ⟨l, by go_num, by omega, R1⟩
                case measure => simp [intOf]
end Go.Proofs.YtdolgbojbmioeaaDoor

namespace Go.Proofs.YtdolgbojbmioeaaDoor

theorem bulk_pos {H : Type} (d : DataW H) : 1 ≤ Rows.uptoBulk d := by
  rcases d with l | _ | _ | _ | _ | _ | _ | _
  · cases l <;> simp [Rows.uptoBulk]
  all_goals simp [Rows.uptoBulk]

theorem bulk_all {H : Type} : ∀ l : List (DataW H), l.length ≤ Rows.uptoBulkAll l
  | [] => Nat.zero_le _
  | d :: r => by
    have h1 := bulk_pos d
    have h2 := bulk_all r
    simp only [Rows.uptoBulkAll, List.length_cons]
    omega

theorem bulk_slice {H : Type} (es sp : List (DataW H)) : es.length ≤ Rows.uptoBulk (.slice es sp) := by
  have := bulk_all es
  simp only [Rows.uptoBulk]
  omega
end Go.Proofs.YtdolgbojbmioeaaDoor
