/-
  Texts put together: GList, GNum.
-/
import Derived.Test.YtkmadibfiikleaaGreatDoorGProd2
import Derived.Test.YtkmadibfiikleaaGreatDoorGNew
import Derived.Test.YtkmadibfiikleaaGreatDoorGOver
namespace Go.Proofs.YtkmadibfiikleaaGreatDoor
open Go.RowKit Go.Deep

namespace Ga
/-- All of a list are added. -/
def St.adds (s : St) (zs : List Int) : St := zs.foldl St.add s
theorem adds_succ (s : St) (zs : List Int) (j : Nat) (hj : j < zs.length) : s.adds (zs.take (j + 1)) = (s.adds (zs.take j)).add (zs.getD j 0) := by
  rw [St.adds, St.adds, List.take_add_one, List.foldl_append]
  simp [List.getD, List.getElem?_eq_getElem hj]
end Ga

set_option maxRecDepth 100000 in
theorem addAll_any (g : Nat) (s : Ga.St) (p : Option Addr) (n cap : Nat) (zs : List Int) (w : World) (h : AccAt w g s) (ha : Arg w p n cap zs) (hp : 0 < zs.length → ∀ a, p = some a → a.block ≠ g) :
    Calls Tryz.prog 43 #[.pointer (some ⟨g, 0, none⟩), .slice p n cap] w fun e w' => e = .returned (.tuple #[]) ∧ AccAt w' g (s.adds zs) ∧ Only g w w' := by
  obtain ⟨hn, hc1, hc2, hL, hm⟩ := ha
  rcases hL with rfl | ⟨b, off, rfl, hcell⟩
  · have hn0 : n = 0 := by simpa using hn.symm
    subst hn0
    have R := hid h
    clear h hn hm hp
    go_enter Tryz.func43, Tryz.ntmps43
    go_wp2
    refine wp_loop_rounds 1 ?_
    rw [rounds_succ]
    go_wp2
    go_end0
    exact ⟨rfl, R.out, Only.refl _ _⟩
  · have hb : 0 < zs.length → b ≠ g := fun q => hp q _ rfl
    have HC := hid hcell
    have HM := hid hm
    have HN := hid hn
    have HB := hid hb
    have nb : n ≤ 140737488355328 := by omega
    have R0 := hid (show AccAt w g (s.adds (zs.take 0)) ∧ Only g w w from ⟨h, Only.refl _ _⟩)
    clear hcell hm hn hb hp h
    go_enter Tryz.func43, Tryz.ntmps43
    go_wp2
    go_loopw [8] (fun i wr => ∃ j : Nat, i = .int .i64 j ∧ j ≤ n ∧ Hid (AccAt wr g (s.adds (zs.take j)) ∧ Only g w wr)) (fun i _ => n - (intOf i).toNat)
    case atStart => exact ⟨0, rfl, Nat.zero_le _, R0⟩
    case round =>
      clear R0
      obtain ⟨j, rfl, hj, R⟩ := hrel
      by_cases hlt : j < n
      · have hjl : j < zs.length := by rw [HN.out]; exact hlt
        obtain ⟨x, hx, X⟩ : ∃ x, wr.cell? ⟨b, off + j, none⟩ = some (.int .u64 x) ∧ Hid (zs.getD j 0 = x) :=
          ⟨_, R.out.2.cell (HC.out j hjl) (HB.out (by omega)), rfl⟩
        have xb := HM.out.at j
        rw [X.out] at xb
        have AD := hid (add_all g _ wr R.out.1 x xb.1 xb.2)
        have E : Hid ((s.adds (zs.take j)).add x = s.adds (zs.take (j + 1))) := by rw [Hid, Ga.adds_succ s zs j hjl, X.out]
        rw [E.out] at AD
        have hlt' : (j : Int) < (n : Int) := by omega
        go_wp2_with fail
        refine AD.out.mono ?_
        rintro e w1 ⟨rfl, hA, hO⟩
        have R1 := hid (show AccAt w1 g (s.adds (zs.take (j + 1))) ∧ Only g w w1 from ⟨hA, R.out.2.trans hO⟩)
        clear hA hO AD E R
        go_wp2_with fail
        go_roundw
        case rel => exact ⟨j + 1, by go_num, by omega, R1⟩
        case measure => simp [intOf]; omega
      · have hjn : j = n := by omega
        subst hjn
        rw [List.take_of_length_le (by rw [HN.out]; omega)] at R
        go_wp2
        go_end0
        exact ⟨rfl, R.out⟩

set_option maxRecDepth 100000 in
/-- A list that is not long. -/
theorem gathered_any (p : Option Addr) (n cap : Nat) (zs : List Int) (w : World) (ha : Arg w p n cap zs) (hs : n < 1024) :
    Calls Tryz.prog 24 #[.slice p n cap] w fun e w' => e = .returned (.pointer (some ⟨w.heap.size, 0, none⟩)) ∧ AccAt w' w.heap.size (Ga.none.adds zs) ∧ Below w.heap.size w w' := by
  have NW := hid (new_any w)
  have AL : Hid (∀ wx, AccAt wx w.heap.size Ga.none → Below w.heap.size w wx → Calls Tryz.prog 43 #[.pointer (some ⟨w.heap.size, 0, none⟩), .slice p n cap] wx fun e w' => e = .returned (.tuple #[]) ∧ AccAt w' w.heap.size (Ga.none.adds zs) ∧ Only w.heap.size wx w') := fun wx hA hB =>
    addAll_any w.heap.size Ga.none p n cap zs wx hA (ha.below hB (Nat.le_refl _)) (fun q a e => by have := ha.2.2.2.1.lt q a e; omega)
  have hs' : ¬ (1024 : Int) ≤ (n : Int) := by omega
  clear ha
  go_enter Tryz.func24, Tryz.ntmps24
  go_wp2_with fail
  refine NW.out.mono ?_
  rintro e w1 ⟨rfl, hA, hB⟩
  have A1 := hid (AL.out w1 hA hB)
  have HB := hid hB
  clear hA hB
  go_wp2_with fail
  refine A1.out.mono ?_
  rintro e w2 ⟨rfl, hA, hO⟩
  have R := hid (show AccAt w2 w.heap.size (Ga.none.adds zs) ∧ Below w.heap.size w w2 from ⟨hA, HB.out.trans (hO.below (Nat.le_refl _) HB.out.size)⟩)
  clear hA hO
  go_wp2_with fail
  go_ret
  exact ⟨rfl, R.out⟩

set_option maxRecDepth 100000 in
theorem gsumList_any (p : Option Addr) (n cap : Nat) (zs : List Int) (w : World) (ha : Arg w p n cap zs) (hs : n < 1024) (hT : Tab w) :
    Calls Tryz.prog 12 #[.slice p n cap] w fun e w' => ∃ r, e = .returned (.int .u64 r) ∧ Hid ((Ga.none.adds zs).Is 1 r) ∧ Below w.heap.size w w' := by
  have GA := hid (gathered_any p n cap zs w ha hs)
  have HT := hid hT
  clear ha hT
  go_enter Tryz.func12, Tryz.ntmps12
  go_wp2_with fail
  refine GA.out.mono ?_
  rintro e w1 ⟨rfl, hA, hB⟩
  have V := hid (value_any _ _ w1 hA (HT.out.below hB))
  have HB := hid hB
  clear hA hB
  go_wp2_with fail
  refine V.out.mono ?_
  rintro e w2 ⟨r, rfl, E, hB⟩
  have HB2 := hid (HB.out.trans (hB.mono HB.out.size))
  clear hB
  go_wp2_with fail
  go_ret
  exact ⟨r, rfl, E, HB2.out⟩

set_option maxRecDepth 100000 in
theorem gsumOf_any (p : Option Addr) (n cap : Nat) (zs : List Int) (w : World) (ha : Arg w p n cap zs) (hs : n < 1024) (hT : Tab w) :
    Calls Tryz.prog 4 #[.slice p n cap] w fun e w' => ∃ r, e = .returned (.int .u64 r) ∧ Hid ((Ga.none.adds zs).Is 1 r) ∧ Below w.heap.size w w' := by
  have GA := hid (gsumList_any p n cap zs w ha hs hT)
  clear ha hT
  go_enter Tryz.func4, Tryz.ntmps4
  go_wp2_with fail
  refine GA.out.mono ?_
  rintro e w2 ⟨r, rfl, E, hB⟩
  have HB2 := hid hB
  clear hB
  go_wp2_with fail
  go_ret
  exact ⟨r, rfl, E, HB2.out⟩

end Go.Proofs.YtkmadibfiikleaaGreatDoor

namespace Go.Proofs.YtkmadibfiikleaaGreatDoor
namespace Ga

theorem fin_odd {x y : Int} (fx : Ie.fin x) (fy : Ie.fin y) : odd (Ie.cls x) (Ie.cls y) = false := by
  have hx := Ie.fin_not fx
  have hy := Ie.fin_not fy
  have x4 : Ie.cls x ≠ 4 := by have := Ie.isn_cls x; rw [hx.1, beq_eq_false_iff_ne] at this; exact this
  have x3 : Ie.cls x ≠ 3 := by have := Ie.isi_cls x; rw [hx.2, beq_eq_false_iff_ne] at this; exact this
  have y4 : Ie.cls y ≠ 4 := by have := Ie.isn_cls y; rw [hy.1, beq_eq_false_iff_ne] at this; exact this
  have y3 : Ie.cls y ≠ 3 := by have := Ie.isi_cls y; rw [hy.2, beq_eq_false_iff_ne] at this; exact this
  rw [odd, Bool.or_eq_false_iff, decide_eq_false_iff_not, decide_eq_false_iff_not]
  refine ⟨?_, by omega⟩
  rintro (h | h | h | h) <;> omega

/-- t is s and one finite addend more: its sign where it is nothing, its value. -/
structure More (s t : St) (neg : Bool) (V : Int) : Prop where
  n : t.n = s.n
  u : t.u = s.u
  d : t.d = s.d
  c : t.c = s.c + 1
  z : t.z = s.z + (if neg = true ∧ V = 0 then 1 else 0)
  T : t.P - t.N = s.P - s.N + V

theorem dm_zero {d : Int} (h : Ie.fin d) : Ie.dm d = 0 ↔ Ie.un (Ie.ab d) = 0 := by
  rw [(Ie.dec_f d h).2.2.2]
  constructor
  · intro e; rw [e]; exact Ie.un_zero
  · intro e
    have := (Ie.ab_bd d).1
    rcases (show Ie.ab d = 0 ∨ 0 < Ie.ab d by omega) with q | q
    · exact q
    · have := Ie.un_pos q; omega

theorem prod_fin (s : St) {x y : Int} (fx : Ie.fin x) (fy : Ie.fin y) : More s (s.prod x y) (Ie.ngd x != Ie.ngd y) (Ie.uv x * Ie.uv y) := by
  have ho := fin_odd fx fy
  have hu : Ie.uv x * Ie.uv y = Ie.sn (Ie.ngd x != Ie.ngd y) (Ie.un (Ie.ab x) * Ie.un (Ie.ab y)) := by rw [Ie.uv, Ie.uv, Ie.sn_mul]
  have hz : (Ie.dm x = 0 ∨ Ie.dm y = 0) ↔ Ie.uv x * Ie.uv y = 0 := by
    rw [dm_zero fx, dm_zero fy, hu]
    constructor
    · rintro (e | e) <;> rw [e] <;> simp [Ie.sn_zero]
    · intro e
      exact Int.mul_eq_zero.1 (Ie.sn_eq_zero e)
  rw [St.prod, if_neg (by rw [ho]; decide)]
  by_cases h0 : Ie.dm x = 0 ∨ Ie.dm y = 0
  · have hv := hz.1 h0
    rw [if_pos h0]
    by_cases hn : (Ie.ngd x != Ie.ngd y) = true
    · rw [if_pos hn]
      exact ⟨rfl, rfl, rfl, rfl, by rw [if_pos ⟨hn, hv⟩], by rw [hv]; simp [St.inc]⟩
    · rw [if_neg hn]
      exact ⟨rfl, rfl, rfl, rfl, by rw [if_neg (fun q => hn q.1)]; simp [St.inc], by rw [hv]; simp [St.inc]⟩
  · have hv : Ie.uv x * Ie.uv y ≠ 0 := fun e => h0 (hz.2 e)
    rw [if_neg h0]
    by_cases hn : (Ie.ngd x != Ie.ngd y) = true
    · rw [if_pos hn]
      refine ⟨rfl, rfl, rfl, rfl, by rw [if_neg (fun q => hv q.2)]; simp [St.inc], ?_⟩
      rw [hu, hn, Ie.sn_true]
      simp only [St.inc]
      omega
    · rw [if_neg hn]
      refine ⟨rfl, rfl, rfl, rfl, by rw [if_neg (fun q => hv q.2)]; simp [St.inc], ?_⟩
      rw [hu, show (Ie.ngd x != Ie.ngd y) = false by simpa using hn, Ie.sn_false]
      simp only [St.inc]
      omega

theorem fin_lit {d : Int} (h : d % 9223372036854775808 < 9218868437227405312) : Ie.fin d := h
theorem fin_one : Ie.fin 4607182418800017408 := fin_lit (by decide)
theorem uv_one : Ie.uv 4607182418800017408 = 2 ^ 1074 := by
  rw [Ie.uv_pos (by decide) (by decide), Ie.un_1, show (4503599627370496 : Int) = 2 ^ 52 by decide, ← Nm.two_add]

theorem add_fin (s : St) {x : Int} (fx : Ie.fin x) (hc : s.c < 1099511627776) : More s (s.add x) (Ie.ngd x) (Ie.uv x * 2 ^ 1074) := by
  have h := prod_fin s fx fin_one
  rw [St.add, if_pos hc]
  rw [uv_one, show Ie.ngd 4607182418800017408 = false by decide, Bool.bne_false] at h
  exact h

theorem not_odd_none : ¬ none.Odd := by decide

theorem More.odd {s t : St} {neg : Bool} {V : Int} (h : More s t neg V) : t.Odd ↔ s.Odd := by
  rw [St.Odd, St.Odd, h.n, h.u, h.d]

/-- big: the greatest power of two that is a double. -/
theorem uv_big : Ie.uv 9214364837600034816 = Ie.un 9214364837600034816 := Ie.uv_pos (by decide) (by decide)
theorem uv_nbig : Ie.uv 18437736874454810624 = -Ie.un 9214364837600034816 := Ie.uv_neg (x := 9214364837600034816) (by decide) (by decide)

theorem adds3 (a b c : Int) : none.adds [a, b, c] = ((none.add a).add b).add c := rfl

theorem adds_big : (none.adds [9214364837600034816, 9214364837600034816, 18437736874454810624]).c = 3 ∧ ∀ r, (none.adds [9214364837600034816, 9214364837600034816, 18437736874454810624]).Is 1 r → r = 9214364837600034816 := by
  have h1 := add_fin none (x := 9214364837600034816) (fin_lit (by decide)) (by decide)
  have h2 := add_fin (none.add 9214364837600034816) (x := 9214364837600034816) (fin_lit (by decide)) (by rw [h1.c]; decide)
  have h3 := add_fin ((none.add 9214364837600034816).add 9214364837600034816) (x := 18437736874454810624) (fin_lit (by decide)) (by rw [h2.c, h1.c]; decide)
  rw [uv_big] at h1 h2
  rw [uv_nbig, Int.neg_mul] at h3
  rw [adds3]
  refine ⟨by rw [h3.c, h2.c, h1.c]; rfl, fun r hr => ?_⟩
  have hr' : (((none.add 9214364837600034816).add 9214364837600034816).add 18437736874454810624).Is 1 r := hr
  rw [St.Is, if_neg (by rw [h3.odd, h2.odd, h1.odd]; exact not_odd_none), h3.T, h2.T, h1.T, Int.mul_one] at hr'
  refine Ie.RS.lit (Nm.two_pos 1074) hr' 9214364837600034816 (by decide) (by decide) ?_
  simp only [none]
  omega

theorem third_eq (m A B : Int) : m * A * (B * 3) = m * 3 * (A * B) := by
  ac_rfl

theorem near_third : Ie.Near (2 * 2 ^ 2148) (2 ^ 1074 * 3) false 4599676419421066581 := by
  have hQ : (0 : Int) < 2 ^ 1074 * 3 := by have := Nm.two_pos 1074; omega
  have e : (2 : Int) ^ 2148 = 18014398509481984 * (2 ^ 1020 * 2 ^ 1074) := by
    rw [← Nm.two_add, show (18014398509481984 : Int) = 2 ^ 54 by decide, ← Nm.two_add]
  have hK : (0 : Int) < 2 ^ 1020 * 2 ^ 1074 := Int.mul_pos (Nm.two_pos _) (Nm.two_pos _)
  have h := Ie.near_of (2 * 2 ^ 2148) (2 ^ 1074 * 3) false 6004799503160661 1020 hQ (by decide) (by decide) (fun _ => by decide) (by decide)
    (by rw [third_eq, e]; omega) (by rw [third_eq, e]; omega) false (fun q => by cases q) (fun _ => .inl (by rw [third_eq, e]; omega))
  exact h

theorem adds_third : 0 < (none.adds [4607182418800017408, 0, 0]).c ∧ ∀ r, (none.adds [4607182418800017408, 0, 0]).Is (none.adds [4607182418800017408, 0, 0]).c r → r = 4599676419421066581 := by
  have h1 := add_fin none fin_one (by decide)
  have h2 := add_fin (none.add 4607182418800017408) (x := 0) (fin_lit (by decide)) (by rw [h1.c]; decide)
  have h3 := add_fin ((none.add 4607182418800017408).add 0) (x := 0) (fin_lit (by decide)) (by rw [h2.c, h1.c]; decide)
  rw [uv_one] at h1
  rw [show Ie.uv 0 = 0 by rw [Ie.uv_pos (by decide) (by decide), Ie.un_zero], Int.zero_mul] at h2 h3
  rw [adds3]
  have c3 : (((none.add 4607182418800017408).add 0).add 0).c = 3 := by rw [h3.c, h2.c, h1.c]; rfl
  refine ⟨by rw [c3]; decide, fun r hr => ?_⟩
  rw [c3, St.Is, if_neg (by rw [h3.odd, h2.odd, h1.odd]; exact not_odd_none), h3.T, h2.T, h1.T] at hr
  rw [← Nm.two_add, Int.add_zero, Int.add_zero, show none.P - none.N + (2 : Int) ^ (1074 + 1074) = 2 ^ 2148 by simp only [none]; omega] at hr
  have hQ : (0 : Int) < 2 ^ 1074 * 3 := by have := Nm.two_pos 1074; omega
  exact hr.one hQ hQ ⟨false, 2 ^ 2148, 4599676419421066581, rfl, rfl, Int.le_of_lt (Nm.two_pos _), near_third, fun q => absurd q (Int.ne_of_gt (Nm.two_pos 2148))⟩ rfl
end Ga
end Go.Proofs.YtkmadibfiikleaaGreatDoor
