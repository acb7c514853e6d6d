/-
  Texts put together: GNumA, GNew, GDot.
-/
import Derived.Test.YtkmadibfiikleaaDoorGP
import Derived.Test.YtkmadibfiikleaaDoorGOver
import Derived.Test.YtkmadibfiikleaaDoorGAcc
namespace Go.Proofs.YtkmadibfiikleaaDoor
namespace Ga

theorem fin_odd {x y : Int} (fx : Ie.fin x) (fy : Ie.fin y) : odd (Ie.cls x) (Ie.cls y) = false := by
  have hx := Ie.fin_not fx
  have hy := Ie.fin_not fy
  have x4 : Ie.cls x ≠ 4 := by have := Ie.isn_cls x; rw [hx.1, beq_eq_false_iff_ne] at this; exact this
  have x3 : Ie.cls x ≠ 3 := by have := Ie.isi_cls x; rw [hx.2, beq_eq_false_iff_ne] at this; exact this
  have y4 : Ie.cls y ≠ 4 := by have := Ie.isn_cls y; rw [hy.1, beq_eq_false_iff_ne] at this; exact this
  have y3 : Ie.cls y ≠ 3 := by have := Ie.isi_cls y; rw [hy.2, beq_eq_false_iff_ne] at this; exact this
  rw [odd, Bool.or_eq_false_iff, decide_eq_false_iff_not, decide_eq_false_iff_not]
  refine ⟨?_, by omega⟩
  rintro (h | h | h | h) <;> omega

/-- t is s and one finite addend more: its sign where it is nothing, its value. -/
structure More (s t : St) (neg : Bool) (V : Int) : Prop where
  n : t.n = s.n
  u : t.u = s.u
  d : t.d = s.d
  c : t.c = s.c + 1
  z : t.z = s.z + (if neg = true ∧ V = 0 then 1 else 0)
  T : t.P - t.N = s.P - s.N + V

theorem dm_zero {d : Int} (h : Ie.fin d) : Ie.dm d = 0 ↔ Ie.un (Ie.ab d) = 0 := by
  rw [(Ie.dec_f d h).2.2.2]
  constructor
  · intro e; rw [e]; exact Ie.un_zero
  · intro e
    have := (Ie.ab_bd d).1
    rcases (show Ie.ab d = 0 ∨ 0 < Ie.ab d by omega) with q | q
    · exact q
    · have := Ie.un_pos q; omega

theorem prod_fin (s : St) {x y : Int} (fx : Ie.fin x) (fy : Ie.fin y) : More s (s.prod x y) (Ie.ngd x != Ie.ngd y) (Ie.uv x * Ie.uv y) := by
  have ho := fin_odd fx fy
  have hu : Ie.uv x * Ie.uv y = Ie.sn (Ie.ngd x != Ie.ngd y) (Ie.un (Ie.ab x) * Ie.un (Ie.ab y)) := by rw [Ie.uv, Ie.uv, Ie.sn_mul]
  have hz : (Ie.dm x = 0 ∨ Ie.dm y = 0) ↔ Ie.uv x * Ie.uv y = 0 := by
    rw [dm_zero fx, dm_zero fy, hu]
    constructor
    · rintro (e | e) <;> rw [e] <;> simp [Ie.sn_zero]
    · intro e
      exact Int.mul_eq_zero.1 (Ie.sn_eq_zero e)
  rw [St.prod, if_neg (by rw [ho]; decide)]
  by_cases h0 : Ie.dm x = 0 ∨ Ie.dm y = 0
  · have hv := hz.1 h0
    rw [if_pos h0]
    by_cases hn : (Ie.ngd x != Ie.ngd y) = true
    · rw [if_pos hn]
      exact ⟨rfl, rfl, rfl, rfl, by rw [if_pos ⟨hn, hv⟩], by rw [hv]; simp [St.inc]⟩
    · rw [if_neg hn]
      exact ⟨rfl, rfl, rfl, rfl, by rw [if_neg (fun q => hn q.1)]; simp [St.inc], by rw [hv]; simp [St.inc]⟩
  · have hv : Ie.uv x * Ie.uv y ≠ 0 := fun e => h0 (hz.2 e)
    rw [if_neg h0]
    by_cases hn : (Ie.ngd x != Ie.ngd y) = true
    · rw [if_pos hn]
      refine ⟨rfl, rfl, rfl, rfl, by rw [if_neg (fun q => hv q.2)]; simp [St.inc], ?_⟩
      rw [hu, hn, Ie.sn_true]
      simp only [St.inc]
      omega
    · rw [if_neg hn]
      refine ⟨rfl, rfl, rfl, rfl, by rw [if_neg (fun q => hv q.2)]; simp [St.inc], ?_⟩
      rw [hu, show (Ie.ngd x != Ie.ngd y) = false by simpa using hn, Ie.sn_false]
      simp only [St.inc]
      omega

theorem fin_lit {d : Int} (h : d % 9223372036854775808 < 9218868437227405312) : Ie.fin d := h
theorem fin_one : Ie.fin 4607182418800017408 := fin_lit (by decide)
theorem uv_one : Ie.uv 4607182418800017408 = 2 ^ 1074 := by
  rw [Ie.uv_pos (by decide) (by decide), Ie.un_1, show (4503599627370496 : Int) = 2 ^ 52 by decide, ← Nm.two_add]

theorem add_fin (s : St) {x : Int} (fx : Ie.fin x) (hc : s.c < 1099511627776) : More s (s.add x) (Ie.ngd x) (Ie.uv x * 2 ^ 1074) := by
  have h := prod_fin s fx fin_one
  rw [St.add, if_pos hc]
  rw [uv_one, show Ie.ngd 4607182418800017408 = false by decide, Bool.bne_false] at h
  exact h

theorem not_odd_none : ¬ none.Odd := by decide

theorem More.odd {s t : St} {neg : Bool} {V : Int} (h : More s t neg V) : t.Odd ↔ s.Odd := by
  rw [St.Odd, St.Odd, h.n, h.u, h.d]
end Ga
end Go.Proofs.YtkmadibfiikleaaDoor

namespace Go.Proofs.YtkmadibfiikleaaDoor
open Go.RowKit Go.Deep

theorem zero_cells : Tryd.zeroCells79 = (head5 Ga.none ++ lb (List.replicate 67 0) ++ lb (List.replicate 67 0)).toArray := by kernel_rfl

theorem acc_size : (Tryd.prog.info? 79).map (·.size) = some 139 := by kernel_rfl

theorem Blk.setCells {g t : Nat} : ∀ (vs A B : List Value) (w : World), Blk w g t (A ++ B) → B.length = vs.length → Blk (w.setCells g A.length vs) g t (A ++ vs)
  | [], A, B, w, h, hl => by
    have : B = [] := List.eq_nil_of_length_eq_zero hl
    subst this
    exact h
  | v :: r, A, b :: B, w, h, hl => by
    have h1 := h.set A.length v
    rw [List.set_append_right _ _ (Nat.le_refl _), Nat.sub_self] at h1
    have h2 := Blk.setCells r (A ++ [v]) B (w.setCell ⟨g, A.length, none⟩ v) (by simpa using h1) (by simpa using hl)
    simpa [World.setCells] using h2

theorem Only.setCells {g : Nat} : ∀ (vs : List Value) (o : Nat) (w : World), Only g w (w.setCells g o vs)
  | [], _, w => Only.refl g w
  | v :: r, o, w => (Only.set (w := w) (g := g) o v).trans (Only.setCells r (o + 1) _)

theorem size_setCells {g : Nat} : ∀ (vs : List Value) (o : Nat) (w : World), (w.setCells g o vs).heap.size = w.heap.size
  | [], _, w => rfl
  | v :: r, o, w => by
    rw [World.setCells, size_setCells r]
    simp [World.setCell]

theorem none_at {w : World} {g : Nat} (h : Blk w g 79 (head5 Ga.none ++ lb (List.replicate 67 0) ++ lb (List.replicate 67 0))) : AccAt w g Ga.none :=
  ⟨_, _, h, ⟨by simp, by simp⟩, ⟨Nm.Limbs.replicate _, Nm.Limbs.replicate _⟩, ⟨Nm.val_replicate _, Nm.val_replicate _⟩, Ga.none_ok⟩

set_option maxRecDepth 100000 in
theorem new_any (w : World) :
    Calls Tryd.prog 32 #[] w fun e w' => e = .returned (.pointer (some ⟨w.heap.size, 0, none⟩)) ∧ AccAt w' w.heap.size Ga.none ∧ Below w.heap.size w w' := by
  have A : Hid (AccAt (w.alloc (.cells Tryd.zeroCells79 79)) w.heap.size Ga.none) := by
    rw [zero_cells]
    exact none_at (Blk.new w _ _)
  have B : Hid (Below w.heap.size w (w.alloc (.cells Tryd.zeroCells79 79))) := (Below.refl _ _).alloc (Nat.le_refl _) _
  go_enter Tryd.func32, Tryd.ntmps32
  go_wp2
  go_ret
  exact ⟨rfl, A.out, B.out⟩

theorem acc_one (s : Ga.St) (aa bb : List Int) : ∀ v ∈ head5 s ++ lb aa ++ lb bb, v.oneCell' = true := by
  intro v hv
  simp only [head5, lb, List.mem_append, List.mem_cons, List.mem_map, List.not_mem_nil, or_false] at hv
  rcases hv with (h | ⟨z, _, rfl⟩) | ⟨z, _, rfl⟩
  · rcases h with rfl | rfl | rfl | rfl | rfl <;> rfl
  · rfl
  · rfl

theorem acc_len (s : Ga.St) {aa bb : List Int} (h : aa.length = 67 ∧ bb.length = 67) : (head5 s ++ lb aa ++ lb bb).length = 139 := by
  simp [head5, lb_length, h.1, h.2]

end Go.Proofs.YtkmadibfiikleaaDoor

namespace Go.Proofs.YtkmadibfiikleaaDoor
open Go.RowKit Go.Deep

namespace Ga
/-- The products of two lists, pair by pair, are added. -/
def St.dots (s : St) : List (Int × Int) → St
  | [] => s
  | p :: r => (s.mul p.1 p.2).dots r
theorem dots_append (s : St) : ∀ (a b : List (Int × Int)), s.dots (a ++ b) = (s.dots a).dots b
  | [], b => rfl
  | p :: r, b => by rw [List.cons_append, St.dots, St.dots, dots_append]
theorem dots_succ (s : St) (xs ys : List Int) (j : Nat) (hx : j < xs.length) (hy : j < ys.length) : s.dots ((xs.zip ys).take (j + 1)) = (s.dots ((xs.zip ys).take j)).mul (xs.getD j 0) (ys.getD j 0) := by
  have hj : j < (xs.zip ys).length := by rw [List.length_zip]; omega
  rw [List.take_add_one, dots_append, List.getElem?_eq_getElem hj]
  simp [St.dots, List.getD, List.getElem?_eq_getElem hx, List.getElem?_eq_getElem hy]
end Ga

theorem Arg.elem' {w : World} {p : Option Addr} {n cap : Nat} {zs : List Int} (h : Arg w p n cap zs) (j : Nat) (hj : j < n) :
    ∃ b off x, p = some ⟨b, off, none⟩ ∧ w.cell? ⟨b, off + j, none⟩ = some (.int .u64 x) ∧ zs.getD j 0 = x ∧ 0 ≤ x ∧ x < 18446744073709551616 := by
  obtain ⟨hn, -, -, hL, hm⟩ := h
  rcases hL with rfl | ⟨b, off, rfl, hc⟩
  · simp at hn; omega
  · have := hm.at j
    exact ⟨b, off, _, rfl, hc j (by omega), rfl, this.1, this.2⟩

set_option maxRecDepth 100000 in
theorem products_any (p q : Option Addr) (n cap cap' : Nat) (xs ys : List Int) (w : World) (ha : Arg w p n cap xs) (hb : Arg w q n cap' ys) :
    Calls Tryd.prog 18 #[.slice p n cap, .slice q n cap'] w fun e w' => e = .returned (.pointer (some ⟨w.heap.size, 0, none⟩)) ∧ AccAt w' w.heap.size (Ga.none.dots (xs.zip ys)) ∧ Below w.heap.size w w' := by
  have nb : n ≤ 140737488355328 := by have := ha.2.1; have := ha.2.2.1; omega
  have NW := hid (new_any w)
  have HA := hid (fun (wx : World) (h : Below w.heap.size w wx) => ha.below h (Nat.le_refl _))
  have HB := hid (fun (wx : World) (h : Below w.heap.size w wx) => hb.below h (Nat.le_refl _))
  have lx := hid ha.1
  have ly := hid hb.1
  obtain ⟨g, hg⟩ : ∃ g, w.heap.size = g := ⟨_, rfl⟩
  rw [hg] at NW
  clear ha hb
  go_enter Tryd.func18, Tryd.ntmps18
  go_wp2_with fail
  refine NW.out.mono ?_
  rintro e w1 ⟨rfl, hA, hB⟩
  have R0 : Hid (AccAt w1 g (Ga.none.dots ((xs.zip ys).take 0)) ∧ Below w.heap.size w w1) := ⟨hA, by rw [hg]; exact hB⟩
  clear hA hB NW
  go_wp2_with fail
  go_loopw [11] (fun i wr => ∃ j : Nat, i = .int .i64 j ∧ j ≤ n ∧ Hid (AccAt wr g (Ga.none.dots ((xs.zip ys).take j)) ∧ Below w.heap.size w wr)) (fun i _ => n - (intOf i).toNat)
  case atStart => exact ⟨0, rfl, Nat.zero_le _, R0⟩
  case round =>
    clear R0
    obtain ⟨j, rfl, hj, R⟩ := hrel
    by_cases hlt : j < n
    · obtain ⟨b, off, x, rfl, hx, X, x0, x1⟩ := (HA.out _ R.out.2).elem' j hlt
      obtain ⟨b', off', y, rfl, hy, Y, y0, y1⟩ := (HB.out _ R.out.2).elem' j hlt
      have AD := addProduct_all g _ _ R.out.1 x y x0 x1 y0 y1
      rw [← X, ← Y, ← Ga.dots_succ Ga.none xs ys j (by rw [lx.out]; exact hlt) (by rw [ly.out]; exact hlt), X, Y] at AD
      have AD := hid AD
      have E : Hid (∀ w7, AccAt w7 g (Ga.none.dots ((xs.zip ys).take (j + 1))) → Only g wr w7 → AccAt w7 g (Ga.none.dots ((xs.zip ys).take (j + 1))) ∧ Below w.heap.size w w7) := fun w7 h7 o7 => ⟨h7, R.out.2.trans (o7.below (by omega) R.out.2.size)⟩
      have hlt' : (j : Int) < (n : Int) := by omega
      clear R X Y
      go_wp2_with fail
      refine AD.out.mono ?_
      rintro e w7 ⟨rfl, h7, o7⟩
      have R1 := hid (E.out w7 h7 o7)
      clear h7 o7 AD E hx hy
      go_wp2_with fail
      go_roundw
      case rel => exact ⟨j + 1, by go_num, by omega, R1⟩
      case measure => simp [intOf]; omega
    · have hjn : j = n := by omega
      subst hjn
      rw [List.take_of_length_le (by rw [List.length_zip, lx.out, ly.out]; omega)] at R
      have R2 : Hid (AccAt wr g (Ga.none.dots (xs.zip ys)) ∧ Below g w wr) := ⟨R.out.1, by rw [← hg]; exact R.out.2⟩
      clear R
      go_wp2_with fail
      go_ret
      rw [hg]
      exact ⟨rfl, R2.out⟩

set_option maxRecDepth 100000 in
theorem dot_any (p q : Option Addr) (n cap cap' : Nat) (xs ys : List Int) (w : World) (ha : Arg w p n cap xs) (hb : Arg w q n cap' ys) (hT : Tab w) :
    Calls Tryd.prog 7 #[.slice p n cap, .slice q n cap'] w fun e w' => ∃ r, e = .returned (.tuple #[.int .u64 r, .int .i64 0]) ∧ Hid ((Ga.none.dots (xs.zip ys)).Is 1 r) ∧ Below w.heap.size w w' := by
  have GA := hid (products_any p q n cap cap' xs ys w ha hb)
  have HT := hid hT
  clear ha hb hT
  go_enter Tryd.func7, Tryd.ntmps7
  go_wp2_with fail
  refine GA.out.mono ?_
  rintro e w1 ⟨rfl, hA, hB⟩
  have V := hid (value_any _ _ w1 hA (HT.out.below hB))
  have HB := hid hB
  clear hA hB
  go_wp2_with fail
  refine V.out.mono ?_
  rintro e w2 ⟨r, rfl, E, hB⟩
  have HB2 := hid (HB.out.trans (hB.mono HB.out.size))
  clear hB
  go_wp2_with fail
  go_ret2
  exact ⟨r, rfl, E, HB2.out⟩
end Go.Proofs.YtkmadibfiikleaaDoor
