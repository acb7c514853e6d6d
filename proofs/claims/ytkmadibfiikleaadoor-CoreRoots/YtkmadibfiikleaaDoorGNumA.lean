/-
  What is added, in numbers: one addend.
-/
import Derived.Test.YtkmadibfiikleaaDoorGP
import Derived.Test.YtkmadibfiikleaaDoorGOver
namespace Go.Proofs.YtkmadibfiikleaaDoor
namespace Ga

theorem fin_odd {x y : Int} (fx : Ie.fin x) (fy : Ie.fin y) : odd (Ie.cls x) (Ie.cls y) = false := by
  have hx := Ie.fin_not fx
  have hy := Ie.fin_not fy
  have x4 : Ie.cls x ≠ 4 := by have := Ie.isn_cls x; rw [hx.1, beq_eq_false_iff_ne] at this; exact this
  have x3 : Ie.cls x ≠ 3 := by have := Ie.isi_cls x; rw [hx.2, beq_eq_false_iff_ne] at this; exact this
  have y4 : Ie.cls y ≠ 4 := by have := Ie.isn_cls y; rw [hy.1, beq_eq_false_iff_ne] at this; exact this
  have y3 : Ie.cls y ≠ 3 := by have := Ie.isi_cls y; rw [hy.2, beq_eq_false_iff_ne] at this; exact this
  rw [odd, Bool.or_eq_false_iff, decide_eq_false_iff_not, decide_eq_false_iff_not]
  refine ⟨?_, by omega⟩
  rintro (h | h | h | h) <;> omega

/-- t is s and one finite addend more: its sign where it is nothing, its value. -/
structure More (s t : St) (neg : Bool) (V : Int) : Prop where
  n : t.n = s.n
  u : t.u = s.u
  d : t.d = s.d
  c : t.c = s.c + 1
  z : t.z = s.z + (if neg = true ∧ V = 0 then 1 else 0)
  T : t.P - t.N = s.P - s.N + V

theorem dm_zero {d : Int} (h : Ie.fin d) : Ie.dm d = 0 ↔ Ie.un (Ie.ab d) = 0 := by
  rw [(Ie.dec_f d h).2.2.2]
  constructor
  · intro e; rw [e]; exact Ie.un_zero
  · intro e
    have := (Ie.ab_bd d).1
    rcases (show Ie.ab d = 0 ∨ 0 < Ie.ab d by omega) with q | q
    · exact q
    · have := Ie.un_pos q; omega

theorem prod_fin (s : St) {x y : Int} (fx : Ie.fin x) (fy : Ie.fin y) : More s (s.prod x y) (Ie.ngd x != Ie.ngd y) (Ie.uv x * Ie.uv y) := by
  have ho := fin_odd fx fy
  have hu : Ie.uv x * Ie.uv y = Ie.sn (Ie.ngd x != Ie.ngd y) (Ie.un (Ie.ab x) * Ie.un (Ie.ab y)) := by rw [Ie.uv, Ie.uv, Ie.sn_mul]
  have hz : (Ie.dm x = 0 ∨ Ie.dm y = 0) ↔ Ie.uv x * Ie.uv y = 0 := by
    rw [dm_zero fx, dm_zero fy, hu]
    constructor
    · rintro (e | e) <;> rw [e] <;> simp [Ie.sn_zero]
    · intro e
      exact Int.mul_eq_zero.1 (Ie.sn_eq_zero e)
  rw [St.prod, if_neg (by rw [ho]; decide)]
  by_cases h0 : Ie.dm x = 0 ∨ Ie.dm y = 0
  · have hv := hz.1 h0
    rw [if_pos h0]
    by_cases hn : (Ie.ngd x != Ie.ngd y) = true
    · rw [if_pos hn]
      exact ⟨rfl, rfl, rfl, rfl, by rw [if_pos ⟨hn, hv⟩], by rw [hv]; simp [St.inc]⟩
    · rw [if_neg hn]
      exact ⟨rfl, rfl, rfl, rfl, by rw [if_neg (fun q => hn q.1)]; simp [St.inc], by rw [hv]; simp [St.inc]⟩
  · have hv : Ie.uv x * Ie.uv y ≠ 0 := fun e => h0 (hz.2 e)
    rw [if_neg h0]
    by_cases hn : (Ie.ngd x != Ie.ngd y) = true
    · rw [if_pos hn]
      refine ⟨rfl, rfl, rfl, rfl, by rw [if_neg (fun q => hv q.2)]; simp [St.inc], ?_⟩
      rw [hu, hn, Ie.sn_true]
      simp only [St.inc]
      omega
    · rw [if_neg hn]
      refine ⟨rfl, rfl, rfl, rfl, by rw [if_neg (fun q => hv q.2)]; simp [St.inc], ?_⟩
      rw [hu, show (Ie.ngd x != Ie.ngd y) = false by simpa using hn, Ie.sn_false]
      simp only [St.inc]
      omega

theorem fin_lit {d : Int} (h : d % 9223372036854775808 < 9218868437227405312) : Ie.fin d := h
theorem fin_one : Ie.fin 4607182418800017408 := fin_lit (by decide)
theorem uv_one : Ie.uv 4607182418800017408 = 2 ^ 1074 := by
  rw [Ie.uv_pos (by decide) (by decide), Ie.un_1, show (4503599627370496 : Int) = 2 ^ 52 by decide, ← Nm.two_add]

theorem add_fin (s : St) {x : Int} (fx : Ie.fin x) (hc : s.c < 1099511627776) : More s (s.add x) (Ie.ngd x) (Ie.uv x * 2 ^ 1074) := by
  have h := prod_fin s fx fin_one
  rw [St.add, if_pos hc]
  rw [uv_one, show Ie.ngd 4607182418800017408 = false by decide, Bool.bne_false] at h
  exact h

theorem not_odd_none : ¬ none.Odd := by decide

theorem More.odd {s t : St} {neg : Bool} {V : Int} (h : More s t neg V) : t.Odd ↔ s.Odd := by
  rw [St.Odd, St.Odd, h.n, h.u, h.d]
end Ga
end Go.Proofs.YtkmadibfiikleaaDoor
