/-
  Lists of pieces put one behind the other; what the law of Single needs beside its walk.
-/
import Derived.Test.YtoceghlfckfojaaDoorDCutL
import Derived.Test.YtoceghlfckfojaaDoorDAwake
import Derived.Laws.OwnMore
namespace Go.Proofs.YtoceghlfckfojaaDoor
open Go Go.RowKit Go.Deep Go.Shelf

namespace Dr
theorem cutF_in : ∀ (l t : List Int), ∀ p ∈ cutF t l, (∀ x ∈ p.t, x ∈ t ∨ x ∈ l) ∧ p.t.length ≤ t.length + l.length
  | [], t, p, hp => by
    rw [cutF] at hp
    split at hp
    · simp at hp
    · simp at hp; rw [hp]; exact ⟨fun x hx => .inl hx, by simp [txt]⟩
  | c :: l, t, p, hp => by
    rw [cutF] at hp
    split at hp
    · rcases List.mem_append.1 hp with q | q
      · split at q
        · simp at q; rw [q]; exact ⟨fun x hx => by simp [pct] at hx, by simp [pct]⟩
        · simp at q
          rcases q with q | q
          · rw [q]; exact ⟨fun x hx => .inl hx, by simp [txt]⟩
          · rw [q]; exact ⟨fun x hx => by simp [pct] at hx, by simp [pct]⟩
      · obtain ⟨a, b⟩ := cutF_in l [] p q
        refine ⟨fun x hx => ?_, by simp at b; simp; omega⟩
        rcases a x hx with z | z
        · simp at z
        · exact .inr (by simp [z])
    · obtain ⟨a, b⟩ := cutF_in l _ p hp
      refine ⟨fun x hx => ?_, by simp at b; simp; omega⟩
      rcases a x hx with z | z
      · rcases List.mem_append.1 z with z | z
        · exact .inl z
        · simp at z; exact .inr (by simp [z])
      · exact .inr (by simp [z])
end Dr

theorem sgl_pcw {a b : List Int} {p : Dr.Pc} (ha : ∀ x ∈ a, 0 ≤ x ∧ x < 256) (hb : ∀ x ∈ b, 0 ≤ x ∧ x < 256) (hp : PcW p) : ∀ q ∈ Dr.sgl a p b, PcW q := by
  have key : ∀ (c : List Int), (∀ x ∈ c, 0 ≤ x ∧ x < 256) → ∀ q ∈ Dr.cutL c, PcW q := by
    intro c hc q hq
    refine ⟨fun x hx => ?_, ?_⟩
    · rcases (Dr.cutF_in c [] q hq).1 x hx with z | z
      · simp at z
      · exact hc x z
    · rcases Dr.cutL_N c q hq with z | z <;> rw [z] <;> omega
  intro q hq
  rcases List.mem_append.1 hq with k | k
  · exact key a ha q k
  · rcases List.mem_cons.1 k with k | k
    · rw [k]; exact hp
    · exact key b hb q k
theorem sgl_small {a b : List Int} {p : Dr.Pc} {M : Nat} (ha : a.length ≤ M) (hb : b.length ≤ M) (hp : p.t.length ≤ M) : ∀ q ∈ Dr.sgl a p b, q.t.length ≤ M := by
  intro q hq
  rcases List.mem_append.1 hq with k | k
  · have := (Dr.cutF_in a [] q k).2; simp at this; omega
  · rcases List.mem_cons.1 k with k | k
    · rw [k]; exact hp
    · have := (Dr.cutF_in b [] q k).2; simp at this; omega
theorem sgl_long {a b : List Int} {p : Dr.Pc} (ha : a.length ≤ 1048576) (hb : b.length ≤ 1048576) (hp : p.t.length ≤ 1048576) (h : Dr.ok p) : (Dr.wrs (Dr.sgl a p b)).length ≤ 8388608 := by
  have h1 := Dr.dbl_len a
  have h2 := Dr.dbl_len b
  have h3 := wr_len h
  rw [Dr.sgl_wrs, List.length_append, List.length_append]; omega

theorem RowP.cat {base b2 : Nat} {w : World} {mv rv : Value} {ps qs : List Dr.Pc} (ho : RowP base w mv ps) (hr : RowP b2 w rv qs) (hn : ps.length + qs.length ≤ 2000000000000) (hb : base ≤ w.heap.size) :
    ∃ mv' w', (Builtin.append_ #[26, 26] 26 #[mv, rv]).run Tryd.prog w = .ok mv' w' ∧ RowP base w' mv' (ps ++ qs) ∧ Below base w w' ∧ (∀ j, j < w.heap.size → some j ≠ mv.ownBlock → w'.heap[j]? = w.heap[j]?) := by
  obtain ⟨i, hi, hz⟩ := Option.map_eq_some_iff.1 infoP
  simp only [Prod.mk.injEq] at hz
  obtain ⟨z1, z2, z3⟩ := hz
  rcases hr.2 with ⟨rfl, h0⟩ | ⟨g, cap, cur, rfl, _, _, hc, _⟩
  · have q := run_append_owned_none (P := Tryd.prog) w base 26 26 25 i 7 Tryd.underlying26 hi mv ps.length (pcs ps) ho
    refine ⟨mv, w, q, ?_, Below.refl _ _, fun _ _ _ => rfl⟩
    rw [List.eq_nil_of_length_eq_zero h0, List.append_nil]; exact ho
  · obtain ⟨v', w', hr', h1, h2, _⟩ := run_append_own (P := Tryd.prog) w base 26 26 25 i _ 7 64 Tryd.underlying26 hi z1 z2 z3 rfl (by omega) mv ps.length (pcs ps) ho
      ⟨g, 0, none⟩ qs.length cap (pcs qs) (pcs_len qs) (fun j u hu => World.ownsRow.cells hr (g := g) rfl j u hu) (fun u hu => by
        obtain ⟨p, _, hu⟩ := List.mem_flatMap.1 hu
        simp only [pcv, List.mem_cons, List.not_mem_nil, or_false] at hu
        rcases hu with rfl | rfl | rfl | rfl | rfl | rfl | rfl <;> rfl) (by simp only [maxLen]; omega) (by omega) hb
    refine ⟨v', w', hr', ?_, ?_, fun j hj hne => h2.block j hj hne⟩
    · rw [← pcs_app] at h1
      rw [RowP, List.length_append]; exact h1
    · refine ⟨h2.os, h2.tape, h2.output, h2.size, fun j hj => h2.block j (by omega) ?_⟩
      intro hk
      have := (ho.lt j hk.symm).1
      omega

theorem eq_spec13 (v f a b v' f' a' b' : Int) (w : World) : (Op.equalIn 10000 46 (.agg #[.int .u8 v, .int .i64 f, .int .i64 a, .int .i64 b]) (.agg #[.int .u8 v', .int .i64 f', .int .i64 a', .int .i64 b'])).run Tryd.prog w = .ok (v == v' && f == f' && a == a' && b == b') w := by
  have u3 := Tryd.underlying3
  have a3 := Tryd.isAgg3
  have z3 := Tryd.sizeOf3
  have u5 := Tryd.underlying5
  have a5 := Tryd.isAgg5
  have z5 := Tryd.sizeOf5
  have hS : Tryd.prog.underlying 46 = some (.struct (Tryd.prog.fieldsOf 46)) := by kernel_rfl
  rw [show (10000 : Nat) = 9999 + 1 from rfl, run_equalIn_struct w 9999 46 _ _ hS (by kernel_rfl)]
  simp only [Program.fieldsOf, Tryd.underlying46]
  go_simp
  by_cases h2 : v = v' <;> by_cases h3 : f = f' <;> by_cases h4 : a = a' <;> by_cases h5 : b = b' <;> simp [h2, h3, h4, h5]
theorem app_str {s t : ByteArray} {xs ys : List Int} (h : Str s xs) (k : Str t ys) : Str (s ++ t) (xs ++ ys) := by
  rw [Str, ByteArray.data_append, Array.toList_append, List.map_append, h, k]
end Go.Proofs.YtoceghlfckfojaaDoor
