/-
  law13's copied.
-/
import Derived.Test.YtaadooippelcfaaDoorDAwake
import Derived.Test.YtaadooippelcfaaDoorGE
import Derived.Laws.OwnMore
import Derived.Test.YtaadooippelcfaaDoorDRefS
import Derived.Laws.MakeOwn
namespace Go.Proofs.YtaadooippelcfaaDoor
open Go Go.RowKit Go.Deep Go.Shelf

theorem make_p0 (n : Nat) (hn : n ≤ 4398046511104) (W : World) : ∃ W', (Instr.makeSlice 26 (.int .i64 0) (.int .i64 (n : Int))).run Tryd.prog W = .ok (.slice (some ⟨W.heap.size, 0, none⟩) 0 n) W' ∧ RowP W.heap.size W' (.slice (some ⟨W.heap.size, 0, none⟩) 0 n) [] ∧ Below W.heap.size W W' := by
  obtain ⟨i, hi, hz⟩ := Option.map_eq_some_iff.1 infoP
  simp only [Prod.mk.injEq] at hz
  obtain ⟨z1, z2, z3⟩ := hz
  have := run_make (P := Tryd.prog) W 26 25 i _ Tryd.underlying26 hi z1 .i64 .i64 0 (n : Int) (by omega) (by omega) (by rw [z3]; omega) (by omega)
  rw [Int.toNat_natCast, z2] at this
  refine ⟨_, this, ⟨rfl, .inr ⟨W.heap.size, n, _, rfl, Nat.le_refl _, heap_alloc_new W _, Nat.zero_le _, by simp only [maxLen]; omega, ?_, by simp [pcs]⟩⟩, alloc_b W _⟩
  simp [madeCells]
theorem pcs_cells {w : World} {b off : Nat} {ps : List Dr.Pc} (h : ∀ i p, ps[i]? = some p → PCells w b (off + i * 7) p) : ∀ j u, (pcs ps)[j]? = some u → w.cell? ((⟨b, off, none⟩ : Addr).add j) = some u := fun j u hu => by
  rw [Go.WideShapes.add_plain]
  have hj : j < ps.length * 7 := by rw [← pcs_len ps]; exact (List.getElem?_eq_some_iff.1 hu).1
  have hi : j / 7 < ps.length := by omega
  obtain ⟨p, hp⟩ : ∃ p, ps[j / 7]? = some p := ⟨_, List.getElem?_eq_getElem hi⟩
  have hc := h _ p hp
  have hr : j % 7 < 7 := Nat.mod_lt _ (by omega)
  have e : j = j / 7 * 7 + j % 7 := by omega
  rw [e, pcs_at hp hr] at hu
  rw [e, ← Nat.add_assoc]
  obtain ⟨c0, c1, c2, c3, c4, c5, c6⟩ := hc
  generalize j / 7 = q at *
  generalize j % 7 = r at *
  rcases (show r = 0 ∨ r = 1 ∨ r = 2 ∨ r = 3 ∨ r = 4 ∨ r = 5 ∨ r = 6 by omega) with rfl | rfl | rfl | rfl | rfl | rfl | rfl
  · cases hu; exact c0
  · cases hu; exact c1
  · cases hu; exact c2
  · cases hu; exact c3
  · cases hu; exact c4
  · cases hu; exact c5
  · cases hu; exact c6
/-- A list that can be read, put behind a list of our own. -/
theorem RowP.catl {base cap : Nat} {w : World} {mv : Value} {a : Option Addr} {ps qs : List Dr.Pc} (ho : RowP base w mv ps) (hr : LP w a qs) (hn : ps.length + qs.length ≤ 2000000000000) (hb : base ≤ w.heap.size) :
    ∃ mv' w', (Builtin.append_ #[26, 26] 26 #[mv, .slice a qs.length cap]).run Tryd.prog w = .ok mv' w' ∧ RowP base w' mv' (ps ++ qs) ∧ Below base w w' ∧ (∀ j, j < w.heap.size → some j ≠ mv.ownBlock → w'.heap[j]? = w.heap[j]?) := by
  obtain ⟨i, hi, hz⟩ := Option.map_eq_some_iff.1 infoP
  simp only [Prod.mk.injEq] at hz
  obtain ⟨z1, z2, z3⟩ := hz
  have one : ∀ u ∈ pcs qs, u.oneCell' = true := fun u hu => by
    obtain ⟨p, _, hu⟩ := List.mem_flatMap.1 hu
    simp only [pcv, List.mem_cons, List.not_mem_nil, or_false] at hu
    rcases hu with rfl | rfl | rfl | rfl | rfl | rfl | rfl <;> rfl
  have key : ∀ x : Addr, a = some x → (∀ j u, (pcs qs)[j]? = some u → w.cell? (x.add j) = some u) → ∃ mv' w', (Builtin.append_ #[26, 26] 26 #[mv, .slice a qs.length cap]).run Tryd.prog w = .ok mv' w' ∧ RowP base w' mv' (ps ++ qs) ∧ Below base w w' ∧ (∀ j, j < w.heap.size → some j ≠ mv.ownBlock → w'.heap[j]? = w.heap[j]?) := by
    rintro x rfl hsrc
    obtain ⟨v', w', hr', h1, h2, _⟩ := run_append_own (P := Tryd.prog) w base 26 26 25 i _ 7 64 Tryd.underlying26 hi z1 z2 z3 rfl (by omega) mv ps.length (pcs ps) ho
      x qs.length cap (pcs qs) (pcs_len qs) hsrc one (by simp only [maxLen]; omega) (by omega) hb
    refine ⟨v', w', hr', ?_, ?_, fun j hj hne => h2.block j hj hne⟩
    · rw [← pcs_app] at h1
      rw [RowP, List.length_append]; exact h1
    · refine ⟨h2.os, h2.tape, h2.output, h2.size, fun j hj => h2.block j (by omega) ?_⟩
      intro hk
      have := (ho.lt j hk.symm).1
      omega
  rcases hr with rfl | ⟨b, off, rfl, h⟩
  · cases a with
    | some x => exact key x rfl (fun j u hu => by simp [pcs] at hu)
    | none =>
      refine ⟨mv, w, ?_, by rw [List.append_nil]; exact ho, Below.refl _ _, fun _ _ _ => rfl⟩
      rcases ho.2 with ⟨rfl, h0⟩ | ⟨g, c2, cur, rfl, _, _, hnc, _⟩
      · simp [Builtin.append_, run_underlying Tryd.underlying26, sizeOf, typeInfo, hi, Builtin.lenOf, Builtin.firstCells]
      · simp [Builtin.append_, run_underlying Tryd.underlying26, sizeOf, typeInfo, hi, Builtin.lenOf, Builtin.firstCells, hnc, storeCells]
  · exact key _ rfl (pcs_cells h)

set_option maxRecDepth 100000 in
set_option maxHeartbeats 4000000 in
theorem copied_any (a : Option Addr) (cap : Nat) (ps : List Dr.Pc) (w : World) (h : LP w a ps) (hn : ps.length ≤ 1099511627776) :
    Calls Tryd.prog 6 #[.slice a ps.length cap] w fun e w' => ∃ r c, e = .returned (.slice r ps.length c) ∧ LP w' r ps ∧ RowP w.heap.size w' (.slice r ps.length c) ps ∧ Below w.heap.size w w' := by
  have H := hid h
  have HN := hid hn
  have ni : (ps.length : Int) ≤ 1099511627776 := by omega
  obtain ⟨W1, m1, m2, m3⟩ := make_p0 ps.length (by omega) w
  have hlp := hid (h.below m3)
  obtain ⟨mv', W2, a1, a2, a3, _⟩ := RowP.catl (cap := cap) m2 hlp.out (by simp; omega) m3.size
  rw [List.nil_append] at a2
  obtain ⟨r, c, rfl, _, lp⟩ := a2.lp
  have F : Hid (∃ r' c', (Ending.returned (.slice r ps.length c)) = .returned (.slice r' ps.length c') ∧ LP W2 r' ps ∧ RowP w.heap.size W2 (.slice r' ps.length c') ps ∧ Below w.heap.size w W2) := ⟨r, c, rfl, lp, a2, m3.trans a3⟩
  have AP := hid a1
  generalize ps.length = n at *
  clear h hn m2 m3 a1 a2 a3 lp hlp
  go_enter Tryd.func6, Tryd.ntmps6
  go_wp2_with (at_builtin; refine wpList_append_s rfl _ _ rfl AP.out (by rfl) (by rfl) ?_; clear AP)
  go_ret
  exact F.out
end Go.Proofs.YtaadooippelcfaaDoor
