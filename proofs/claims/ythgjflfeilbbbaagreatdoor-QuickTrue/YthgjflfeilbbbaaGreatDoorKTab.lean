/-
  The tables that a row lists: de Bruijn's, and the powers of ten.
-/
import Derived.Test.YthgjflfeilbbbaaGreatDoorKSmall
import Derived.Lib.LaidTab
namespace Go.Proofs.YthgjflfeilbbbaaGreatDoor
open Go Go.RowKit Go.Deep

theorem laid_tail9 {P : Program} {W : World} {x : String × DataW Unit} {rest : List (String × DataW Unit)} (h : laidMet P (x :: rest) W) : laidMet P rest W := by
  obtain ⟨ps, ⟨g, t, cs, fuel, p, q, _, _, _, _, hr, rfl⟩, hn, hc⟩ := h
  exact ⟨q, hr, (List.nodup_append.1 hn).2.1, fun b off hm => hc b off (List.mem_append_right _ hm)⟩

/-- An array of arrays of integers. -/
theorem cells_of_tab2 {H : Type} {enc : TypeId × Value → H} {P : Program} {w : World} {base : Nat} {sp : Nat → Bool} {held : Bool} {fuel : Nat} {t e f : TypeId} {n m : Nat} {k : IntKind} {cs : List Value} {zss : List (List Int)} {p : List MemPlace}
    (ht : P.underlying t = some (.array n e)) (he : P.underlying e = some (.array m f)) (hf : P.underlying f = some (.int k)) (hcf : P.cellsOf f = 1) (hce : P.cellsOf e = m)
    (h : DataW.trod enc P w base sp held fuel t cs = some (.agg (zss.map (Lib.tabData k)), p)) : ∀ i, i < n → ∀ zs, zss[i]? = some zs → (cs.drop (i * m)).take m = zs.map fun z => Value.int k z := by
  intro i hi zs hzs
  cases fuel with
  | zero => simp [DataW.trod] at h
  | succ fuel =>
    simp only [DataW.trod, ht, hce] at h
    split at h
    · obtain ⟨xs, hm, hx⟩ := Option.map_eq_some_iff.1 h
      have hxs : xs.map (·.1) = zss.map (Lib.tabData k) := by
        have := congrArg Prod.fst hx
        simpa using this
      obtain ⟨b, hb, hfb⟩ := Lib.mapM_at hm i i (by simp [hi])
      have h2 : (xs.map (·.1))[i]? = some b.1 := by simp [hb]
      rw [hxs, List.getElem?_map, hzs] at h2
      simp only [Option.map_some, Option.some.injEq] at h2
      obtain ⟨b1, b2⟩ := b
      simp only at h2
      subst h2
      exact Lib.cells_of_tab he hf hcf hce hfb
    · cases h

def tensZ : List (List Int) := (List.range 23).map fun j => [lo64 (10 ^ j), hi64 (10 ^ j)]
theorem tens_laid : (Rows.laid_abacus_quick_tens : DataW Unit) = .agg (tensZ.map (Lib.tabData .u64)) := by kernel_rfl
theorem tab_laid : (Rows.laid_math_bits_deBruijn64tab : DataW Unit) = Lib.tabData .u8 (List.map Int.ofNat Lib.deBruijn64tab) := by kernel_rfl

theorem tens_of {W : World} {rest : List (String × DataW Unit)} (h : laidMet Tryz.prog (("abacus/quick.tens", Rows.laid_abacus_quick_tens) :: rest) W) : Tens W := by
  rw [tens_laid] at h
  obtain ⟨ps, ⟨g', t', cs, fuel, p, q, hg', ht', hvar, hd, _, _⟩, _⟩ := h
  have hg : Tryz.prog.globalNamed "abacus/quick.tens" = some 0 := by kernel_rfl
  have hty : (Tryz.prog.globals[0]?).map (·.type) = some 79 := by kernel_rfl
  obtain rfl := Option.some.inj (hg.symm.trans hg')
  obtain rfl := Option.some.inj (hty.symm.trans ht')
  have hc := cells_of_tab2 (n := 23) (m := 2) (e := 52) (f := 25) Tryz.underlying79 Tryz.underlying52 Tryz.underlying25 (by kernel_rfl) (by kernel_rfl) hd
  intro j hj
  have hz : tensZ[j]? = some [lo64 (10 ^ j), hi64 (10 ^ j)] := by simp [tensZ, hj]
  have h1 := hc j hj _ hz
  have c0 : cs[j * 2]? = some (.int .u64 (lo64 (10 ^ j))) := by
    have := congrArg (·[0]?) h1
    simpa [List.getElem?_take, List.getElem?_drop] using this
  have c1 : cs[j * 2 + 1]? = some (.int .u64 (hi64 (10 ^ j))) := by
    have := congrArg (·[1]?) h1
    simpa [List.getElem?_take, List.getElem?_drop] using this
  have v0 := World.var?_cell hg hvar (j * 2)
  have v1 := World.var?_cell hg hvar (j * 2 + 1)
  refine ⟨?_, ?_⟩
  · rw [v0]; simpa using c0
  · rw [v1]; simpa using c1

theorem tab_of {W : World} {rest : List (String × DataW Unit)} (h : laidMet Tryz.prog (("math/bits.deBruijn64tab", Rows.laid_math_bits_deBruijn64tab) :: rest) W) : Tab W := by
  rw [tab_laid] at h
  have ht := Lib.tabIs_of_head (g := 1) (t := 136) (e := 5) (n := 64) (k := .u8) (zs := List.map Int.ofNat Lib.deBruijn64tab) (by kernel_rfl) (by kernel_rfl) Tryz.underlying136 Tryz.underlying5 (by kernel_rfl) (by kernel_rfl) h
  intro j hj
  have hl : (List.map Int.ofNat Lib.deBruijn64tab).length = Lib.deBruijn64tab.length := by simp
  rw [ht.cell (g := 1) (by kernel_rfl) j (by omega)]
  simp [List.getD, hj]

theorem tables9 {W : World} {b d : String × DataW Unit} (h : laidMet Tryz.prog [("math/bits.deBruijn64tab", Rows.laid_math_bits_deBruijn64tab), b, ("abacus/quick.tens", Rows.laid_abacus_quick_tens), d] W) : Tab W ∧ Tens W :=
  ⟨tab_of h, tens_of (laid_tail9 (laid_tail9 h))⟩
end Go.Proofs.YthgjflfeilbbbaaGreatDoor
