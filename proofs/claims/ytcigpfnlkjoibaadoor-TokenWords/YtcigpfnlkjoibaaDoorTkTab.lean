/-
  The table of the functions' names, out of what a row lays.
-/
import Derived.Test.YtcigpfnlkjoibaaDoorTkW2
import Derived.Lib.LaidTab
namespace Go.Proofs.YtcigpfnlkjoibaaDoor
open Go Go.RowKit Go.Deep Go.Shelf

/-- An array of texts that reads as a list of them holds them. -/
theorem cells_of_texts {H : Type} {enc : TypeId × Value → H} {P : Program} {w : World} {base : Nat} {sp : Nat → Bool} {held : Bool} {fuel : Nat} {t e : TypeId} {n : Nat} {cs : List Value} {xs : List ByteArray} {p : List MemPlace}
    (ht : P.underlying t = some (.array n e)) (he : P.underlying e = some .string) (hce : P.cellsOf e = 1)
    (h : DataW.trod enc P w base sp held fuel t cs = some (.agg (xs.map fun x => .lit (.string x.data.toList)), p)) : ∀ i, i < n → cs[i]? = some (.string (xs.getD i ByteArray.empty)) := by
  cases fuel with
  | zero => simp [DataW.trod] at h
  | succ fuel =>
    simp only [DataW.trod, ht, hce, Nat.mul_one] at h
    split at h
    · obtain ⟨ys, hm, hx⟩ := Option.map_eq_some_iff.1 h
      have hxs : ys.map (·.1) = xs.map fun x => (DataW.lit (.string x.data.toList) : DataW H) := by
        have := congrArg Prod.fst hx
        simpa using this
      intro i hi
      obtain ⟨b, hb, hf⟩ := Lib.mapM_at hm i i (by simp [hi])
      obtain ⟨s, hc, rfl, _⟩ := DataW.trod_string he hf
      have h1 : cs[i]? = some (.string s) := by
        have := congrArg (·[0]?) hc
        simpa [List.getElem?_take, List.getElem?_drop] using this
      have h2 : (ys.map (·.1))[i]? = some (DataW.lit (.string s.data.toList) : DataW H) := by simp [hb]
      rw [hxs] at h2
      simp only [List.getElem?_map, Option.map_eq_some_iff, DataW.lit.injEq, Lit.string.injEq] at h2
      obtain ⟨x, hx2, e2⟩ := h2
      have e3 : x = s := by rw [← Ch.tx_self x, e2, Ch.tx_self]
      rw [h1, List.getD, hx2, e3]
      rfl
    · cases h
theorem functions_laid : (Rows.laid_abacus_token_functions : DataW Unit) = .agg (Tk.funcs.map fun x => .lit (.string x.data.toList)) := by kernel_rfl
theorem ft_of {W : World} {rest : List (String × DataW Unit)} (h : laidMet Tryd.prog (("abacus/token.functions", Rows.laid_abacus_token_functions) :: rest) W) : FT W := by
  rw [functions_laid] at h
  obtain ⟨ps, ⟨g', t', cs, fuel, p, q, hg', ht', hvar, hd, _, _⟩, _⟩ := h
  have hg : Tryd.prog.globalNamed "abacus/token.functions" = some 0 := by kernel_rfl
  have hty : (Tryd.prog.globals[0]?).map (·.type) = some 24 := by kernel_rfl
  obtain rfl := Option.some.inj (hg.symm.trans hg')
  obtain rfl := Option.some.inj (hty.symm.trans ht')
  have hc := cells_of_texts (n := 13) (e := 9) Tryd.underlying24 Tryd.underlying9 (by kernel_rfl) hd
  intro i hi
  have v0 := World.var?_cell hg hvar i
  rw [v0]
  simpa using hc i hi
end Go.Proofs.YtcigpfnlkjoibaaDoor
