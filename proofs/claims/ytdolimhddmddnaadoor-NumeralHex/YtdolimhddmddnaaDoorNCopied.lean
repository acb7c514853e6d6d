/-
  layer 3's law: copied and trimmed.
-/
import Derived.Test.YtdolimhddmddnaaDoorWalk1
namespace Go.Proofs.YtdolimhddmddnaaDoor
open Go.RowKit Go.Deep

/-- copied: the same limbs in a block of its own. -/
theorem copied3_any (p : Option Addr) (n cap : Nat) (zs : List Int) (w : World) (ha : Arg w p n cap zs) :
    Calls Tryd.prog 9 #[.slice p n cap] w fun e w' => e = .returned (.slice (some ⟨w.heap.size, 0, none⟩) n n) ∧ Own w' w.heap.size zs ∧ Below w.heap.size w w' ∧ w'.heap.size = w.heap.size + 1 := by
  obtain ⟨a1, a2, a3, a4, a5⟩ := ha
  have hmk := make64 n (by omega) w
  have hb0 : Below w.heap.size w (w.alloc (.cells (madeCells #[.int .u64 0] n) 36)) := (Below.refl _ _).alloc (Nat.le_refl _) _
  have ho : Own (w.alloc (.cells (madeCells #[.int .u64 0] n) 36)) w.heap.size (List.replicate n 0) := by
    rw [made_zero]; exact Own.alloc w _
  obtain ⟨w1, hcp, ho1, hb1, hz1⟩ := copy64 w.heap.size n (List.replicate n 0) p n cap zs 3 _ (by simp) a1 (by omega) ho (a4.below hb0 (Nat.le_refl _))
  have E : Hid (Own w1 w.heap.size zs) := by
    have e : List.drop n (List.replicate n (0 : Int)) = [] := by simp
    rw [e, List.append_nil] at ho1
    exact ho1
  have F : Hid (Below w.heap.size w w1) := hb0.trans hb1
  have G : Hid (w1.heap.size = w.heap.size + 1) := hz1.trans (World.size_alloc _ _)
  clear hb0 ho ho1 hb1 hz1 a1 a4 a5
  go_enter Tryd.func9, Tryd.ntmps9
  go_wp2
  go_ret
  exact ⟨rfl, E.out, F.out, G.out⟩

theorem Own.arg {w : World} {g : Nat} {zs : List Int} (h : Own w g zs) (hl : Nm.Limbs zs) (hs : zs.length ≤ 17592186044416) : Arg w (some ⟨g, 0, none⟩) zs.length zs.length zs := ⟨rfl, Nat.le_refl _, hs, h.lies, hl⟩

set_option maxHeartbeats 1000000 in
/-- trimmed: without the high zero limbs, in a block of its own. -/
theorem trimmed3_any (p : Option Addr) (n cap : Nat) (zs : List Int) (w : World) (ha : Arg w p n cap zs) :
    Calls Tryd.prog 10 #[.slice p n cap] w fun e w' => e = .returned (.slice (some ⟨w.heap.size, 0, none⟩) (Nm.tsize zs) (Nm.tsize zs)) ∧ Own w' w.heap.size (Nm.trim zs) ∧ Below w.heap.size w w' ∧ w'.heap.size = w.heap.size + 1 := by
  have HL := hid ha.2.2.2.2
  obtain ⟨a1, a2, a3, a4, a5⟩ := ha
  obtain ⟨T, HT⟩ : ∃ T, Hid (Nm.tsize zs = T) := ⟨_, rfl⟩
  have hTn : T ≤ n := by have := Nm.tsize_le zs; have := HT.out; omega
  have CP : Hid (Calls Tryd.prog 9 #[.slice p T cap] w fun e w' => e = .returned (.slice (some ⟨w.heap.size, 0, none⟩) T T) ∧ Own w' w.heap.size (Nm.trim zs) ∧ Below w.heap.size w w' ∧ w'.heap.size = w.heap.size + 1) :=
    copied3_any p T cap (Nm.trim zs) w ⟨by rw [Nm.trim_length]; exact HT.out, by omega, a3, a4.trim, a5.trim⟩
  rw [HT.out]
  rcases a4 with rfl | ⟨b, off, rfl, hcell⟩
  · have hn0 : n = 0 := by simpa using a1.symm
    subst hn0
    obtain rfl : T = 0 := by omega
    clear a1 a5
    go_enter Tryd.func10, Tryd.ntmps10
    go_wp2
    refine wp_loop_rounds 1 ?_
    rw [rounds_succ]
    go_wp2_with fail
    refine CP.out.mono ?_
    rintro e w1 ⟨rfl, h⟩
    have H := hid h
    clear h
    go_wp2_with fail
    go_ret
    exact ⟨rfl, H.out⟩
  · have H : Hid (zs.length = n) := a1
    have HC : Hid (∀ i, i < zs.length → w.cell? ⟨b, off + i, none⟩ = some (.int .u64 (zs.getD i 0))) := hcell
    clear a1 a5 hcell
    go_enter Tryd.func10, Tryd.ntmps10
    go_wp2
    go_loop [3] (fun t => ∃ k : Nat, k ≤ n ∧ t = .int .i64 k ∧ Hid (∀ j, k ≤ j → zs.getD j 0 = 0)) (fun t => (intOf t).toNat)
    case atStart => exact ⟨n, Nat.le_refl _, rfl, fun j hj => by simp [List.getD, List.getElem?_eq_none (show zs.length ≤ j by have := H.out; omega)]⟩
    case round =>
      obtain ⟨k, hk, rfl, hz⟩ := hrel
      by_cases h0 : k = 0
      · subst h0
        have e0 := Nm.tsize_unique zs 0 hz.out (.inl rfl)
        rw [HT.out] at e0
        subst e0
        go_wp2_with fail
        refine CP.out.mono ?_
        rintro e w1 ⟨rfl, h⟩
        have H := hid h
        clear h
        go_wp2_with fail
        go_ret
        exact ⟨rfl, H.out⟩
      · obtain ⟨j, rfl⟩ : ∃ j, k = j + 1 := ⟨k - 1, by omega⟩
        obtain ⟨x, hx, X⟩ : ∃ x, w.cell? ⟨b, off + j, none⟩ = some (.int .u64 x) ∧ Hid (x = zs.getD j 0) := ⟨_, HC.out j (by have := H.out; omega), rfl⟩
        by_cases hx0 : x = 0
        · subst hx0
          go_wp2_with fail
          go_round
          case rel =>
            refine ⟨j, by omega, rfl, fun i hi => ?_⟩
            by_cases e : i = j
            · subst e; exact X.out.symm
            · exact hz.out i (by omega)
          case measure => simp [intOf]
        · have e0 := Nm.tsize_unique zs (j + 1) hz.out (.inr (by rw [Nat.add_sub_cancel, ← X.out]; exact hx0))
          rw [HT.out] at e0
          subst e0
          go_wp2_with fail
          refine CP.out.mono ?_
          rintro e w1 ⟨rfl, h⟩
          have H := hid h
          clear h
          go_wp2_with fail
          go_ret
          exact ⟨rfl, H.out⟩
end Go.Proofs.YtdolimhddmddnaaDoor
