/-
  numeral's Count; layer 3's law's copied and trimmed; the walk of NumeralCounts.
-/
import Derived.Test.YtdolimhddmddnaaQLogIs
import Derived.Test.YtdolimhddmddnaaTrimW
import Derived.Test.YtdolimhddmddnaaWalk5
namespace Go.Proofs.Ytdolimhddmddnaa
open Go.RowKit Go.Deep

/-- What is told of a number of digits. -/
inductive CountIs (zs : List Int) : Int → Int → Prop
  | big : 4096 < Nm.tsize zs → CountIs zs 0 2
  | zero : Nm.tsize zs = 0 → CountIs zs 1 0
  | ok (n : Nat) : Nm.tsize zs ≤ 4096 → 0 < Nm.tsize zs → Ln.IsLog (Nm.val zs) 10 n → CountIs zs ((n : Int) + 1) 0

theorem count_says (p : Option Addr) (m cap : Nat) (zs : List Int) (w : World) (ha : Arg w p m cap zs) :
    Calls Try.prog 4 #[.slice p m cap] w fun e w' => ∃ n E, e = .returned (.tuple #[.int .i64 n, .int .i64 E]) ∧ CountIs zs n E ∧ Below w.heap.size w w' := by
  have LG := hid (log_says p m cap zs 10 w ha (by omega))
  have HL := hid ha.2.2.2.2
  clear ha
  go_enter Try.func4, Try.ntmps4
  go_wp2_with fail
  refine LG.out.mono ?_
  rintro e w' ⟨n, E, rfl, h, d⟩
  have D := hid d
  have S := hid (h.small HL.out)
  clear d LG HL
  cases h with
  | big h =>
    have F := hid h
    clear h S
    go_wp2_with fail
    go_ret2
    exact ⟨_, _, rfl, .big F.out, D.out⟩
  | zero h =>
    have F := hid h
    clear h S
    go_wp2_with fail
    go_ret2
    exact ⟨_, _, rfl, .zero F.out, D.out⟩
  | arg _ _ h => exact absurd h (by omega)
  | ok n h1 h2 h3 h4 =>
    have F : Hid (CountIs zs ((n : Int) + 1) 0) := .ok n h1 h2 h4
    have hn : (n : Int) ≤ 262143 := S.out.2
    clear h1 h2 h3 h4 S
    go_wp2_with fail
    go_ret2
    exact ⟨_, _, rfl, F.out, D.out⟩

/-- copied: the same limbs in a block of its own. -/
theorem copied3_any (p : Option Addr) (n cap : Nat) (zs : List Int) (w : World) (ha : Arg w p n cap zs) :
    Calls Try.prog 6 #[.slice p n cap] w fun e w' => e = .returned (.slice (some ⟨w.heap.size, 0, none⟩) n n) ∧ Own w' w.heap.size zs ∧ Below w.heap.size w w' ∧ w'.heap.size = w.heap.size + 1 := by
  obtain ⟨a1, a2, a3, a4, a5⟩ := ha
  have hmk := make64 n (by omega) w
  have hb0 : Below w.heap.size w (w.alloc (.cells (madeCells #[.int .u64 0] n) 26)) := (Below.refl _ _).alloc (Nat.le_refl _) _
  have ho : Own (w.alloc (.cells (madeCells #[.int .u64 0] n) 26)) w.heap.size (List.replicate n 0) := by
    rw [made_zero]; exact Own.alloc w _
  obtain ⟨w1, hcp, ho1, hb1, hz1⟩ := copy64 w.heap.size n (List.replicate n 0) p n cap zs 3 _ (by simp) a1 (by omega) ho (a4.below hb0 (Nat.le_refl _))
  have E : Hid (Own w1 w.heap.size zs) := by
    have e : List.drop n (List.replicate n (0 : Int)) = [] := by simp
    rw [e, List.append_nil] at ho1
    exact ho1
  have F : Hid (Below w.heap.size w w1) := hb0.trans hb1
  have G : Hid (w1.heap.size = w.heap.size + 1) := hz1.trans (World.size_alloc _ _)
  clear hb0 ho ho1 hb1 hz1 a1 a4 a5
  go_enter Try.func6, Try.ntmps6
  go_wp2
  go_ret
  exact ⟨rfl, E.out, F.out, G.out⟩

theorem Own.arg {w : World} {g : Nat} {zs : List Int} (h : Own w g zs) (hl : Nm.Limbs zs) (hs : zs.length ≤ 17592186044416) : Arg w (some ⟨g, 0, none⟩) zs.length zs.length zs := ⟨rfl, Nat.le_refl _, hs, h.lies, hl⟩

set_option maxHeartbeats 1000000 in
/-- trimmed: without the high zero limbs, in a block of its own. -/
theorem trimmed3_any (p : Option Addr) (n cap : Nat) (zs : List Int) (w : World) (ha : Arg w p n cap zs) :
    Calls Try.prog 5 #[.slice p n cap] w fun e w' => e = .returned (.slice (some ⟨w.heap.size, 0, none⟩) (Nm.tsize zs) (Nm.tsize zs)) ∧ Own w' w.heap.size (Nm.trim zs) ∧ Below w.heap.size w w' ∧ w'.heap.size = w.heap.size + 1 := by
  have HL := hid ha.2.2.2.2
  obtain ⟨a1, a2, a3, a4, a5⟩ := ha
  obtain ⟨T, HT⟩ : ∃ T, Hid (Nm.tsize zs = T) := ⟨_, rfl⟩
  have hTn : T ≤ n := by have := Nm.tsize_le zs; have := HT.out; omega
  have CP : Hid (Calls Try.prog 6 #[.slice p T cap] w fun e w' => e = .returned (.slice (some ⟨w.heap.size, 0, none⟩) T T) ∧ Own w' w.heap.size (Nm.trim zs) ∧ Below w.heap.size w w' ∧ w'.heap.size = w.heap.size + 1) :=
    copied3_any p T cap (Nm.trim zs) w ⟨by rw [Nm.trim_length]; exact HT.out, by omega, a3, a4.trim, a5.trim⟩
  rw [HT.out]
  rcases a4 with rfl | ⟨b, off, rfl, hcell⟩
  · have hn0 : n = 0 := by simpa using a1.symm
    subst hn0
    obtain rfl : T = 0 := by omega
    clear a1 a5
    go_enter Try.func5, Try.ntmps5
    go_wp2
    refine wp_loop_rounds 1 ?_
    rw [rounds_succ]
    go_wp2_with fail
    refine CP.out.mono ?_
    rintro e w1 ⟨rfl, h⟩
    have H := hid h
    clear h
    go_wp2_with fail
    go_ret
    exact ⟨rfl, H.out⟩
  · have H : Hid (zs.length = n) := a1
    have HC : Hid (∀ i, i < zs.length → w.cell? ⟨b, off + i, none⟩ = some (.int .u64 (zs.getD i 0))) := hcell
    clear a1 a5 hcell
    go_enter Try.func5, Try.ntmps5
    go_wp2
    go_loop [3] (fun t => ∃ k : Nat, k ≤ n ∧ t = .int .i64 k ∧ Hid (∀ j, k ≤ j → zs.getD j 0 = 0)) (fun t => (intOf t).toNat)
    case atStart => exact ⟨n, Nat.le_refl _, rfl, fun j hj => by simp [List.getD, List.getElem?_eq_none (show zs.length ≤ j by have := H.out; omega)]⟩
    case round =>
      obtain ⟨k, hk, rfl, hz⟩ := hrel
      by_cases h0 : k = 0
      · subst h0
        have e0 := Nm.tsize_unique zs 0 hz.out (.inl rfl)
        rw [HT.out] at e0
        subst e0
        go_wp2_with fail
        refine CP.out.mono ?_
        rintro e w1 ⟨rfl, h⟩
        have H := hid h
        clear h
        go_wp2_with fail
        go_ret
        exact ⟨rfl, H.out⟩
      · obtain ⟨j, rfl⟩ : ∃ j, k = j + 1 := ⟨k - 1, by omega⟩
        obtain ⟨x, hx, X⟩ : ∃ x, w.cell? ⟨b, off + j, none⟩ = some (.int .u64 x) ∧ Hid (x = zs.getD j 0) := ⟨_, HC.out j (by have := H.out; omega), rfl⟩
        by_cases hx0 : x = 0
        · subst hx0
          go_wp2_with fail
          go_round
          case rel =>
            refine ⟨j, by omega, rfl, fun i hi => ?_⟩
            by_cases e : i = j
            · subst e; exact X.out.symm
            · exact hz.out i (by omega)
          case measure => simp [intOf]
        · have e0 := Nm.tsize_unique zs (j + 1) hz.out (.inr (by rw [Nat.add_sub_cancel, ← X.out]; exact hx0))
          rw [HT.out] at e0
          subst e0
          go_wp2_with fail
          refine CP.out.mono ?_
          rintro e w1 ⟨rfl, h⟩
          have H := hid h
          clear h
          go_wp2_with fail
          go_ret
          exact ⟨rfl, H.out⟩

/-- So many digits are too many. -/
theorem digits_few {A : Int} {n : Nat} (h : 10 ^ n ≤ A) (hA : A < Nm.pw 4096) : n < 79990 := by
  rcases Nat.lt_or_ge n 79990 with c | c
  · exact c
  · exfalso
    have h1 := Pn.pow_mono (show (1 : Int) ≤ 10 by omega) c
    have h2 : (10 : Int) ^ 79990 = (10 ^ 10) ^ 7999 := by rw [← Int.pow_mul]
    have h3 := Pn.pow_base (a := 2 ^ 33) (A := 10 ^ 10) (by decide) (by decide) 7999
    have h4 : ((2 : Int) ^ 33) ^ 7999 = 2 ^ 263967 := by rw [← Int.pow_mul]
    have h5 := Nm.two_mono (show 262144 ≤ 263967 by omega)
    rw [pw_big] at hA
    rw [h2] at h1
    rw [h4] at h3
    generalize (2 : Int) ^ 262144 = x at *
    generalize (2 : Int) ^ 263967 = y at *
    generalize ((10 : Int) ^ 10) ^ 7999 = z at *
    omega

set_option maxRecDepth 100000 in
set_option maxHeartbeats 4000000 in
theorem counts_any (p : Option Addr) (n cap : Nat) (zs : List Int) (w : World) (ha : Arg w p n cap zs) :
    Calls Try.prog 3 #[.slice p n cap] w fun e w' => e = .returned (.bool true) ∧ Below w.heap.size w w' := by
  have HA := hid ha
  have b0 : Below w.heap.size w (w.alloc (.cells #[.int .u64 10] 26)) := (Below.refl _ _).alloc (Nat.le_refl _) _
  have a0 : Arg (w.alloc (.cells #[.int .u64 10] 26)) (some ⟨w.heap.size, 0, none⟩) 1 1 [10] := ⟨rfl, Nat.le_refl _, by omega, (Own.alloc w [10]).lies, limb_one (by omega)⟩
  have C0 := hid (count_says _ 1 1 [10] _ a0)
  have B0 := hid b0
  have hsz : Nm.tsize zs ≤ n := by have := Nm.tsize_le zs; have := ha.1; omega
  have hcb : cap ≤ 17592186044416 := ha.2.2.1
  obtain ⟨T, HT⟩ : ∃ T, Hid (Nm.tsize zs = T) := ⟨_, rfl⟩
  have hTc : T ≤ 17592186044416 := by have := HT.out; have := ha.2.1; omega
  clear ha b0 a0 hsz hcb
  go_enter Try.func3, Try.ntmps3
  go_wp2_with fail
  refine C0.out.mono ?_
  rintro e w1 ⟨n1, E1, rfl, K1, d1⟩
  have e1 : n1 = 2 ∧ E1 = 0 := by
    cases K1 with
    | big h => exact absurd h (by decide)
    | zero h => exact absurd h (by decide)
    | ok k h1 h2 h3 =>
      have v : Nm.val [10] = 10 := by simp [Nm.val]
      rw [v] at h3
      have : k = 1 := Ln.unique (by omega) h3 ⟨by decide, by decide⟩
      subst this
      exact ⟨rfl, rfl⟩
  obtain ⟨rfl, rfl⟩ := e1
  have D1 := hid (chain B0.out d1 (Nat.le_refl _))
  have TR := hid (trimmed3_any p n cap zs w1 (HA.out.below D1.out (Nat.le_refl _)))
  clear d1 K1 C0 B0
  go_wp2_with fail
  refine TR.out.mono ?_
  rw [HT.out]
  rintro e w2 ⟨rfl, o2, d2, s2⟩
  have O2 := hid o2
  have D2 := hid (chain D1.out d2 (Nat.le_refl _))
  have G2 : Hid (w1.heap.size < w2.heap.size) := by show _ < _; omega
  have CP := hid (copied3_any p n cap zs w2 (HA.out.below D2.out (Nat.le_refl _)))
  clear o2 d2 s2 TR D1
  go_wp2_with fail
  refine CP.out.mono ?_
  rintro e w3 ⟨rfl, o3, d3, s3⟩
  have D3 := hid (chain D2.out d3 (Nat.le_refl _))
  have O3 : Hid (Own w3 w1.heap.size (Nm.trim zs)) := O2.out.below d3 (by have := G2.out; omega)
  have CT := hid (count_says (some ⟨w2.heap.size, 0, none⟩) n n zs w3 ⟨HA.out.1, Nat.le_refl _, by have := HA.out.2.1; have := HA.out.2.2.1; omega, o3.lies, HA.out.2.2.2.2⟩)
  clear o3 d3 s3 CP O2 D2
  go_wp2_with fail
  refine CT.out.mono ?_
  rintro e w4 ⟨n4, E4, rfl, K4, d4⟩
  have D4 := hid (chain D3.out d4 (Nat.le_refl _))
  have O4 : Hid (Own w4 w1.heap.size (Nm.trim zs)) := O3.out.below d4 O3.out.lt
  clear d4 CT D3 O3
  cases K4 with
  | big h =>
    have hT : (4096 : Int) < (T : Int) := by have := HT.out; omega
    clear h
    go_wp2_with fail
    go_ret
    exact ⟨rfl, D4.out⟩
  | zero h =>
    obtain rfl : T = 0 := by have := HT.out; omega
    clear h
    go_wp2_with fail
    go_ret
    exact ⟨rfl, D4.out⟩
  | ok k h1 h2 h3 =>
    have hT : (T : Int) ≤ 4096 := by have := HT.out; omega
    have hT0 : (0 : Int) < (T : Int) := by have := HT.out; omega
    have hTz : ((T : Int) == 0) = false := by rw [beq_eq_false_iff_ne]; omega
    have hAs : ShutL (Nm.val zs < Nm.pw 4096) := ⟨(Nm.tsize_le_iff HA.out.2.2.2.2 4096).1 h1⟩
    have kf := digits_few h3.1 hAs.out
    obtain ⟨K, HK⟩ : ∃ K : Int, Hid ((k : Int) + 1 = K) := ⟨_, rfl⟩
    have hk1 : K ≤ 80000 := by have := HK.out; omega
    have hk0 : 1 ≤ K := by have := HK.out; omega
    rw [HK.out]
    have LG : ShutL (Ln.IsLog (Nm.val zs) 10 k) := ⟨h3⟩
    have AT : Hid (Arg w4 (some ⟨w1.heap.size, 0, none⟩) T T (Nm.trim zs)) := ⟨by rw [Nm.trim_length]; exact HT.out, Nat.le_refl _, hTc, O4.out.lies, HA.out.2.2.2.2.trim⟩
    have P1 := hid (pow10_gives (K - 1) k w4 (by have := HK.out; omega) (by omega))
    clear h1 h2 h3 kf O4
    go_wp2_with fail
    refine P1.out.mono ?_
    rintro e w5 ⟨G5, d5⟩
    rcases G5 with ⟨-, r5, os5, rfl, A5⟩ | ⟨h5, -⟩
    case inr =>
      have := LG.out.1
      have := hAs.out
      exact absurd h5 (by omega)
    have D5 := hid (chain D4.out d5 (Nat.le_refl _))
    have AT5 := hid (AT.out.below d5 (Nat.le_refl _))
    have CM := hid (cmp_any r5 (some ⟨w1.heap.size, 0, none⟩) _ _ T T os5 (Nm.trim zs) w5 (A5.argT (Int.lt_of_le_of_lt LG.out.1 hAs.out)) AT5.out)
    have hc : Hid (cmpI (Nm.val os5) (Nm.val (Nm.trim zs)) ≤ 0) := by
      show _ ≤ _
      rw [A5.2.2.2.1, Nm.val_trim]
      rcases (show (10 : Int) ^ k = Nm.val zs ∨ (10 : Int) ^ k < Nm.val zs by have := LG.out.1; omega) with h | h
      · rw [cmpI_eq h]; omega
      · rw [cmpI_lt h]; omega
    obtain ⟨c, HC⟩ : ∃ c, Hid (cmpI (Nm.val os5) (Nm.val (Nm.trim zs)) = c) := ⟨_, rfl⟩
    rw [HC.out] at CM hc
    have hc0 : c ≤ 0 := hc.out
    clear d5 A5 AT P1 D4 hc
    go_wp2_with fail
    refine CM.out.mono ?_
    rintro e w6 ⟨rfl, d6⟩
    have D6 := hid (chain D5.out d6 (Nat.le_refl _))
    have AT6 := hid (AT5.out.below d6 (Nat.le_refl _))
    clear d6 CM D5 AT5 hT hT0 hTz hTc hk0 HC
    go_wp2_with fail
    refine (pow10_gives K (k + 1) w6 (by have := HK.out; omega) (by omega)).mono ?_
    rintro e w7 ⟨G7, d7⟩
    have D7 := hid (chain D6.out d7 (Nat.le_refl _))
    have AT7 := hid (AT6.out.below d7 (Nat.le_refl _))
    clear D6 AT6 d7
    rcases G7 with ⟨h7, r7, os7, rfl, A7⟩ | ⟨h7, rfl⟩
    · have CM := hid (cmp_any (some ⟨w1.heap.size, 0, none⟩) r7 T T _ _ (Nm.trim zs) os7 w7 AT7.out (A7.argT h7))
      have hc : Hid (cmpI (Nm.val (Nm.trim zs)) (Nm.val os7) = -1) := by
        show _ = _
        rw [A7.2.2.2.1, Nm.val_trim]
        exact cmpI_lt LG.out.2
      rw [hc.out] at CM
      clear h7 A7 hc
      go_wp2_with fail
      refine CM.out.mono ?_
      rintro e w8 ⟨rfl, d8⟩
      have D8 := hid (chain D7.out d8 (Nat.le_refl _))
      clear d8
      go_wp2_with fail
      go_ret
      exact ⟨rfl, D8.out⟩
    · clear h7
      go_wp2_with fail
      go_ret
      exact ⟨rfl, D7.out⟩
end Go.Proofs.Ytdolimhddmddnaa
