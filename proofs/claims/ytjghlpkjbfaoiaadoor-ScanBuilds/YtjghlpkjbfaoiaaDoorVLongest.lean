/-
  law08: ScanLongest.
-/
import Derived.Test.YtjghlpkjbfaoiaaDoorVNumb
namespace Go.Proofs.YtjghlpkjbfaoiaaDoor
open Go Go.RowKit Go.Deep

theorem lblank_any (x : Int) (w : World) (h0 : 0 ≤ x) (h1 : x < 256) : Calls Tryd.prog 16 #[.int .u8 x] w fun e w' => e = .returned (.bool (Sc.bl x)) ∧ w' = w := by
  go_enter Tryd.func16, Tryd.ntmps16
  go_wp2
  all_goals (go_ret; refine ⟨vret_bool ?_, rfl⟩)
  all_goals (rw [Bool.eq_iff_iff]; simp [Sc.bl]; omega)

/-- A Dec in a box of our own. -/
def LSt (w wx : World) (b : Nat) (v0 v1 v2 : Value) : Prop := Below w.heap.size w wx ∧ w.heap.size ≤ b ∧ Row3 wx b v0 v1 v2
theorem LSt.new {w w1 : World} (hB : Below w.heap.size w w1) (v0 v1 v2 : Value) : LSt w (w1.alloc (.cells #[v0, v1, v2] 29)) w1.heap.size v0 v1 v2 := ⟨below_on hB (alloc_b _ _), hB.size, heap_alloc_new _ _⟩
theorem LSt.on {w wx w' : World} {b : Nat} {v0 v1 v2 : Value} (h : LSt w wx b v0 v1 v2) (k : Below wx.heap.size wx w') : LSt w w' b v0 v1 v2 := ⟨below_on h.1 k, h.2.1, h.2.2.below k h.2.2.lt⟩
theorem LSt.put {w wx : World} {b : Nat} {v0 v1 v2 : Value} (h : LSt w wx b v0 v1 v2) (x0 x1 x2 : Value) : LSt w (((wx.setCell ⟨b, 0, none⟩ x0).setCell ⟨b, 1, none⟩ x1).setCell ⟨b, 2, none⟩ x2) b x0 x1 x2 := ⟨set3_below h.1 h.2.1, h.2.1, h.2.2.put _ _ _⟩

theorem num_lit0 : Sc.num [32, 50, 46, 53, 101, 49, 101] = (⟨false, [50, 53], 0⟩, 6) := by decide +kernel

theorem DecIs.two {v v' : Value} {d : Sc.D} (h : DecIs v d) (k : DecIs v' d) : v = v' := by
  obtain ⟨s, rfl, hs⟩ := h
  obtain ⟨t, rfl, ht⟩ := k
  rw [hs.inj ht]

def vInt : Value → Int | .int _ q => q | _ => 0

set_option maxRecDepth 100000 in
set_option maxHeartbeats 4000000 in
theorem longest_any (s : ByteArray) (xs : List Int) (w : World) (hs : Str s xs) (hn : xs.length ≤ 281474976710655) :
    Calls Tryd.prog 5 #[.string s] w fun e w' => e = .returned (.bool true) ∧ Below w.heap.size w w' := by
  have N0 : Hid (∀ wx, Calls Tryd.prog 14 #[.string ⟨#[32, 50, 46, 53, 101, 49, 101]⟩] wx fun e w' => e = .returned (.tuple #[.agg #[.bool false, .string ⟨#[50, 53]⟩, .int .i64 0], .int .i64 6]) ∧ Below wx.heap.size wx w') := fun wx => by
    refine (number_any ⟨#[32, 50, 46, 53, 101, 49, 101]⟩ [32, 50, 46, 53, 101, 49, 101] wx rfl (by decide) (fun _ => by decide +kernel)).mono ?_
    rintro e w' ⟨v, rfl, hv, hB⟩
    rw [num_lit0] at hv ⊢
    rw [hv.two ⟨⟨#[50, 53]⟩, rfl, rfl⟩]
    exact ⟨rfl, hB⟩
  have NM := hid (fun wx => number_any s xs wx hs (by omega) (fun _ => by have := Sc.lit_len xs (Sc.run Sc.bl xs 0); omega))
  have WH : Hid (∀ (m : Nat) wx, Calls Tryd.prog 15 #[.string (s.extract 0 m)] wx fun e w' => WhlTold (xs.take m) wx e w') := fun m wx => by
    have h := hs.extract 0 m
    rw [List.drop_zero, Nat.sub_zero] at h
    have hl : (xs.take m).length ≤ xs.length := by simp; omega
    exact whole_any _ _ wx h (by omega) (fun _ => by have := Sc.lit_len (xs.take m) (Sc.run Sc.bl (xs.take m) 0); omega)
  have BK := hid (fun (j : Nat) (wx : World) => lblank_any (Sc.pk xs j) wx (hs.atb j).1 (hs.atb j).2)
  have HS := hid hs
  have hsz := hs.size
  have HN := hid hn
  have NL := hid (Sc.num_le xs)
  have nl : ((Sc.num xs).2 : Int) ≤ (xs.length : Int) := by have := NL.out; omega
  clear hs hn
  by_cases hlong : 1500 < xs.length
  · have hl : (1500 : Int) < (xs.length : Int) := by omega
    go_enter Tryd.func5, Tryd.ntmps5
    go_wp2_with fail
    refine (N0.out _).mono ?_
    rintro e w1 ⟨rfl, hB⟩
    have D := hid (below_on hB (alloc_b _ (.cells #[.bool false, .string ⟨#[50, 53]⟩, .int .i64 0] 29)))
    clear hB
    go_wp2_with fail
    go_ret
    exact ⟨rfl, D.out⟩
  · have hl : ¬ (1500 : Int) < (xs.length : Int) := by omega
    have hl2 : (xs.length : Int) ≤ 1500 := by omega
    clear hlong
    go_enter Tryd.func5, Tryd.ntmps5
    go_wp2_with fail
    refine (N0.out _).mono ?_
    rintro e w1 ⟨rfl, hB⟩
    have D := hid (LSt.new hB (.bool false) (.string ⟨#[50, 53]⟩) (.int .i64 0))
    clear hB
    go_wp2_with fail
    generalize w1.heap.size = b at *
    generalize w1.alloc (.cells #[.bool false, .string ⟨#[50, 53]⟩, .int .i64 0] 29) = wA at *
    refine (NM.out _).mono ?_
    rintro e w2 ⟨v, rfl, ⟨t, hv, ht⟩, hB⟩
    unfold decV at hv
    subst hv
    have D2 := hid ((D.out.on hB).put (.bool (Sc.num xs).1.neg) (.string t) (.int .i64 (Sc.num xs).1.e))
    obtain ⟨⟨d0, d1, d2⟩, g0, g1, g2⟩ := (D.out.on hB).2.2.cells
    have HT := hid ht
    clear hB ht
    by_cases hz : (Sc.num xs).2 = 0
    · obtain ⟨z1, z2⟩ := Sc.num_zero hz
      rw [z1] at HT D2 nl ⊢
      have ht0 : t = ⟨#[]⟩ := HT.out.inj rfl
      subst ht0
      have Z2 := hid z2
      clear z1 z2 hz HT
      go_wp2_with fail
      generalize ((w2.setCell ⟨b, 0, none⟩ (.bool false)).setCell ⟨b, 1, none⟩ (.string ⟨#[]⟩)).setCell ⟨b, 2, none⟩ (.int .i64 0) = wB at *
      clear d0 d1 d2 g0 g1 g2 D
      go_loopw [7] (fun m wr => ∃ j : Nat, m = .int .i64 j ∧ Hid (1 ≤ j ∧ j ≤ xs.length + 1 ∧ Below w.heap.size w wr)) (fun m _ => xs.length + 1 - (vInt m).toNat)
      case atStart => exact ⟨1, rfl, Nat.le_refl _, by omega, D2.out.1⟩
      case round =>
        obtain ⟨j, rfl, I⟩ := hrel
        by_cases hj : j ≤ xs.length
        · have hji : (j : Int) ≤ (xs.length : Int) := by omega
          have W1 := hid (fun wx => WH.out j wx)
          have ZJ := hid (Z2.out j)
          go_wp2_with fail
          refine (W1.out _).mono ?_
          rintro e w3 ⟨v, rfl, ⟨t, hv, ht⟩, hB⟩
          rw [ZJ.out] at hv ht ⊢
          unfold decV at hv
          subst hv
          have D3 := hid (below_on (below_on I.out.2.2 hB) (alloc_b _ (.cells #[.bool false, .string t, .int .i64 0] 29)))
          clear ht hB
          go_wp2_with fail
          go_roundw
          case rel => exact ⟨j + 1, by go_num, by have := I.out.1; omega, by omega, D3.out⟩
          case measure => simp [vInt]; omega
        · have hji : ¬ (j : Int) ≤ (xs.length : Int) := by omega
          go_wp2_with fail
          go_ret
          exact ⟨rfl, I.out.2.2⟩
    · have hz2 : 0 < (Sc.num xs).2 := by omega
      have WA := hid (Sc.whl_at hz2)
      have WT : Hid (∀ m, (Sc.num xs).2 ≤ m → m ≤ xs.length → (Sc.whl (xs.take m)).2 = true → (Sc.whl (xs.take m)).1 = (Sc.num xs).1) := fun m h1 h2 => (Sc.whl_take hz2 h1 h2).2
      have WM : Hid (∀ m, (Sc.num xs).2 < m → m ≤ xs.length → Sc.bl (Sc.pk xs (m - 1)) = false → (Sc.whl (xs.take m)).2 = false) := fun m h1 h2 => Sc.whl_more hz2 h1 h2
      have LB := hid (Sc.num_last hz2)
      have FF : Hid (∀ v, DecIs v (Sc.num xs).1 → v = .agg #[.bool (Sc.num xs).1.neg, .string t, .int .i64 (Sc.num xs).1.e]) := fun v h => h.two ⟨t, rfl, HT.out⟩
      generalize (Sc.num xs).1 = D at *
      generalize (Sc.num xs).2 = n at *
      have hzi : (0 : Int) < (n : Int) := by omega
      have hne : ((n : Int) == 0) = false := by rw [beq_eq_false_iff_ne]; omega
      have W1 : Hid (∀ wx, Calls Tryd.prog 15 #[.string (s.extract 0 n)] wx fun e w' => e = .returned (.tuple #[.agg #[.bool D.neg, .string t, .int .i64 D.e], .bool true]) ∧ Below wx.heap.size wx w') := fun wx => by
        refine (WH.out n wx).mono ?_
        rintro e w' ⟨v, rfl, hv, hB⟩
        rw [WA.out] at hv ⊢
        rw [FF.out v hv]
        exact ⟨rfl, hB⟩
      have W2 : Hid (∀ (m : Nat) wx, n < m → m ≤ xs.length → Calls Tryd.prog 15 #[.string (s.extract 0 m)] wx fun e w' => ((Sc.bl (Sc.pk xs (m - 1)) = true ∧ e = .returned (.tuple #[.agg #[.bool D.neg, .string t, .int .i64 D.e], .bool true])) ∨ (∃ x0 x1 x2, e = .returned (.tuple #[.agg #[.bool x0, .string x1, .int .i64 x2], .bool false]))) ∧ Below wx.heap.size wx w') := fun m wx h1 h2 => by
        refine (WH.out m wx).mono ?_
        rintro e w' ⟨v, rfl, hv, hB⟩
        refine ⟨?_, hB⟩
        cases c : (Sc.whl (xs.take m)).2 with
        | true =>
          left
          rw [WT.out m (by omega) h2 c] at hv
          rw [FF.out v hv]
          refine ⟨?_, rfl⟩
          cases c2 : Sc.bl (Sc.pk xs (m - 1)) with
          | true => rfl
          | false => rw [WM.out m h1 h2 c2] at c; exact absurd c (by simp)
        | false =>
          right
          obtain ⟨t', hv', -⟩ := hv
          exact ⟨_, _, _, by rw [hv']; rfl⟩
      have B1 : Hid (∀ wx, Calls Tryd.prog 16 #[.int .u8 (Sc.pk xs (n - 1))] wx fun e w' => e = .returned (.bool false) ∧ w' = wx) := fun wx => by
        refine (BK.out (n - 1) wx).mono ?_
        rintro e w' ⟨rfl, rfl⟩
        rw [LB.out]
        exact ⟨rfl, rfl⟩
      obtain ⟨n', hn'⟩ : ∃ n' : Nat, n = n' + 1 := ⟨n - 1, by omega⟩
      have hx := HS.out.pk n'
      have hnn : (n : Int) - 1 = (n' : Int) := by omega
      have hnl : (n' : Int) < (xs.length : Int) := by omega
      rw [show n - 1 = n' by omega] at B1
      clear WA WT WM LB WH N0 NM FF HT hz
      replace hn' := hid hn'
      replace hz2 := hid hz2
      go_wp2_with fail
      refine (W1.out _).mono ?_
      rintro e w3 ⟨rfl, hB⟩
      have D3 := hid (D2.out.on hB)
      have D4 := hid (D3.out.on (alloc_b w3 (.cells #[.bool D.neg, .string t, .int .i64 D.e] 29)))
      clear hB d0 d1 d2 g0 g1 g2 D2 D3
      obtain ⟨⟨d0, d1, d2⟩, g0, g1, g2⟩ := D4.out.2.2.cells
      go_wp2_with fail
      refine (B1.out _).mono ?_
      rintro e w4 ⟨rfl, rfl⟩
      go_wp2_with fail
      generalize w3.alloc (.cells #[.bool D.neg, .string t, .int .i64 D.e] 29) = wB at *
      clear d0 d1 d2 g0 g1 g2 W1 B1 hx hnn hnl
      go_loopw [7] (fun m wr => ∃ j : Nat, m = .int .i64 j ∧ Hid (n + 1 ≤ j ∧ j ≤ xs.length + 1 ∧ LSt w wr b (.bool D.neg) (.string t) (.int .i64 D.e))) (fun m _ => xs.length + 1 - (vInt m).toNat)
      case atStart => exact ⟨n + 1, by go_num, Nat.le_refl _, by have := NL.out; omega, D4.out⟩
      case round =>
        obtain ⟨j, rfl, I⟩ := hrel
        by_cases hj : j ≤ xs.length
        · have hji : (j : Int) ≤ (xs.length : Int) := by omega
          have W3 := hid (fun wx => W2.out j wx (by have := I.out.1; omega) hj)
          obtain ⟨j', hj'⟩ : ∃ j' : Nat, j = j' + 1 := ⟨j - 1, by have := I.out.1; omega⟩
          have hx := HS.out.pk j'
          have hjj : (j : Int) - 1 = (j' : Int) := by omega
          have hjl : (j' : Int) < (xs.length : Int) := by omega
          have BJ := hid (fun wx => BK.out j' wx)
          rw [show j - 1 = j' by omega] at W3
          replace hj' := hid hj'
          go_wp2_with fail
          refine (W3.out _).mono ?_
          rintro e w5 ⟨⟨hbl, rfl⟩ | ⟨x0, x1, x2, rfl⟩, hB⟩
          · have E := hid (I.out.2.2.on hB)
            have E2 := hid (E.out.on (alloc_b w5 (.cells #[.bool D.neg, .string t, .int .i64 D.e] 29)))
            clear hB
            obtain ⟨⟨d0, d1, d2⟩, g0, g1, g2⟩ := E2.out.2.2.cells
            rw [hbl] at BJ
            clear hbl
            go_wp2_with fail
            refine (BJ.out _).mono ?_
            rintro e w6 ⟨rfl, rfl⟩
            go_wp2_with fail
            go_roundw
            case rel => exact ⟨j + 1, by go_num, by have := I.out.1; omega, by omega, E2.out⟩
            case measure => simp [vInt]; omega
          · have E := hid (I.out.2.2.on hB)
            have E2 := hid (E.out.on (alloc_b w5 (.cells #[.bool x0, .string x1, .int .i64 x2] 29)))
            clear hB
            cases hbl : Sc.bl (Sc.pk xs j') with
            | true =>
              rw [hbl] at BJ
              clear hbl
              go_wp2_with fail
              refine (BJ.out _).mono ?_
              rintro e w6 ⟨rfl, rfl⟩
              go_wp2_with fail
              go_roundw
              case rel => exact ⟨j + 1, by go_num, by have := I.out.1; omega, by omega, E2.out⟩
              case measure => simp [vInt]; omega
            | false =>
              rw [hbl] at BJ
              clear hbl
              go_wp2_with fail
              refine (BJ.out _).mono ?_
              rintro e w6 ⟨rfl, rfl⟩
              go_wp2_with fail
              go_roundw
              case rel => exact ⟨j + 1, by go_num, by have := I.out.1; omega, by omega, E2.out⟩
              case measure => simp [vInt]; omega
        · have hji : ¬ (j : Int) ≤ (xs.length : Int) := by omega
          go_wp2_with fail
          go_ret
          exact ⟨rfl, I.out.2.2.1⟩
end Go.Proofs.YtjghlpkjbfaoiaaDoor
