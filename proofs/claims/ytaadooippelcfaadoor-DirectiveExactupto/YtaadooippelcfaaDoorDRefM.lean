/-
  abacusref13's marked (mkdrefm.py).
-/
import Derived.Test.YtaadooippelcfaaDoorDRef13
import Derived.Test.YtaadooippelcfaaDoorDRefMN
import Derived.Deep.DeepCutAuto
namespace Go.Proofs.YtaadooippelcfaaDoor
open Go Go.RowKit Go.Deep

set_option maxRecDepth 100000 in
set_option maxHeartbeats 4000000 in
theorem rmarked_any (s : ByteArray) (xs : List Int) (i : Nat) (w : World) (hs : Str s xs) (hi : i < xs.length) (hl : xs.length ≤ 1099511627776) :
    Calls Tryd.prog 23 #[.string s, .int .i64 (i : Int)] w fun e w' => e = .returned (.agg #[.int .i64 (Dr.mF xs i : Nat), .int .i64 (Dr.mW xs i : Nat), .int .i64 (Dr.mP xs i : Nat)]) ∧ Below w.heap.size w w' := by
  have sx := hs.size
  have HS : Hid (∀ k, ∀ h : k < s.size, ((s[k]'h).toNat : Int) = Dr.nx xs k) := fun k h => hs.at k h
  have AT := hid (fun c W => rat_any ⟨#[45, 43, 32, 35, 48]⟩ Dr.marks c W rfl (by decide))
  have DG := hid rdigit_any
  have A0 := hid hi
  have HF : Dr.mF xs i ≤ s.size := by rw [sx]; exact Dr.mF_le hi
  have HW : Dr.mW xs i ≤ s.size := by rw [sx]; exact Dr.mW_le hi
  have KF : Hid (∀ {j}, i + 1 ≤ j → (∀ t, i + 1 ≤ t → t < j → Dr.isF (Dr.nx xs t) = true) → j ≤ xs.length → (j = xs.length ∨ Dr.isF (Dr.nx xs j) = false) → Dr.mF xs i = j) := fun a b c d => Dr.ct_at a b c d
  have KD : Hid (∀ k j, k ≤ j → (∀ t, k ≤ t → t < j → Dr.isD (Dr.nx xs t) = true) → j ≤ xs.length → (j = xs.length ∨ Dr.isD (Dr.nx xs j) = false) → Dr.nx xs k ≠ 42 → Dr.wl xs k = j) := fun k j a b c d e => by rw [Dr.wl, if_neg e]; exact Dr.ct_at a b c d
  have KW : Hid (Dr.mW xs i = Dr.wl xs (Dr.mF xs i)) := rfl
  have KP : Hid ((Dr.nx xs (Dr.mW xs i) = 46 → Dr.mP xs i = Dr.wl xs (Dr.mW xs i + 1) ∧ Dr.mW xs i < xs.length) ∧ (Dr.nx xs (Dr.mW xs i) ≠ 46 → Dr.mP xs i = Dr.mW xs i)) := ⟨fun h => ⟨if_pos h, Dr.nx_lt h (by decide)⟩, fun h => if_neg h⟩
  have KS : Hid (∀ k, Dr.nx xs k = 42 → Dr.wl xs k = k + 1 ∧ k < xs.length) := fun k h => ⟨if_pos h, Dr.nx_lt h (by decide)⟩
  have hsz : (s.size : Int) ≤ 1099511627776 := by omega
  have hii : (i : Int) < (s.size : Int) := by omega
  have EB : Hid (∀ a b c d e f : Value, Below w.heap.size w ((w.alloc (.cells #[a, b, c] 52)).alloc (.cells #[d, e, f] 52))) := fun a b c d e f => below_on (alloc_b w _) (alloc_b _ _)
  have SX := hid sx
  have A1 : Hid (Dr.mF xs i ≤ xs.length) := by rw [← sx]; exact HF
  clear hs hl sx hi
  generalize Dr.mP xs i = pp at *
  generalize Dr.mW xs i = ww at *
  generalize Dr.mF xs i = ff at *
  go_enter Tryd.func23, Tryd.ntmps23
  go_upto_block 0 with fail
  go_cut [6] (fun v wx => v = .int .i64 ((ff : Nat) : Int) ∧ wx = (w.alloc (.cells #[.int .i64 0, .int .i64 0, .int .i64 0] 52)).alloc (.cells #[.int .i64 0, .int .i64 0, .int .i64 0] 52))
  case first =>
    go_wp2_with fail
    go_loopg [6] (xs.length - (i + 1)) (fun m k wr => ∃ j : Nat, j + m = xs.length ∧ k = .int .i64 (j : Int) ∧ wr = (w.alloc (.cells #[.int .i64 0, .int .i64 0, .int .i64 0] 52)).alloc (.cells #[.int .i64 0, .int .i64 0, .int .i64 0] 52) ∧ Hid (i + 1 ≤ j ∧ ∀ t, i + 1 ≤ t → t < j → Dr.isF (Dr.nx xs t) = true))
    case atStart => exact ⟨i + 1, by have := A0.out; omega, by go_num, rfl, Nat.le_refl _, fun t a b => by omega⟩
    case round =>
      obtain ⟨j, hj, rfl, rfl, I⟩ := hrel
      by_cases jl : j < s.size
      · have jli : (j : Int) < (s.size : Int) := by omega
        have jb : (j : Int) ≤ 1099511627776 := by omega
        obtain ⟨x, hx⟩ : ∃ x, Dr.nx xs j = x := ⟨_, rfl⟩
        have ki : ∀ h : j < s.size, ((s[j]'h).toNat : Int) = x := fun h => hx ▸ HS.out j h
        by_cases hf : Dr.isF x = true
        · have I2 : Hid (i + 1 ≤ j + 1 ∧ ∀ t, i + 1 ≤ t → t < j + 1 → Dr.isF (Dr.nx xs t) = true) := ⟨by have := I.out.1; omega, fun t a b => by
            by_cases e : t = j
            · subst e; rw [hx]; exact hf
            · exact I.out.2 t a (by omega)⟩
          have hg : (0 : Int) ≤ Dr.idx Dr.marks x := by simpa [Dr.isF] using hf
          clear I hx
          go_wp2_with (go_at_call 26; refine (AT.out _ _).mono ?_; rintro e w2 ⟨rfl, hw2⟩; rw [hw2]; clear hw2 w2)
          go_roundg (xs.length - (j + 1))
          case measure => have := SX.out; omega
          case rel => exact ⟨j + 1, by have := SX.out; omega, by go_num, rfl, I2.out⟩
        · have hf' : Dr.isF x = false := by simpa using hf
          have E := hid (KF.out I.out.1 I.out.2 (by have := SX.out; omega) (.inr (by rw [hx]; exact hf')))
          have hg : ¬ (0 : Int) ≤ Dr.idx Dr.marks x := by simpa [Dr.isF] using hf
          clear I hx
          go_wp2_with (go_at_call 26; refine (AT.out _ _).mono ?_; rintro e w2 ⟨rfl, hw2⟩; rw [hw2]; clear hw2 w2)
          go_meet
          exact ⟨by rw [E.out], rfl⟩
      · have jli : ¬ (j : Int) < (s.size : Int) := by omega
        have E := hid (KF.out I.out.1 I.out.2 (by omega) (.inl (by have := SX.out; omega)))
        clear I
        go_wp2_with fail
        go_meet
        exact ⟨by rw [E.out], rfl⟩
  case rest =>
  obtain ⟨h6, hwc⟩ := hcut
  subst hwc
  subst h6
  clear KF AT
  go_upto_region 6 with fail
  go_cut [33] (fun v wx => v = .bool (decide (Dr.nx xs (ff) = 42)) ∧ wx = (w.alloc (.cells #[.int .i64 0, .int .i64 0, .int .i64 0] 52)).alloc (.cells #[.int .i64 ((ff : Nat) : Int), .int .i64 0, .int .i64 0] 52))
  case first =>
    by_cases kl : ff < s.size
    · have kli : ((ff : Nat) : Int) < (s.size : Int) := by omega
      have ki : ∀ h : ff < s.size, ((s[ff]'h).toNat : Int) = Dr.nx xs (ff) := fun h => HS.out _ h
      generalize Dr.nx xs (ff) = x at *
      go_wp2_with fail
      go_meet
      exact ⟨rfl, rfl⟩
    · have kli : ¬ ((ff : Nat) : Int) < (s.size : Int) := by omega
      have e0 : Hid (Dr.nx xs (ff) = 0) := Dr.nx_end (by have := SX.out; omega)
      go_wp2_with fail
      go_meet
      exact ⟨by rw [e0.out]; rfl, rfl⟩
  case rest =>
  obtain ⟨h33, hwc⟩ := hcut
  subst hwc
  subst h33
  go_upto_if 33 with fail
  go_cut [6] (fun v wx => v = .int .i64 ((ww : Nat) : Int) ∧ wx = (w.alloc (.cells #[.int .i64 0, .int .i64 0, .int .i64 0] 52)).alloc (.cells #[.int .i64 ((ff : Nat) : Int), .int .i64 0, .int .i64 0] 52))
  case first =>
    by_cases st : Dr.nx xs (ff) = 42
    · obtain ⟨e1, e2⟩ := KS.out _ st
      have st1 : decide (Dr.nx xs (ff) = 42) = true := by simpa using st
      have e3 : (((ff) : Nat) : Int) + 1 ≤ 1099511627776 := by have := SX.out; omega
      have E : Hid (((Dr.wl xs (ff) : Nat) : Int) = ((ff : Nat) : Int) + 1) := by rw [e1]; show _ = _; omega
      clear e1 e2 st
      rw [st1]
      go_wp2_with fail
      go_meet
      exact ⟨by rw [KW.out, E.out], rfl⟩
    · have st1 : decide (Dr.nx xs (ff) = 42) = false := by simpa using st
      have ST := hid st
      clear st
      rw [st1]
      go_wp2_with fail
      go_loopg [6] (xs.length - (ff)) (fun m k wr => ∃ j : Nat, j + m = xs.length ∧ k = .int .i64 (j : Int) ∧ wr = (w.alloc (.cells #[.int .i64 0, .int .i64 0, .int .i64 0] 52)).alloc (.cells #[.int .i64 ((ff : Nat) : Int), .int .i64 0, .int .i64 0] 52) ∧ Hid (ff ≤ j ∧ ∀ t, ff ≤ t → t < j → Dr.isD (Dr.nx xs t) = true))
      case atStart => exact ⟨ff, by have := A1.out; omega, by go_num, rfl, Nat.le_refl _, fun t a b => by omega⟩
      case round =>
        obtain ⟨j, hj, rfl, rfl, I⟩ := hrel
        by_cases jl : j < s.size
        · have jli : (j : Int) < (s.size : Int) := by omega
          have jb : (j : Int) ≤ 1099511627776 := by omega
          obtain ⟨x, hx⟩ : ∃ x, Dr.nx xs j = x := ⟨_, rfl⟩
          have ki : ∀ h : j < s.size, ((s[j]'h).toNat : Int) = x := fun h => hx ▸ HS.out j h
          by_cases hf : Dr.isD x = true
          · have I2 : Hid (ff ≤ j + 1 ∧ ∀ t, ff ≤ t → t < j + 1 → Dr.isD (Dr.nx xs t) = true) := ⟨by have := I.out.1; omega, fun t a b => by
              by_cases e : t = j
              · subst e; rw [hx]; exact hf
              · exact I.out.2 t a (by omega)⟩
            skip
            clear I hx
            go_wp2_with (go_at_call 41; refine (DG.out _ _).mono ?_; rintro e w2 ⟨rfl, hw2⟩; rw [hw2]; clear hw2 w2)
            go_roundg (xs.length - (j + 1))
            case measure => have := SX.out; omega
            case rel => exact ⟨j + 1, by have := SX.out; omega, by go_num, rfl, I2.out⟩
          · have hf' : Dr.isD x = false := by simpa using hf
            have E := hid ((fun {j} a b c d => (KD.out (ff) j a b c d ST.out)) I.out.1 I.out.2 (by have := SX.out; omega) (.inr (by rw [hx]; exact hf')))
            skip
            clear I hx
            go_wp2_with (go_at_call 41; refine (DG.out _ _).mono ?_; rintro e w2 ⟨rfl, hw2⟩; rw [hw2]; clear hw2 w2)
            go_meet
            exact ⟨by rw [KW.out, E.out], rfl⟩
        · have jli : ¬ (j : Int) < (s.size : Int) := by omega
          have E := hid ((fun {j} a b c d => (KD.out (ff) j a b c d ST.out)) I.out.1 I.out.2 (by omega) (.inl (by have := SX.out; omega)))
          clear I
          go_wp2_with fail
          go_meet
          exact ⟨by rw [KW.out, E.out], rfl⟩
  case rest =>
  obtain ⟨h6, hwc⟩ := hcut
  subst hwc
  subst h6
  clear KW
  go_upto_region 11 with fail
  go_cut [59] (fun v wx => v = .bool (decide (Dr.nx xs (ww) = 46)) ∧ wx = (w.alloc (.cells #[.int .i64 0, .int .i64 0, .int .i64 0] 52)).alloc (.cells #[.int .i64 ((ff : Nat) : Int), .int .i64 ((ww : Nat) : Int), .int .i64 0] 52))
  case first =>
    by_cases kl : ww < s.size
    · have kli : ((ww : Nat) : Int) < (s.size : Int) := by omega
      have ki : ∀ h : ww < s.size, ((s[ww]'h).toNat : Int) = Dr.nx xs (ww) := fun h => HS.out _ h
      generalize Dr.nx xs (ww) = x at *
      go_wp2_with fail
      go_meet
      exact ⟨rfl, rfl⟩
    · have kli : ¬ ((ww : Nat) : Int) < (s.size : Int) := by omega
      have e0 : Hid (Dr.nx xs (ww) = 0) := Dr.nx_end (by have := SX.out; omega)
      go_wp2_with fail
      go_meet
      exact ⟨by rw [e0.out]; rfl, rfl⟩
  case rest =>
  obtain ⟨h59, hwc⟩ := hcut
  subst hwc
  subst h59
  go_upto_if 59 with fail
  go_cut [6] (fun v wx => v = .int .i64 ((pp : Nat) : Int) ∧ wx = (w.alloc (.cells #[.int .i64 0, .int .i64 0, .int .i64 0] 52)).alloc (.cells #[.int .i64 ((ff : Nat) : Int), .int .i64 ((ww : Nat) : Int), .int .i64 0] 52))
  case first =>
    by_cases pt : Dr.nx xs (ww) = 46
    · obtain ⟨e1, e2⟩ := KP.out.1 pt
      have pt1 : decide (Dr.nx xs (ww) = 46) = true := by simpa using pt
      obtain ⟨k1, hk1⟩ : ∃ k1, k1 = ww + 1 := ⟨_, rfl⟩
      have kz : k1 ≤ s.size := by have := SX.out; omega
      have A1 : Hid (k1 ≤ xs.length) := by have := SX.out; show _ ≤ _; omega
      have kb : ((ww : Nat) : Int) + 1 ≤ 1099511627776 := by have := SX.out; omega
      have K1 : Hid (((ww : Nat) : Int) + 1 = (k1 : Int)) := by show _ = _; omega
      have KW : Hid (pp = Dr.wl xs k1) := by rw [hk1]; exact e1
      clear e1 e2 pt hk1 KP
      rw [pt1]
      go_upto_region 12 with fail
      go_cut [6] (fun v wx => v = .int .i64 (k1 : Int) ∧ wx = (w.alloc (.cells #[.int .i64 0, .int .i64 0, .int .i64 0] 52)).alloc (.cells #[.int .i64 ((ff : Nat) : Int), .int .i64 ((ww : Nat) : Int), .int .i64 0] 52))
      case first =>
        go_wp2_with fail
        go_meet
        exact ⟨by rw [K1.out], rfl⟩
      case rest =>
      obtain ⟨h6, hwc⟩ := hcut
      subst hwc
      subst h6
      go_upto_region 13 with fail
      go_cut [71] (fun v wx => v = .bool (decide (Dr.nx xs (k1) = 42)) ∧ wx = (w.alloc (.cells #[.int .i64 0, .int .i64 0, .int .i64 0] 52)).alloc (.cells #[.int .i64 ((ff : Nat) : Int), .int .i64 ((ww : Nat) : Int), .int .i64 0] 52))
      case first =>
        by_cases kl : k1 < s.size
        · have kli : ((k1 : Nat) : Int) < (s.size : Int) := by omega
          have ki : ∀ h : k1 < s.size, ((s[k1]'h).toNat : Int) = Dr.nx xs (k1) := fun h => HS.out _ h
          generalize Dr.nx xs (k1) = x at *
          go_wp2_with fail
          go_meet
          exact ⟨rfl, rfl⟩
        · have kli : ¬ ((k1 : Nat) : Int) < (s.size : Int) := by omega
          have e0 : Hid (Dr.nx xs (k1) = 0) := Dr.nx_end (by have := SX.out; omega)
          go_wp2_with fail
          go_meet
          exact ⟨by rw [e0.out]; rfl, rfl⟩
      case rest =>
      obtain ⟨h71, hwc⟩ := hcut
      subst hwc
      subst h71
      go_upto_if 71 with fail
      go_cut [6] (fun v wx => v = .int .i64 ((pp : Nat) : Int) ∧ wx = (w.alloc (.cells #[.int .i64 0, .int .i64 0, .int .i64 0] 52)).alloc (.cells #[.int .i64 ((ff : Nat) : Int), .int .i64 ((ww : Nat) : Int), .int .i64 0] 52))
      case first =>
        by_cases st : Dr.nx xs (k1) = 42
        · obtain ⟨e1, e2⟩ := KS.out _ st
          have st1 : decide (Dr.nx xs (k1) = 42) = true := by simpa using st
          have e3 : (((k1) : Nat) : Int) + 1 ≤ 1099511627776 := by have := SX.out; omega
          have E : Hid (((Dr.wl xs (k1) : Nat) : Int) = ((k1 : Nat) : Int) + 1) := by rw [e1]; show _ = _; omega
          clear e1 e2 st
          rw [st1]
          go_wp2_with fail
          go_meet
          exact ⟨by rw [KW.out, E.out], rfl⟩
        · have st1 : decide (Dr.nx xs (k1) = 42) = false := by simpa using st
          have ST := hid st
          clear st
          rw [st1]
          go_wp2_with fail
          go_loopg [6] (xs.length - (k1)) (fun m k wr => ∃ j : Nat, j + m = xs.length ∧ k = .int .i64 (j : Int) ∧ wr = (w.alloc (.cells #[.int .i64 0, .int .i64 0, .int .i64 0] 52)).alloc (.cells #[.int .i64 ((ff : Nat) : Int), .int .i64 ((ww : Nat) : Int), .int .i64 0] 52) ∧ Hid (k1 ≤ j ∧ ∀ t, k1 ≤ t → t < j → Dr.isD (Dr.nx xs t) = true))
          case atStart => exact ⟨k1, by have := A1.out; omega, by go_num, rfl, Nat.le_refl _, fun t a b => by omega⟩
          case round =>
            obtain ⟨j, hj, rfl, rfl, I⟩ := hrel
            by_cases jl : j < s.size
            · have jli : (j : Int) < (s.size : Int) := by omega
              have jb : (j : Int) ≤ 1099511627776 := by omega
              obtain ⟨x, hx⟩ : ∃ x, Dr.nx xs j = x := ⟨_, rfl⟩
              have ki : ∀ h : j < s.size, ((s[j]'h).toNat : Int) = x := fun h => hx ▸ HS.out j h
              by_cases hf : Dr.isD x = true
              · have I2 : Hid (k1 ≤ j + 1 ∧ ∀ t, k1 ≤ t → t < j + 1 → Dr.isD (Dr.nx xs t) = true) := ⟨by have := I.out.1; omega, fun t a b => by
                  by_cases e : t = j
                  · subst e; rw [hx]; exact hf
                  · exact I.out.2 t a (by omega)⟩
                skip
                clear I hx
                go_wp2_with (go_at_call 41; refine (DG.out _ _).mono ?_; rintro e w2 ⟨rfl, hw2⟩; rw [hw2]; clear hw2 w2)
                go_roundg (xs.length - (j + 1))
                case measure => have := SX.out; omega
                case rel => exact ⟨j + 1, by have := SX.out; omega, by go_num, rfl, I2.out⟩
              · have hf' : Dr.isD x = false := by simpa using hf
                have E := hid ((fun {j} a b c d => (KD.out (k1) j a b c d ST.out)) I.out.1 I.out.2 (by have := SX.out; omega) (.inr (by rw [hx]; exact hf')))
                skip
                clear I hx
                go_wp2_with (go_at_call 41; refine (DG.out _ _).mono ?_; rintro e w2 ⟨rfl, hw2⟩; rw [hw2]; clear hw2 w2)
                go_meet
                exact ⟨by rw [KW.out, E.out], rfl⟩
            · have jli : ¬ (j : Int) < (s.size : Int) := by omega
              have E := hid ((fun {j} a b c d => (KD.out (k1) j a b c d ST.out)) I.out.1 I.out.2 (by omega) (.inl (by have := SX.out; omega)))
              clear I
              go_wp2_with fail
              go_meet
              exact ⟨by rw [KW.out, E.out], rfl⟩
      case rest =>
      obtain ⟨h6, hwc⟩ := hcut
      subst hwc
      subst h6
      go_wp2_with fail
      go_meet
      exact ⟨rfl, rfl⟩
    · have pt1 : decide (Dr.nx xs (ww) = 46) = false := by simpa using pt
      have E := hid (KP.out.2 pt)
      clear pt KP
      rw [pt1]
      go_wp2_with fail
      go_meet
      exact ⟨by rw [E.out], rfl⟩
  case rest =>
  obtain ⟨h6, hwc⟩ := hcut
  subst hwc
  subst h6
  clear KP KD KS
  go_wp2_with fail
  refine bodyPost_ret (results_cell_row rfl _ _ w.heap.size 52 _ (0, 0) _ rfl (heap_alloc2_old _ _ _) Tryd.underlying52 rfl (by kernel_rfl)) rfl ?_
  exact ⟨rfl, EB.out _ _ _ _ _ _⟩
end Go.Proofs.YtaadooippelcfaaDoor
