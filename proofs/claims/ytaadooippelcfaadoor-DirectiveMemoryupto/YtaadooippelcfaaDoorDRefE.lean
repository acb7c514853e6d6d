/-
  abacusref13's printed (mkdrefe.py).
-/
import Derived.Test.YtaadooippelcfaaDoorDRefD
import Derived.Deep.DeepCutAuto
namespace Go.Proofs.YtaadooippelcfaaDoor
open Go Go.RowKit Go.Deep Go.Shelf

namespace Dr
/-- The marks of the first flags. -/
def msi (f : Int) (i : Nat) : List Int := (List.range i).flatMap (fun t => if f.toNat / 2 ^ t % 2 = 1 then [marks.getD t 0] else [])
theorem msi_succ (f : Int) (i : Nat) : msi f (i + 1) = msi f i ++ (if f.toNat / 2 ^ i % 2 = 1 then [marks.getD i 0] else []) := by simp [msi, List.range_succ]
theorem msi_5 (f : Int) : msi f 5 = ms f := by simp [msi, ms, List.range_succ, marks]
theorem msi_len (f : Int) (i : Nat) : (msi f i).length ≤ i := by
  induction i with
  | zero => simp [msi]
  | succ i ih => rw [msi_succ, List.length_append]; split <;> simp <;> omega
end Dr
theorem dstr_dl (n : Nat) (_ : n ≤ 4096) : Str (strOfNums (Sc.dl n)) (Sc.dl n) := Str.of_nums (fun x hx => by have := Dr.isD_iff.1 (Dr.dl_D n x hx); omega)
theorem wn_short {k n l : Int} (h : Dr.num k n l) : (Dr.wn k n).length ≤ 4 := by
  unfold Dr.wn
  rcases h with ⟨h, rfl⟩ | ⟨rfl, a, b⟩
  · split
    · exact dl_len4 (by omega)
    · split <;> simp
  · rw [if_pos rfl]
    exact dl_len4 (by omega)

set_option maxRecDepth 100000 in
set_option maxHeartbeats 4000000 in
theorem rprinted_dir (t : List Int) (v fl wk pk : Int) (wd pr : Nat) (w : World) (hp : PcW ⟨t, v, fl, wk, (wd : Int), pk, (pr : Int)⟩) (hr : Dr.isR ⟨t, v, fl, wk, (wd : Int), pk, (pr : Int)⟩) :
    Calls Tryd.prog 36 #[.agg #[.string (strOfNums t), .int .u8 v, .int .i64 fl, .int .i64 wk, .int .i64 (wd : Int), .int .i64 pk, .int .i64 (pr : Int)]] w fun e w' => e = .returned (.string (strOfNums (Dr.wr ⟨t, v, fl, wk, (wd : Int), pk, (pr : Int)⟩))) ∧ Below w.heap.size w w' := by
  have vn := Dr.verb_ne hr.1
  simp only at vn
  have u0 : (v == 0) = false := by simpa using vn.1
  have u1 : (v == 37) = false := by simpa using vn.2.1
  have FB := hid (And.intro hr.2.2.1 hr.2.2.2.1)
  have E : Hid (Dr.wr ⟨t, v, fl, wk, (wd : Int), pk, (pr : Int)⟩ = 37 :: (Dr.ms fl ++ Dr.wn wk (wd : Int) ++ (if pk ≠ 0 then 46 :: Dr.wn pk (pr : Int) else []) ++ [v])) := by rw [Hid, Dr.wr, if_neg vn.1, if_neg vn.2.1]
  have WRB := hid (wr_by hp (.inr (.inr hr)))
  have VB := hid hp.2
  have NW : Hid (Dr.num wk (wd : Int) 1) := hr.2.2.2.2.1
  have NP : Hid (Dr.num pk (pr : Int) 0) := hr.2.2.2.2.2
  have DC := hid rdecimal_any
  generalize Dr.wr ⟨t, v, fl, wk, (wd : Int), pk, (pr : Int)⟩ = out at *
  clear vn hr hp

  have B0 := hid (alloc_b w (.cells #[.string (strOfNums t), .int .u8 v, .int .i64 fl, .int .i64 wk, .int .i64 (wd : Int), .int .i64 pk, .int .i64 (pr : Int)] 25))
  have P0 := hid (P7.new w (.string (strOfNums t)) (.int .u8 v) (.int .i64 fl) (.int .i64 wk) (.int .i64 (wd : Int)) (.int .i64 pk) (.int .i64 (pr : Int)))
  go_enter Tryd.func36, Tryd.ntmps36
  go_upto_block 0 with fail
  generalize w.alloc (.cells #[.string (strOfNums t), .int .u8 v, .int .i64 fl, .int .i64 wk, .int .i64 (wd : Int), .int .i64 pk, .int .i64 (pr : Int)] 25) = wA at *
  go_cut [3] (fun vv wx => ∃ S, vv = .string S ∧ Hid (Str S (37 :: Dr.ms fl) ∧ Below w.heap.size w wx ∧ P7 wx w.heap.size (.string (strOfNums t)) (.int .u8 v) (.int .i64 fl) (.int .i64 wk) (.int .i64 (wd : Int)) (.int .i64 pk) (.int .i64 (pr : Int))))

  case first =>
    go_wp2_with fail
    go_loopg [3, 4] 5 (fun m sv iv wr => ∃ (i : Nat) (S : ByteArray), i + m = 5 ∧ sv = .string S ∧ iv = .int .i64 (i : Int) ∧ Hid (Str S (37 :: Dr.msi fl i) ∧ Below w.heap.size w wr ∧ P7 wr w.heap.size (.string (strOfNums t)) (.int .u8 v) (.int .i64 fl) (.int .i64 wk) (.int .i64 (wd : Int)) (.int .i64 pk) (.int .i64 (pr : Int))))
    case atStart => exact ⟨0, ⟨#[37]⟩, by omega, rfl, rfl, by rfl, B0.out, P0.out⟩
    case round =>
      obtain ⟨i, S, hi, rfl, rfl, J⟩ := hrel
      clear B0 P0 E WRB VB NW NP DC
      rcases (show i = 0 ∨ i = 1 ∨ i = 2 ∨ i = 3 ∨ i = 4 ∨ i = 5 by omega) with rfl | rfl | rfl | rfl | rfl | rfl
      · have BI : Hid (∀ W, Calls Tryd.prog 24 #[.int .u8 45] W fun e w' => e = .returned (.int .i64 1) ∧ w' = W) := fun W => rbit_any 45 W (by decide)
        obtain ⟨Q, hQ⟩ : ∃ Q, fl / 1 = Q := ⟨_, rfl⟩
        obtain ⟨R, hR⟩ : ∃ R, Q % 2 = R := ⟨_, rfl⟩
        have qb : 0 ≤ Q ∧ Q ≤ 31 := by have := FB.out; omega
        have q1 : (fl).tdiv 1 = Q := by rw [Int.tdiv_eq_ediv_of_nonneg FB.out.1]; exact hQ
        have q2 : IntKind.i64.wrap Q = Q := by rw [IntKind.wrap_i64]; omega
        have q3 : Q.tmod 2 = R := by rw [Int.tmod_eq_emod_of_nonneg qb.1]; exact hR
        have q4 : IntKind.i64.wrap R = R := by rw [IntKind.wrap_i64]; omega
        have fl0 := FB.out.1
        have RI : Hid (fl.toNat / 2 ^ 0 % 2 = R.toNat) := by show _ = _; omega
        have MS := Dr.msi_succ fl 0
        have hsub : (⟨#[45, 43, 32, 35, 48]⟩ : ByteArray).extract 0 1 = ⟨#[45]⟩ := by rfl
        have sz := hid J.out.1.size
        have CA := hid (fun wx => run_string_add_sum (P := Tryd.prog) wx S (⟨#[45]⟩ : ByteArray) (by have b := sz.out; have := Dr.msi_len fl 0; rw [List.length_cons] at b; have e : (⟨#[45]⟩ : ByteArray).size = 1 := rfl; omega))
        have ST := hid (dstr_app J.out.1 (show Str ⟨#[45]⟩ [45] from rfl))
        have SJ := hid J.out.1
        have J2 := hid J.out.2
        obtain ⟨⟨b0, b1, b2, b3, b4, b5, b6⟩, -⟩ := J.out.2.2.cells
        have ki : ∀ h, (((⟨#[45, 43, 32, 35, 48]⟩ : ByteArray)[0]'h).toNat : Int) = 45 := fun _ => rfl
        clear J hR hQ
        go_upto_region 9 with fail
        by_cases h1 : R = 1
        · have h2 : (R == 1) = true := by simpa using h1
          have F : Hid (∀ W, Below wr.heap.size wr W → Str (S ++ ⟨#[45]⟩) (37 :: Dr.msi fl 1) ∧ Below w.heap.size w W ∧ P7 W w.heap.size (.string (strOfNums t)) (.int .u8 v) (.int .i64 fl) (.int .i64 wk) (.int .i64 (wd : Int)) (.int .i64 pk) (.int .i64 (pr : Int))) := fun W hB => by
            refine ⟨?_, below_on J2.out.1 hB, J2.out.2.below hB⟩
            rw [MS, RI.out, if_pos (by rw [h1]; rfl)]
            exact ST.out
          clear MS ST SJ J2 h1
          go_quiet ((go_at_call 24; with_reducible exact Calls.quiet_of_same (BI.out _)))
          all_goals
            have CA' := CA.out
            go_wp2_with fail
            go_roundg (5 - 1)
            case measure => omega
            case rel => exact ⟨1, _, by omega, rfl, by go_num, F.out _ (by exact ⟨rfl, rfl, rfl, Nat.le_refl _, fun _ _ => rfl⟩)⟩
        · have h2 : (R == 1) = false := by simpa using h1
          have F : Hid (∀ W, Below wr.heap.size wr W → Str S (37 :: Dr.msi fl 1) ∧ Below w.heap.size w W ∧ P7 W w.heap.size (.string (strOfNums t)) (.int .u8 v) (.int .i64 fl) (.int .i64 wk) (.int .i64 (wd : Int)) (.int .i64 pk) (.int .i64 (pr : Int))) := fun W hB => by
            refine ⟨?_, below_on J2.out.1 hB, J2.out.2.below hB⟩
            rw [MS, RI.out, if_neg (by omega), List.append_nil]
            exact SJ.out
          clear MS ST SJ J2 h1
          go_quiet ((go_at_call 24; with_reducible exact Calls.quiet_of_same (BI.out _)))
          all_goals
            go_wp2_with fail
            go_roundg (5 - 1)
            case measure => omega
            case rel => exact ⟨1, _, by omega, rfl, by go_num, F.out _ (by exact ⟨rfl, rfl, rfl, Nat.le_refl _, fun _ _ => rfl⟩)⟩
      · have BI : Hid (∀ W, Calls Tryd.prog 24 #[.int .u8 43] W fun e w' => e = .returned (.int .i64 2) ∧ w' = W) := fun W => rbit_any 43 W (by decide)
        obtain ⟨Q, hQ⟩ : ∃ Q, fl / 2 = Q := ⟨_, rfl⟩
        obtain ⟨R, hR⟩ : ∃ R, Q % 2 = R := ⟨_, rfl⟩
        have qb : 0 ≤ Q ∧ Q ≤ 31 := by have := FB.out; omega
        have q1 : (fl).tdiv 2 = Q := by rw [Int.tdiv_eq_ediv_of_nonneg FB.out.1]; exact hQ
        have q2 : IntKind.i64.wrap Q = Q := by rw [IntKind.wrap_i64]; omega
        have q3 : Q.tmod 2 = R := by rw [Int.tmod_eq_emod_of_nonneg qb.1]; exact hR
        have q4 : IntKind.i64.wrap R = R := by rw [IntKind.wrap_i64]; omega
        have fl0 := FB.out.1
        have RI : Hid (fl.toNat / 2 ^ 1 % 2 = R.toNat) := by show _ = _; omega
        have MS := Dr.msi_succ fl 1
        have hsub : (⟨#[45, 43, 32, 35, 48]⟩ : ByteArray).extract 1 2 = ⟨#[43]⟩ := by rfl
        have sz := hid J.out.1.size
        have CA := hid (fun wx => run_string_add_sum (P := Tryd.prog) wx S (⟨#[43]⟩ : ByteArray) (by have b := sz.out; have := Dr.msi_len fl 1; rw [List.length_cons] at b; have e : (⟨#[43]⟩ : ByteArray).size = 1 := rfl; omega))
        have ST := hid (dstr_app J.out.1 (show Str ⟨#[43]⟩ [43] from rfl))
        have SJ := hid J.out.1
        have J2 := hid J.out.2
        obtain ⟨⟨b0, b1, b2, b3, b4, b5, b6⟩, -⟩ := J.out.2.2.cells
        have ki : ∀ h, (((⟨#[45, 43, 32, 35, 48]⟩ : ByteArray)[1]'h).toNat : Int) = 43 := fun _ => rfl
        clear J hR hQ
        go_upto_region 9 with fail
        by_cases h1 : R = 1
        · have h2 : (R == 1) = true := by simpa using h1
          have F : Hid (∀ W, Below wr.heap.size wr W → Str (S ++ ⟨#[43]⟩) (37 :: Dr.msi fl 2) ∧ Below w.heap.size w W ∧ P7 W w.heap.size (.string (strOfNums t)) (.int .u8 v) (.int .i64 fl) (.int .i64 wk) (.int .i64 (wd : Int)) (.int .i64 pk) (.int .i64 (pr : Int))) := fun W hB => by
            refine ⟨?_, below_on J2.out.1 hB, J2.out.2.below hB⟩
            rw [MS, RI.out, if_pos (by rw [h1]; rfl)]
            exact ST.out
          clear MS ST SJ J2 h1
          go_quiet ((go_at_call 24; with_reducible exact Calls.quiet_of_same (BI.out _)))
          all_goals
            have CA' := CA.out
            go_wp2_with fail
            go_roundg (5 - 2)
            case measure => omega
            case rel => exact ⟨2, _, by omega, rfl, by go_num, F.out _ (by exact ⟨rfl, rfl, rfl, Nat.le_refl _, fun _ _ => rfl⟩)⟩
        · have h2 : (R == 1) = false := by simpa using h1
          have F : Hid (∀ W, Below wr.heap.size wr W → Str S (37 :: Dr.msi fl 2) ∧ Below w.heap.size w W ∧ P7 W w.heap.size (.string (strOfNums t)) (.int .u8 v) (.int .i64 fl) (.int .i64 wk) (.int .i64 (wd : Int)) (.int .i64 pk) (.int .i64 (pr : Int))) := fun W hB => by
            refine ⟨?_, below_on J2.out.1 hB, J2.out.2.below hB⟩
            rw [MS, RI.out, if_neg (by omega), List.append_nil]
            exact SJ.out
          clear MS ST SJ J2 h1
          go_quiet ((go_at_call 24; with_reducible exact Calls.quiet_of_same (BI.out _)))
          all_goals
            go_wp2_with fail
            go_roundg (5 - 2)
            case measure => omega
            case rel => exact ⟨2, _, by omega, rfl, by go_num, F.out _ (by exact ⟨rfl, rfl, rfl, Nat.le_refl _, fun _ _ => rfl⟩)⟩
      · have BI : Hid (∀ W, Calls Tryd.prog 24 #[.int .u8 32] W fun e w' => e = .returned (.int .i64 4) ∧ w' = W) := fun W => rbit_any 32 W (by decide)
        obtain ⟨Q, hQ⟩ : ∃ Q, fl / 4 = Q := ⟨_, rfl⟩
        obtain ⟨R, hR⟩ : ∃ R, Q % 2 = R := ⟨_, rfl⟩
        have qb : 0 ≤ Q ∧ Q ≤ 31 := by have := FB.out; omega
        have q1 : (fl).tdiv 4 = Q := by rw [Int.tdiv_eq_ediv_of_nonneg FB.out.1]; exact hQ
        have q2 : IntKind.i64.wrap Q = Q := by rw [IntKind.wrap_i64]; omega
        have q3 : Q.tmod 2 = R := by rw [Int.tmod_eq_emod_of_nonneg qb.1]; exact hR
        have q4 : IntKind.i64.wrap R = R := by rw [IntKind.wrap_i64]; omega
        have fl0 := FB.out.1
        have RI : Hid (fl.toNat / 2 ^ 2 % 2 = R.toNat) := by show _ = _; omega
        have MS := Dr.msi_succ fl 2
        have hsub : (⟨#[45, 43, 32, 35, 48]⟩ : ByteArray).extract 2 3 = ⟨#[32]⟩ := by rfl
        have sz := hid J.out.1.size
        have CA := hid (fun wx => run_string_add_sum (P := Tryd.prog) wx S (⟨#[32]⟩ : ByteArray) (by have b := sz.out; have := Dr.msi_len fl 2; rw [List.length_cons] at b; have e : (⟨#[32]⟩ : ByteArray).size = 1 := rfl; omega))
        have ST := hid (dstr_app J.out.1 (show Str ⟨#[32]⟩ [32] from rfl))
        have SJ := hid J.out.1
        have J2 := hid J.out.2
        obtain ⟨⟨b0, b1, b2, b3, b4, b5, b6⟩, -⟩ := J.out.2.2.cells
        have ki : ∀ h, (((⟨#[45, 43, 32, 35, 48]⟩ : ByteArray)[2]'h).toNat : Int) = 32 := fun _ => rfl
        clear J hR hQ
        go_upto_region 9 with fail
        by_cases h1 : R = 1
        · have h2 : (R == 1) = true := by simpa using h1
          have F : Hid (∀ W, Below wr.heap.size wr W → Str (S ++ ⟨#[32]⟩) (37 :: Dr.msi fl 3) ∧ Below w.heap.size w W ∧ P7 W w.heap.size (.string (strOfNums t)) (.int .u8 v) (.int .i64 fl) (.int .i64 wk) (.int .i64 (wd : Int)) (.int .i64 pk) (.int .i64 (pr : Int))) := fun W hB => by
            refine ⟨?_, below_on J2.out.1 hB, J2.out.2.below hB⟩
            rw [MS, RI.out, if_pos (by rw [h1]; rfl)]
            exact ST.out
          clear MS ST SJ J2 h1
          go_quiet ((go_at_call 24; with_reducible exact Calls.quiet_of_same (BI.out _)))
          all_goals
            have CA' := CA.out
            go_wp2_with fail
            go_roundg (5 - 3)
            case measure => omega
            case rel => exact ⟨3, _, by omega, rfl, by go_num, F.out _ (by exact ⟨rfl, rfl, rfl, Nat.le_refl _, fun _ _ => rfl⟩)⟩
        · have h2 : (R == 1) = false := by simpa using h1
          have F : Hid (∀ W, Below wr.heap.size wr W → Str S (37 :: Dr.msi fl 3) ∧ Below w.heap.size w W ∧ P7 W w.heap.size (.string (strOfNums t)) (.int .u8 v) (.int .i64 fl) (.int .i64 wk) (.int .i64 (wd : Int)) (.int .i64 pk) (.int .i64 (pr : Int))) := fun W hB => by
            refine ⟨?_, below_on J2.out.1 hB, J2.out.2.below hB⟩
            rw [MS, RI.out, if_neg (by omega), List.append_nil]
            exact SJ.out
          clear MS ST SJ J2 h1
          go_quiet ((go_at_call 24; with_reducible exact Calls.quiet_of_same (BI.out _)))
          all_goals
            go_wp2_with fail
            go_roundg (5 - 3)
            case measure => omega
            case rel => exact ⟨3, _, by omega, rfl, by go_num, F.out _ (by exact ⟨rfl, rfl, rfl, Nat.le_refl _, fun _ _ => rfl⟩)⟩
      · have BI : Hid (∀ W, Calls Tryd.prog 24 #[.int .u8 35] W fun e w' => e = .returned (.int .i64 8) ∧ w' = W) := fun W => rbit_any 35 W (by decide)
        obtain ⟨Q, hQ⟩ : ∃ Q, fl / 8 = Q := ⟨_, rfl⟩
        obtain ⟨R, hR⟩ : ∃ R, Q % 2 = R := ⟨_, rfl⟩
        have qb : 0 ≤ Q ∧ Q ≤ 31 := by have := FB.out; omega
        have q1 : (fl).tdiv 8 = Q := by rw [Int.tdiv_eq_ediv_of_nonneg FB.out.1]; exact hQ
        have q2 : IntKind.i64.wrap Q = Q := by rw [IntKind.wrap_i64]; omega
        have q3 : Q.tmod 2 = R := by rw [Int.tmod_eq_emod_of_nonneg qb.1]; exact hR
        have q4 : IntKind.i64.wrap R = R := by rw [IntKind.wrap_i64]; omega
        have fl0 := FB.out.1
        have RI : Hid (fl.toNat / 2 ^ 3 % 2 = R.toNat) := by show _ = _; omega
        have MS := Dr.msi_succ fl 3
        have hsub : (⟨#[45, 43, 32, 35, 48]⟩ : ByteArray).extract 3 4 = ⟨#[35]⟩ := by rfl
        have sz := hid J.out.1.size
        have CA := hid (fun wx => run_string_add_sum (P := Tryd.prog) wx S (⟨#[35]⟩ : ByteArray) (by have b := sz.out; have := Dr.msi_len fl 3; rw [List.length_cons] at b; have e : (⟨#[35]⟩ : ByteArray).size = 1 := rfl; omega))
        have ST := hid (dstr_app J.out.1 (show Str ⟨#[35]⟩ [35] from rfl))
        have SJ := hid J.out.1
        have J2 := hid J.out.2
        obtain ⟨⟨b0, b1, b2, b3, b4, b5, b6⟩, -⟩ := J.out.2.2.cells
        have ki : ∀ h, (((⟨#[45, 43, 32, 35, 48]⟩ : ByteArray)[3]'h).toNat : Int) = 35 := fun _ => rfl
        clear J hR hQ
        go_upto_region 9 with fail
        by_cases h1 : R = 1
        · have h2 : (R == 1) = true := by simpa using h1
          have F : Hid (∀ W, Below wr.heap.size wr W → Str (S ++ ⟨#[35]⟩) (37 :: Dr.msi fl 4) ∧ Below w.heap.size w W ∧ P7 W w.heap.size (.string (strOfNums t)) (.int .u8 v) (.int .i64 fl) (.int .i64 wk) (.int .i64 (wd : Int)) (.int .i64 pk) (.int .i64 (pr : Int))) := fun W hB => by
            refine ⟨?_, below_on J2.out.1 hB, J2.out.2.below hB⟩
            rw [MS, RI.out, if_pos (by rw [h1]; rfl)]
            exact ST.out
          clear MS ST SJ J2 h1
          go_quiet ((go_at_call 24; with_reducible exact Calls.quiet_of_same (BI.out _)))
          all_goals
            have CA' := CA.out
            go_wp2_with fail
            go_roundg (5 - 4)
            case measure => omega
            case rel => exact ⟨4, _, by omega, rfl, by go_num, F.out _ (by exact ⟨rfl, rfl, rfl, Nat.le_refl _, fun _ _ => rfl⟩)⟩
        · have h2 : (R == 1) = false := by simpa using h1
          have F : Hid (∀ W, Below wr.heap.size wr W → Str S (37 :: Dr.msi fl 4) ∧ Below w.heap.size w W ∧ P7 W w.heap.size (.string (strOfNums t)) (.int .u8 v) (.int .i64 fl) (.int .i64 wk) (.int .i64 (wd : Int)) (.int .i64 pk) (.int .i64 (pr : Int))) := fun W hB => by
            refine ⟨?_, below_on J2.out.1 hB, J2.out.2.below hB⟩
            rw [MS, RI.out, if_neg (by omega), List.append_nil]
            exact SJ.out
          clear MS ST SJ J2 h1
          go_quiet ((go_at_call 24; with_reducible exact Calls.quiet_of_same (BI.out _)))
          all_goals
            go_wp2_with fail
            go_roundg (5 - 4)
            case measure => omega
            case rel => exact ⟨4, _, by omega, rfl, by go_num, F.out _ (by exact ⟨rfl, rfl, rfl, Nat.le_refl _, fun _ _ => rfl⟩)⟩
      · have BI : Hid (∀ W, Calls Tryd.prog 24 #[.int .u8 48] W fun e w' => e = .returned (.int .i64 16) ∧ w' = W) := fun W => rbit_any 48 W (by decide)
        obtain ⟨Q, hQ⟩ : ∃ Q, fl / 16 = Q := ⟨_, rfl⟩
        obtain ⟨R, hR⟩ : ∃ R, Q % 2 = R := ⟨_, rfl⟩
        have qb : 0 ≤ Q ∧ Q ≤ 31 := by have := FB.out; omega
        have q1 : (fl).tdiv 16 = Q := by rw [Int.tdiv_eq_ediv_of_nonneg FB.out.1]; exact hQ
        have q2 : IntKind.i64.wrap Q = Q := by rw [IntKind.wrap_i64]; omega
        have q3 : Q.tmod 2 = R := by rw [Int.tmod_eq_emod_of_nonneg qb.1]; exact hR
        have q4 : IntKind.i64.wrap R = R := by rw [IntKind.wrap_i64]; omega
        have fl0 := FB.out.1
        have RI : Hid (fl.toNat / 2 ^ 4 % 2 = R.toNat) := by show _ = _; omega
        have MS := Dr.msi_succ fl 4
        have hsub : (⟨#[45, 43, 32, 35, 48]⟩ : ByteArray).extract 4 5 = ⟨#[48]⟩ := by rfl
        have sz := hid J.out.1.size
        have CA := hid (fun wx => run_string_add_sum (P := Tryd.prog) wx S (⟨#[48]⟩ : ByteArray) (by have b := sz.out; have := Dr.msi_len fl 4; rw [List.length_cons] at b; have e : (⟨#[48]⟩ : ByteArray).size = 1 := rfl; omega))
        have ST := hid (dstr_app J.out.1 (show Str ⟨#[48]⟩ [48] from rfl))
        have SJ := hid J.out.1
        have J2 := hid J.out.2
        obtain ⟨⟨b0, b1, b2, b3, b4, b5, b6⟩, -⟩ := J.out.2.2.cells
        have ki : ∀ h, (((⟨#[45, 43, 32, 35, 48]⟩ : ByteArray)[4]'h).toNat : Int) = 48 := fun _ => rfl
        clear J hR hQ
        go_upto_region 9 with fail
        by_cases h1 : R = 1
        · have h2 : (R == 1) = true := by simpa using h1
          have F : Hid (∀ W, Below wr.heap.size wr W → Str (S ++ ⟨#[48]⟩) (37 :: Dr.msi fl 5) ∧ Below w.heap.size w W ∧ P7 W w.heap.size (.string (strOfNums t)) (.int .u8 v) (.int .i64 fl) (.int .i64 wk) (.int .i64 (wd : Int)) (.int .i64 pk) (.int .i64 (pr : Int))) := fun W hB => by
            refine ⟨?_, below_on J2.out.1 hB, J2.out.2.below hB⟩
            rw [MS, RI.out, if_pos (by rw [h1]; rfl)]
            exact ST.out
          clear MS ST SJ J2 h1
          go_quiet ((go_at_call 24; with_reducible exact Calls.quiet_of_same (BI.out _)))
          all_goals
            have CA' := CA.out
            go_wp2_with fail
            go_roundg (5 - 5)
            case measure => omega
            case rel => exact ⟨5, _, by omega, rfl, by go_num, F.out _ (by exact ⟨rfl, rfl, rfl, Nat.le_refl _, fun _ _ => rfl⟩)⟩
        · have h2 : (R == 1) = false := by simpa using h1
          have F : Hid (∀ W, Below wr.heap.size wr W → Str S (37 :: Dr.msi fl 5) ∧ Below w.heap.size w W ∧ P7 W w.heap.size (.string (strOfNums t)) (.int .u8 v) (.int .i64 fl) (.int .i64 wk) (.int .i64 (wd : Int)) (.int .i64 pk) (.int .i64 (pr : Int))) := fun W hB => by
            refine ⟨?_, below_on J2.out.1 hB, J2.out.2.below hB⟩
            rw [MS, RI.out, if_neg (by omega), List.append_nil]
            exact SJ.out
          clear MS ST SJ J2 h1
          go_quiet ((go_at_call 24; with_reducible exact Calls.quiet_of_same (BI.out _)))
          all_goals
            go_wp2_with fail
            go_roundg (5 - 5)
            case measure => omega
            case rel => exact ⟨5, _, by omega, rfl, by go_num, F.out _ (by exact ⟨rfl, rfl, rfl, Nat.le_refl _, fun _ _ => rfl⟩)⟩
      · have F : Hid (Str S (37 :: Dr.ms fl) ∧ Below w.heap.size w wr ∧ P7 wr w.heap.size (.string (strOfNums t)) (.int .u8 v) (.int .i64 fl) (.int .i64 wk) (.int .i64 (wd : Int)) (.int .i64 pk) (.int .i64 (pr : Int))) := by
          rw [← Dr.msi_5]
          exact J.out
        clear J
        go_wp2_with fail
        go_meet
        exact ⟨S, rfl, F.out⟩
  case rest =>

  have LM := hid (ms_len fl)
  have LN1 := hid (wn_short NW.out)
  have LN2 : Hid ((if wk = 1 then Sc.dl wd else []).length ≤ 4) := by
    show _ ≤ _
    split
    · rename_i h
      have := NW.out
      rcases this with ⟨q, _⟩ | ⟨_, _, q⟩
      · omega
      · exact dl_len4 (by omega)
    · simp
  have LN3 : Hid ((if pk = 1 then 46 :: Sc.dl pr else []).length ≤ 5) := by
    show _ ≤ _
    split
    · rename_i h
      have := NP.out
      rcases this with ⟨q, _⟩ | ⟨_, _, q⟩
      · omega
      · have := dl_len4 (u := pr) (by omega)
        simp only [List.length_cons]
        omega
    · simp
  have LN4 : Hid ((if pk ≠ 0 then 46 :: Dr.wn pk (pr : Int) else []).length ≤ 5) := by
    have := wn_short NP.out
    show _ ≤ _
    split
    · simp only [List.length_cons]
      omega
    · simp
  obtain ⟨S1, rfl, H1⟩ := hcut
  have sz1 := hid H1.out.1.size
  have ln1 : Hid ((37 :: Dr.ms fl).length ≤ 30) := by
    have a1 := LM.out
    have a2 := LN1.out
    have a3 := LN2.out
    have a4 := LN3.out
    have a5 := LN4.out
    show _ ≤ _
    simp only [List.length_cons]
    omega
  obtain ⟨⟨b0, b1, b2, b3, b4, b5, b6⟩, -⟩ := H1.out.2.2.cells
  go_upto_if 33 with fail
  go_cut [3] (fun vv wx => ∃ S, vv = .string S ∧ Hid (Str S (37 :: (Dr.ms fl ++ (if wk = 1 then Sc.dl wd else []))) ∧ Below w.heap.size w wx ∧ P7 wx w.heap.size (.string (strOfNums t)) (.int .u8 v) (.int .i64 fl) (.int .i64 wk) (.int .i64 (wd : Int)) (.int .i64 pk) (.int .i64 (pr : Int))))
  case first =>
    clear E WRB VB
    by_cases h : wk = 1
    · have h1 : (wk == 1) = true := by simpa using h
      have nb : wd ≤ 4096 := (by rcases NW.out with ⟨z, _⟩ | ⟨_, _, z⟩ <;> omega)
      have DX := dstr_dl wd nb
      have CA := hid (fun wx => run_string_add_sum (P := Tryd.prog) wx S1 (strOfNums (Sc.dl wd)) (by have a := DX.size; have b := sz1.out; have c := ln1.out; have d := dl_len4 nb; omega))
      have ST : Hid (Str (S1 ++ (strOfNums (Sc.dl wd))) (37 :: (Dr.ms fl ++ (if wk = 1 then Sc.dl wd else [])))) := by
        have q := dstr_app H1.out.1 DX
        rw [if_pos h]
        exact q
      have H9 := hid H1.out.2
      clear DX H1 h
      go_wp2_with fail
      refine (DC.out _ _ nb).mono ?_
      rintro e w9 ⟨rfl, hB⟩
      have F : Hid (Str (S1 ++ (strOfNums (Sc.dl wd))) (37 :: (Dr.ms fl ++ (if wk = 1 then Sc.dl wd else []))) ∧ Below w.heap.size w w9 ∧ P7 w9 w.heap.size (.string (strOfNums t)) (.int .u8 v) (.int .i64 fl) (.int .i64 wk) (.int .i64 (wd : Int)) (.int .i64 pk) (.int .i64 (pr : Int))) := ⟨ST.out, below_on H9.out.1 hB, H9.out.2.below hB⟩
      clear hB H9 ST b0 b1 b2 b3 b4 b5 b6
      have CA' := CA.out
      go_wp2_with fail
      go_meet
      exact ⟨_, rfl, F.out⟩
    · have h1 : (wk == 1) = false := by simpa using h
      have HH := hid H1.out.2
      have F : Hid (Str S1 (37 :: (Dr.ms fl ++ (if wk = 1 then Sc.dl wd else [])))) := by
        have q := H1.out.1
        rw [if_neg h, List.append_nil]
        exact q
      clear H1 h
      go_wp2_with fail
      go_meet
      exact ⟨S1, rfl, F.out, HH.out⟩
  case rest =>
  clear b0 b1 b2 b3 b4 b5 b6 H1 sz1 ln1
  obtain ⟨S2, rfl, H2⟩ := hcut
  have sz2 := hid H2.out.1.size
  have ln2 : Hid ((37 :: (Dr.ms fl ++ (if wk = 1 then Sc.dl wd else []))).length ≤ 30) := by
    have a1 := LM.out
    have a2 := LN1.out
    have a3 := LN2.out
    have a4 := LN3.out
    have a5 := LN4.out
    show _ ≤ _
    simp only [List.length_cons, List.length_append]
    omega
  obtain ⟨⟨b0, b1, b2, b3, b4, b5, b6⟩, -⟩ := H2.out.2.2.cells
  go_upto_if 41 with fail
  go_cut [3] (fun vv wx => ∃ S, vv = .string S ∧ Hid (Str S (37 :: (Dr.ms fl ++ Dr.wn wk (wd : Int))) ∧ Below w.heap.size w wx ∧ P7 wx w.heap.size (.string (strOfNums t)) (.int .u8 v) (.int .i64 fl) (.int .i64 wk) (.int .i64 (wd : Int)) (.int .i64 pk) (.int .i64 (pr : Int))))
  case first =>
    clear E WRB VB
    by_cases h : wk = 2
    · have h1 : (wk == 2) = true := by simpa using h
      have CA := hid (fun wx => run_string_add_sum (P := Tryd.prog) wx S2 (⟨#[42]⟩ : ByteArray) (by have b := sz2.out; have c := ln2.out; have e : (⟨#[42]⟩ : ByteArray).size = 1 := rfl; omega))
      have HH := hid H2.out.2
      have F : Hid (Str (S2 ++ (⟨#[42]⟩ : ByteArray)) (37 :: (Dr.ms fl ++ Dr.wn wk (wd : Int)))) := by
        have q := dstr_app H2.out.1 (show Str (⟨#[42]⟩ : ByteArray) [42] from rfl)
        rw [if_neg (by omega)] at q
        have e : Dr.wn wk (wd : Int) = [42] := by rw [Dr.wn, if_neg (by omega), if_pos h]
        rw [e]
        rw [List.append_nil] at q
        exact q
      have CA' := CA.out
      clear H2 h
      go_wp2_with fail
      go_meet
      exact ⟨_, rfl, F.out, HH.out⟩
    · have h1 : (wk == 2) = false := by simpa using h
      have HH := hid H2.out.2
      have F : Hid (Str S2 (37 :: (Dr.ms fl ++ Dr.wn wk (wd : Int)))) := by
        have q := H2.out.1
        have e : Dr.wn wk (wd : Int) = (if wk = 1 then Sc.dl wd else []) := by
          by_cases h3 : wk = 1
          · rw [if_pos h3, Dr.wn, if_pos h3]
            rfl
          · rw [Dr.wn, if_neg h3, if_neg h, if_neg h3]
        rw [e]
        exact q
      clear H2 h
      go_wp2_with fail
      go_meet
      exact ⟨S2, rfl, F.out, HH.out⟩
  case rest =>
  clear b0 b1 b2 b3 b4 b5 b6 H2 sz2 ln2
  obtain ⟨S3, rfl, H3⟩ := hcut
  have sz3 := hid H3.out.1.size
  have ln3 : Hid ((37 :: (Dr.ms fl ++ Dr.wn wk (wd : Int))).length ≤ 30) := by
    have a1 := LM.out
    have a2 := LN1.out
    have a3 := LN2.out
    have a4 := LN3.out
    have a5 := LN4.out
    show _ ≤ _
    simp only [List.length_cons, List.length_append]
    omega
  obtain ⟨⟨b0, b1, b2, b3, b4, b5, b6⟩, -⟩ := H3.out.2.2.cells
  go_upto_if 46 with fail
  go_cut [3] (fun vv wx => ∃ S, vv = .string S ∧ Hid (Str S (37 :: (Dr.ms fl ++ Dr.wn wk (wd : Int) ++ (if pk = 1 then 46 :: Sc.dl pr else []))) ∧ Below w.heap.size w wx ∧ P7 wx w.heap.size (.string (strOfNums t)) (.int .u8 v) (.int .i64 fl) (.int .i64 wk) (.int .i64 (wd : Int)) (.int .i64 pk) (.int .i64 (pr : Int))))
  case first =>
    clear E WRB VB
    by_cases h : pk = 1
    · have h1 : (pk == 1) = true := by simpa using h
      have nb : pr ≤ 4096 := (by rcases NP.out with ⟨z, _⟩ | ⟨_, _, z⟩ <;> omega)
      have DX := dstr_dl pr nb
      have CB := hid (fun wx => run_string_add_sum (P := Tryd.prog) wx (⟨#[46]⟩ : ByteArray) (strOfNums (Sc.dl pr)) (by have := DX.size; have := dl_len4 nb; have e : (⟨#[46]⟩ : ByteArray).size = 1 := rfl; omega))
      have DY : Str ((⟨#[46]⟩ : ByteArray) ++ strOfNums (Sc.dl pr)) (46 :: Sc.dl pr) := dstr_app (show Str (⟨#[46]⟩ : ByteArray) [46] from rfl) DX
      have CA := hid (fun wx => run_string_add_sum (P := Tryd.prog) wx S3 ((⟨#[46]⟩ : ByteArray) ++ strOfNums (Sc.dl pr)) (by have a := DY.size; have b := sz3.out; have c := ln3.out; have d := dl_len4 nb; simp only [List.length_cons] at a; omega))
      have ST : Hid (Str (S3 ++ ((⟨#[46]⟩ : ByteArray) ++ strOfNums (Sc.dl pr))) (37 :: (Dr.ms fl ++ Dr.wn wk (wd : Int) ++ (if pk = 1 then 46 :: Sc.dl pr else [])))) := by
        have q := dstr_app H3.out.1 DY
        rw [if_pos h]
        exact q
      have H9 := hid H3.out.2
      clear DX DY H3 h
      go_wp2_with fail
      refine (DC.out _ _ nb).mono ?_
      rintro e w9 ⟨rfl, hB⟩
      have F : Hid (Str (S3 ++ ((⟨#[46]⟩ : ByteArray) ++ strOfNums (Sc.dl pr))) (37 :: (Dr.ms fl ++ Dr.wn wk (wd : Int) ++ (if pk = 1 then 46 :: Sc.dl pr else []))) ∧ Below w.heap.size w w9 ∧ P7 w9 w.heap.size (.string (strOfNums t)) (.int .u8 v) (.int .i64 fl) (.int .i64 wk) (.int .i64 (wd : Int)) (.int .i64 pk) (.int .i64 (pr : Int))) := ⟨ST.out, below_on H9.out.1 hB, H9.out.2.below hB⟩
      clear hB H9 ST b0 b1 b2 b3 b4 b5 b6
      have CA' := CA.out
      have CB' := CB.out
      go_wp2_with fail
      go_meet
      exact ⟨_, rfl, F.out⟩
    · have h1 : (pk == 1) = false := by simpa using h
      have HH := hid H3.out.2
      have F : Hid (Str S3 (37 :: (Dr.ms fl ++ Dr.wn wk (wd : Int) ++ (if pk = 1 then 46 :: Sc.dl pr else [])))) := by
        have q := H3.out.1
        rw [if_neg h, List.append_nil]
        exact q
      clear H3 h
      go_wp2_with fail
      go_meet
      exact ⟨S3, rfl, F.out, HH.out⟩
  case rest =>
  clear b0 b1 b2 b3 b4 b5 b6 H3 sz3 ln3
  obtain ⟨S4, rfl, H4⟩ := hcut
  have sz4 := hid H4.out.1.size
  have ln4 : Hid ((37 :: (Dr.ms fl ++ Dr.wn wk (wd : Int) ++ (if pk = 1 then 46 :: Sc.dl pr else []))).length ≤ 30) := by
    have a1 := LM.out
    have a2 := LN1.out
    have a3 := LN2.out
    have a4 := LN3.out
    have a5 := LN4.out
    show _ ≤ _
    simp only [List.length_cons, List.length_append]
    omega
  obtain ⟨⟨b0, b1, b2, b3, b4, b5, b6⟩, -⟩ := H4.out.2.2.cells
  go_upto_if 55 with fail
  go_cut [3] (fun vv wx => ∃ S, vv = .string S ∧ Hid (Str S (37 :: (Dr.ms fl ++ Dr.wn wk (wd : Int) ++ (if pk ≠ 0 then 46 :: Dr.wn pk (pr : Int) else []))) ∧ Below w.heap.size w wx ∧ P7 wx w.heap.size (.string (strOfNums t)) (.int .u8 v) (.int .i64 fl) (.int .i64 wk) (.int .i64 (wd : Int)) (.int .i64 pk) (.int .i64 (pr : Int))))
  case first =>
    clear E WRB VB
    by_cases h : pk = 2
    · have h1 : (pk == 2) = true := by simpa using h
      have CA := hid (fun wx => run_string_add_sum (P := Tryd.prog) wx S4 (⟨#[46, 42]⟩ : ByteArray) (by have b := sz4.out; have c := ln4.out; have e : (⟨#[46, 42]⟩ : ByteArray).size = 2 := rfl; omega))
      have HH := hid H4.out.2
      have F : Hid (Str (S4 ++ (⟨#[46, 42]⟩ : ByteArray)) (37 :: (Dr.ms fl ++ Dr.wn wk (wd : Int) ++ (if pk ≠ 0 then 46 :: Dr.wn pk (pr : Int) else [])))) := by
        have q := dstr_app H4.out.1 (show Str (⟨#[46, 42]⟩ : ByteArray) [46, 42] from rfl)
        rw [if_neg (by omega)] at q
        have e : Dr.wn pk (pr : Int) = [42] := by rw [Dr.wn, if_neg (by omega), if_pos h]
        rw [if_pos (by omega), e]
        rw [List.append_nil] at q
        exact q
      have CA' := CA.out
      clear H4 h
      go_wp2_with fail
      go_meet
      exact ⟨_, rfl, F.out, HH.out⟩
    · have h1 : (pk == 2) = false := by simpa using h
      have HH := hid H4.out.2
      have F : Hid (Str S4 (37 :: (Dr.ms fl ++ Dr.wn wk (wd : Int) ++ (if pk ≠ 0 then 46 :: Dr.wn pk (pr : Int) else [])))) := by
        have q := H4.out.1
        have e : (if pk ≠ 0 then 46 :: Dr.wn pk (pr : Int) else []) = (if pk = 1 then 46 :: Sc.dl pr else []) := by
          by_cases h3 : pk = 1
          · rw [if_pos h3, if_pos (by omega), Dr.wn, if_pos h3]
            rfl
          · have h0 : pk = 0 := by rcases NP.out with ⟨z, _⟩ | ⟨z, _, _⟩ <;> omega
            rw [if_neg h3, if_neg (by omega)]
        rw [e]
        exact q
      clear H4 h
      go_wp2_with fail
      go_meet
      exact ⟨S4, rfl, F.out, HH.out⟩
  case rest =>
  clear b0 b1 b2 b3 b4 b5 b6 H4 sz4 ln4
  obtain ⟨S5, rfl, H5⟩ := hcut
  obtain ⟨⟨b0, b1, b2, b3, b4, b5, b6⟩, -⟩ := H5.out.2.2.cells
  have sz5 := H5.out.1.size
  have ln5 : (37 :: (Dr.ms fl ++ Dr.wn wk (wd : Int) ++ (if pk ≠ 0 then 46 :: Dr.wn pk (pr : Int) else []))).length ≤ 30 := by
    have a1 := LM.out
    have a2 := LN1.out
    have a5 := LN4.out
    simp only [List.length_cons, List.length_append]
    omega
  have X1 : Str (strOfNums [v]) [v] := Str.of_nums (fun z hz => by have := VB.out; simp only [List.mem_singleton] at hz; simp only at this; omega)
  have CA := hid (fun wx => run_string_add_sum (P := Tryd.prog) wx S5 (strOfNums [v]) (by have a := X1.size; rw [List.length_singleton] at a; omega))
  have OUT : Hid (S5 ++ strOfNums [v] = strOfNums out) := by
    have q := dstr_app H5.out.1 X1
    have e : out = 37 :: (Dr.ms fl ++ Dr.wn wk (wd : Int) ++ (if pk ≠ 0 then 46 :: Dr.wn pk (pr : Int) else [])) ++ [v] := by rw [E.out]; simp
    rw [← e] at q
    exact Str.inj q (Str.of_nums WRB.out)
  have CV := hid (conv1 v)
  have F := hid (fun (_ : Unit) => H5.out.2.1)
  clear sz5 ln5 X1 E WRB VB H5
  have CA' := CA.out
  have CV' := CV.out
  go_wp2_with fail
  go_ret
  exact ⟨by first | rfl | (rw [OUT.out]; rfl), below_on (F.out ()) (alloc_b _ _)⟩
end Go.Proofs.YtaadooippelcfaaDoor
