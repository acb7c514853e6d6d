/-
  Texts put together: NPlain, NForth, NForth2.
-/
import Derived.Test.YtdolimhddmddnaaDoorNPush
import Derived.Test.YtdolimhddmddnaaDoorNStr
import Derived.Deep.CutRange
import Derived.Deep.CutBlock
import Derived.OwnWalk
import Derived.Test.YtdolimhddmddnaaDoorNBack
namespace Go.Proofs.YtdolimhddmddnaaDoor
open Go.RowKit Go.Deep

def lc (x : Int) : Int := if 65 ≤ x ∧ x ≤ 90 then x - 65 + 97 else x
def strip48 (ys : List Int) : List Int := ys.dropWhile (fun y => decide (y = 48))
/-- The text without zeros at its head; one is left where there is nothing else. -/
def pl (ys : List Int) : List Int := if strip48 ys = [] ∧ ys ≠ [] then [48] else strip48 ys
/-- On the way. -/
def plAt (ys : List Int) (j : Nat) : List Int := if j = ys.length ∧ strip48 ys = [] ∧ ys ≠ [] then [48] else strip48 (ys.take j)

theorem lc_bd {x : Int} (h0 : 0 ≤ x) (h1 : x < 256) : 0 ≤ lc x ∧ lc x < 256 := by
  unfold lc
  split <;> omega

theorem strip48_snoc (ys : List Int) (c : Int) : strip48 (ys ++ [c]) = if strip48 ys = [] ∧ c = 48 then [] else strip48 ys ++ [c] := by
  unfold strip48
  induction ys with
  | nil => by_cases h : c = 48 <;> simp [h]
  | cons y ys ih =>
    by_cases h : y = 48
    · simpa [h] using ih
    · simp [h]

theorem take_snoc (ys : List Int) (j : Nat) (hj : j < ys.length) : ys.take (j + 1) = ys.take j ++ [ys.getD j 0] := by
  rw [List.take_add_one, List.getElem?_eq_getElem hj]
  simp [List.getD, hj]

theorem plAt_len (ys : List Int) (j : Nat) (hj : j < ys.length) : (plAt ys j).length ≤ j := by
  unfold plAt
  rw [if_neg (by omega)]
  have := (List.dropWhile_sublist (fun y : Int => decide (y = 48)) (l := ys.take j)).length_le
  unfold strip48
  simp at this
  omega

theorem strip48_app : ∀ (A C : List Int), strip48 A ≠ [] → strip48 (A ++ C) ≠ []
  | [], C, h => absurd rfl h
  | a :: A, C, h => by
    by_cases c : a = 48
    · have ih := strip48_app A C (by simpa [strip48, c] using h)
      simpa [strip48, c] using ih
    · simp [strip48, c]

theorem strip48_more {ys : List Int} {j : Nat} (h : strip48 (ys.take j) ≠ []) : strip48 ys ≠ [] := by
  have := strip48_app (ys.take j) (ys.drop j) h
  rwa [List.take_append_drop] at this

/-- A byte is put behind, or not. -/
theorem plAt_step (ys : List Int) (j : Nat) (hj : j < ys.length) : plAt ys (j + 1) = if ys.getD j 0 ≠ 48 ∨ 0 < (plAt ys j).length ∨ j + 1 = ys.length then plAt ys j ++ [ys.getD j 0] else plAt ys j := by
  have e0 : plAt ys j = strip48 (ys.take j) := by unfold plAt; rw [if_neg (by omega)]
  have e1 := strip48_snoc (ys.take j) (ys.getD j 0)
  rw [← take_snoc ys j hj] at e1
  have hne : ys ≠ [] := fun c => by rw [c] at hj; simp at hj
  rw [e0]
  by_cases h1 : ys.getD j 0 ≠ 48
  · have e2 : strip48 (ys.take (j + 1)) = strip48 (ys.take j) ++ [ys.getD j 0] := by rw [e1, if_neg (fun c => h1 c.2)]
    have e3 : strip48 ys ≠ [] := strip48_more (j := j + 1) (by rw [e2]; simp)
    rw [if_pos (.inl h1)]
    unfold plAt
    rw [if_neg (fun c => e3 c.2.1), e2]
  · have h1' : ys.getD j 0 = 48 := Classical.not_not.1 h1
    by_cases h2 : strip48 (ys.take j) = []
    · have e2 : strip48 (ys.take (j + 1)) = [] := by rw [e1, if_pos ⟨h2, h1'⟩]
      by_cases h3 : j + 1 = ys.length
      · rw [if_pos (.inr (.inr h3)), h2, h1']
        unfold plAt
        rw [if_pos ⟨h3, by rw [← e2, h3, List.take_length], hne⟩]
        rfl
      · rw [if_neg (by rw [h2]; simp; exact ⟨by simpa using h1', h3⟩), h2]
        unfold plAt
        rw [if_neg (fun c => h3 c.1), e2]
    · have e2 : strip48 (ys.take (j + 1)) = strip48 (ys.take j) ++ [ys.getD j 0] := by rw [e1, if_neg (fun c => h2 c.1)]
      have e3 : strip48 ys ≠ [] := strip48_more h2
      rw [if_pos (.inr (.inl (List.length_pos_iff.2 h2)))]
      unfold plAt
      rw [if_neg (fun c => e3 c.2.1), e2]

theorem plAt_end (ys : List Int) : plAt ys ys.length = pl ys := by
  unfold plAt pl
  rw [List.take_length]
  simp

theorem pl_ne {ys : List Int} (h : ys ≠ []) : pl ys ≠ [] := by
  unfold pl
  split
  · simp
  · rename_i c
    exact fun k => c ⟨k, h⟩

theorem pl_mem {ys : List Int} {y : Int} (h : y ∈ pl ys) : y = 48 ∨ y ∈ ys := by
  unfold pl at h
  split at h
  · left; simpa using h
  · right; exact (List.dropWhile_sublist _).subset h

set_option maxRecDepth 100000 in
set_option maxHeartbeats 4000000 in
theorem plain_any (s : ByteArray) (xs : List Int) (w : World) (hs : Str s xs) (hn : xs.length ≤ 140737488351232) (h0 : xs ≠ []) :
    Calls Tryd.prog 14 #[.string s] w fun e w' => (∃ s', e = .returned (.string s') ∧ Str s' (pl (xs.map lc))) ∧ Below w.heap.size w w' := by
  obtain ⟨n, HN⟩ : ∃ n, Hid (xs.length = n) := ⟨_, rfl⟩
  have hsz : s.size = n := by rw [hs.size, HN.out]
  have hnb : (n : Int) ≤ 140737488351232 := by have := HN.out; omega
  obtain ⟨ys, hys⟩ : ∃ ys, xs.map lc = ys := ⟨_, rfl⟩
  have hyl : Hid (ys.length = n) := by show _ = _; rw [← hys, List.length_map]; exact HN.out
  have hyn : ys ≠ [] := by rw [← hys]; simpa using h0
  have hyb : Hid (∀ y ∈ ys, 0 ≤ y ∧ y < 256) := fun y hy => by
    rw [← hys] at hy
    obtain ⟨x, hx, rfl⟩ := List.mem_map.1 hy
    exact lc_bd (hs.mem hx).1 (hs.mem hx).2
  have hya : Hid (∀ i, i < n → lc (xs.getD i 0) = ys.getD i 0) := fun i hi => by rw [← hys]; simp [List.getD, show i < xs.length by have := HN.out; omega]
  rw [hys]
  have HS := hid hs
  have D0 : Hid (Below w.heap.size w (w.alloc (.cells #[] 5))) := (Below.refl _ _).alloc (Nat.le_refl _) _
  have R0 : Hid (Row8 w.heap.size (w.alloc (.cells #[] 5)) (.slice (some ⟨w.heap.size, 0, none⟩) 0 0) (plAt ys 0)) := by
    have e : plAt ys 0 = [] := by
      unfold plAt
      rw [if_neg (fun c => hyn (List.eq_nil_of_length_eq_zero c.1.symm))]
      rfl
    rw [e]
    refine ⟨by simp, .inr ⟨w.heap.size, 0, #[], rfl, Nat.le_refl _, ?_, Nat.le_refl _, by simp only [maxLen]; omega, rfl, rfl⟩⟩
    show (w.heap.push _)[w.heap.size]? = _
    rw [Array.getElem?_push, if_pos rfl]
  have L0 : Hid ((plAt ys 0).length = 0) := by
    have := R0.out.shape
    obtain ⟨pm, cp, h⟩ := this
    simp only [Value.slice.injEq] at h
    exact h.2.1.symm
  have HYN := hid hyn
  clear hs hn h0 hys hyn
  go_enter Tryd.func14, Tryd.ntmps14
  go_wp2_with fail
  go_loopw [3, 4, 5] (fun b i _ wr => ∃ (pm : Option Addr) (l cp j : Nat), b = .slice pm l cp ∧ i = .int .i64 (j : Int) ∧ j ≤ n ∧ Hid (Row8 w.heap.size wr (.slice pm l cp) (plAt ys j) ∧ (plAt ys j).length = l ∧ Below w.heap.size w wr)) (fun _ i _ _ => n - (intOf i).toNat)
  case atStart => exact ⟨_, 0, 0, 0, rfl, rfl, Nat.zero_le _, R0.out, L0.out, D0.out⟩
  case round =>
    clear R0 L0 D0
    obtain ⟨pm, l, cp, j, rfl, rfl, hj, I⟩ := hrel
    by_cases hlt : j < n
    · have hji : (j : Int) < (n : Int) := by omega
      obtain ⟨x, X⟩ : ∃ x, Hid (xs.getD j 0 = x) := ⟨_, rfl⟩
      have hx : ∀ h : j < s.size, ((s[j]'h).toNat : Int) = x := fun h => by rw [HS.out.at j h, X.out]
      have hxb := HS.out.atb j
      rw [X.out] at hxb
      obtain ⟨hx0, hx1⟩ := hxb
      have EL : Hid (lc x = if 65 ≤ x ∧ x ≤ 90 then x - 65 + 97 else x) := rfl
      rcases (show (65 ≤ x ∧ x ≤ 90) ∨ (65 ≤ x ∧ 90 < x) ∨ x < 65 by omega) with ⟨a1, a2⟩ | ⟨a1, a2⟩ | a1
      · rw [if_pos ⟨a1, a2⟩] at EL
        have hne : ((x - 65 + 97 : Int) == 48) = false := by rw [beq_eq_false_iff_ne]; omega
        have yc : ys.getD j 0 = x - 65 + 97 := by rw [← hya.out j hlt, X.out, EL.out]
        have st := plAt_step ys j (by have := hyl.out; omega)
        rw [yc, if_pos (by rw [I.out.2.1]; have := hyl.out; omega)] at st
        obtain ⟨mv', w2, ap, r2, z2, b2, _⟩ := I.out.1.push (x - 65 + 97) (by have := plAt_len ys j (by have := hyl.out; omega); omega) I.out.2.2.size
        rw [← st] at r2
        obtain ⟨pm', cp', hmv⟩ := r2.shape
        obtain ⟨l', hl'⟩ : ∃ l', (plAt ys (j + 1)).length = l' := ⟨_, rfl⟩
        rw [hl'] at hmv
        subst hmv
        have AP := hid ap
        have F : Hid (Row8 w.heap.size w2 (.slice pm' l' cp') (plAt ys (j + 1)) ∧ (plAt ys (j + 1)).length = l' ∧ Below w.heap.size w w2) := ⟨r2, hl', I.out.2.2.trans b2⟩
        clear yc st ap r2 z2 b2 hl' I EL
        go_wp2_with (at_builtin; refine wpList_append_b rfl _ _ rfl AP.out (by rfl) (by rfl) ?_; clear AP)
        go_roundw
        case rel => exact ⟨pm', l', cp', j + 1, rfl, by go_num, by omega, F.out⟩
        case measure => simp [intOf]; omega
      · rw [if_neg (by omega)] at EL
        have hne : (x == 48) = false := by rw [beq_eq_false_iff_ne]; omega
        have yc : ys.getD j 0 = x := by rw [← hya.out j hlt, X.out, EL.out]
        have st := plAt_step ys j (by have := hyl.out; omega)
        rw [yc, if_pos (by rw [I.out.2.1]; have := hyl.out; omega)] at st
        obtain ⟨mv', w2, ap, r2, z2, b2, _⟩ := I.out.1.push (x) (by have := plAt_len ys j (by have := hyl.out; omega); omega) I.out.2.2.size
        rw [← st] at r2
        obtain ⟨pm', cp', hmv⟩ := r2.shape
        obtain ⟨l', hl'⟩ : ∃ l', (plAt ys (j + 1)).length = l' := ⟨_, rfl⟩
        rw [hl'] at hmv
        subst hmv
        have AP := hid ap
        have F : Hid (Row8 w.heap.size w2 (.slice pm' l' cp') (plAt ys (j + 1)) ∧ (plAt ys (j + 1)).length = l' ∧ Below w.heap.size w w2) := ⟨r2, hl', I.out.2.2.trans b2⟩
        clear yc st ap r2 z2 b2 hl' I EL
        go_wp2_with (at_builtin; refine wpList_append_b rfl _ _ rfl AP.out (by rfl) (by rfl) ?_; clear AP)
        go_roundw
        case rel => exact ⟨pm', l', cp', j + 1, rfl, by go_num, by omega, F.out⟩
        case measure => simp [intOf]; omega
      · rw [if_neg (by omega)] at EL
        by_cases a3 : x = 48
        · by_cases a4 : 0 < l
          · have a4i : (0 : Int) < (l : Int) := by omega
            subst a3
            have yc : ys.getD j 0 = 48 := by rw [← hya.out j hlt, X.out, EL.out]
            have st := plAt_step ys j (by have := hyl.out; omega)
            rw [yc, if_pos (by rw [I.out.2.1]; have := hyl.out; omega)] at st
            obtain ⟨mv', w2, ap, r2, z2, b2, _⟩ := I.out.1.push (48) (by have := plAt_len ys j (by have := hyl.out; omega); omega) I.out.2.2.size
            rw [← st] at r2
            obtain ⟨pm', cp', hmv⟩ := r2.shape
            obtain ⟨l', hl'⟩ : ∃ l', (plAt ys (j + 1)).length = l' := ⟨_, rfl⟩
            rw [hl'] at hmv
            subst hmv
            have AP := hid ap
            have F : Hid (Row8 w.heap.size w2 (.slice pm' l' cp') (plAt ys (j + 1)) ∧ (plAt ys (j + 1)).length = l' ∧ Below w.heap.size w w2) := ⟨r2, hl', I.out.2.2.trans b2⟩
            clear yc st ap r2 z2 b2 hl' I EL
            go_wp2_with (at_builtin; refine wpList_append_b rfl _ _ rfl AP.out (by rfl) (by rfl) ?_; clear AP)
            go_roundw
            case rel => exact ⟨pm', l', cp', j + 1, rfl, by go_num, by omega, F.out⟩
            case measure => simp [intOf]; omega
          · obtain rfl : l = 0 := by omega
            by_cases a5 : j + 1 = n
            · have a5i : ((j : Int) == (n : Int) - 1) = true := by rw [beq_iff_eq]; omega
              subst a3
              have yc : ys.getD j 0 = 48 := by rw [← hya.out j hlt, X.out, EL.out]
              have st := plAt_step ys j (by have := hyl.out; omega)
              rw [yc, if_pos (by rw [I.out.2.1]; have := hyl.out; omega)] at st
              obtain ⟨mv', w2, ap, r2, z2, b2, _⟩ := I.out.1.push (48) (by have := plAt_len ys j (by have := hyl.out; omega); omega) I.out.2.2.size
              rw [← st] at r2
              obtain ⟨pm', cp', hmv⟩ := r2.shape
              obtain ⟨l', hl'⟩ : ∃ l', (plAt ys (j + 1)).length = l' := ⟨_, rfl⟩
              rw [hl'] at hmv
              subst hmv
              have AP := hid ap
              have F : Hid (Row8 w.heap.size w2 (.slice pm' l' cp') (plAt ys (j + 1)) ∧ (plAt ys (j + 1)).length = l' ∧ Below w.heap.size w w2) := ⟨r2, hl', I.out.2.2.trans b2⟩
              clear yc st ap r2 z2 b2 hl' I EL
              go_wp2_with (at_builtin; refine wpList_append_b rfl _ _ rfl AP.out (by rfl) (by rfl) ?_; clear AP)
              go_roundw
              case rel => exact ⟨pm', l', cp', j + 1, rfl, by go_num, by omega, F.out⟩
              case measure => simp [intOf]; omega
            · have a5i : ((j : Int) == (n : Int) - 1) = false := by rw [beq_eq_false_iff_ne]; omega
              subst a3
              have yc : ys.getD j 0 = 48 := by rw [← hya.out j hlt, X.out, EL.out]
              have st := plAt_step ys j (by have := hyl.out; omega)
              rw [yc, if_neg (by rw [I.out.2.1]; have := hyl.out; omega)] at st
              have F : Hid (Row8 w.heap.size wr (.slice pm 0 cp) (plAt ys (j + 1)) ∧ (plAt ys (j + 1)).length = 0 ∧ Below w.heap.size w wr) := by rw [st]; exact I.out
              clear yc st I EL
              go_wp2_with fail
              go_roundw
              case rel => exact ⟨pm, 0, cp, j + 1, rfl, by go_num, by omega, F.out⟩
              case measure => simp [intOf]; omega
        · have hne : (x == 48) = false := by rw [beq_eq_false_iff_ne]; exact a3
          have yc : ys.getD j 0 = x := by rw [← hya.out j hlt, X.out, EL.out]
          have st := plAt_step ys j (by have := hyl.out; omega)
          rw [yc, if_pos (by rw [I.out.2.1]; have := hyl.out; omega)] at st
          obtain ⟨mv', w2, ap, r2, z2, b2, _⟩ := I.out.1.push (x) (by have := plAt_len ys j (by have := hyl.out; omega); omega) I.out.2.2.size
          rw [← st] at r2
          obtain ⟨pm', cp', hmv⟩ := r2.shape
          obtain ⟨l', hl'⟩ : ∃ l', (plAt ys (j + 1)).length = l' := ⟨_, rfl⟩
          rw [hl'] at hmv
          subst hmv
          have AP := hid ap
          have F : Hid (Row8 w.heap.size w2 (.slice pm' l' cp') (plAt ys (j + 1)) ∧ (plAt ys (j + 1)).length = l' ∧ Below w.heap.size w w2) := ⟨r2, hl', I.out.2.2.trans b2⟩
          clear yc st ap r2 z2 b2 hl' I EL
          go_wp2_with (at_builtin; refine wpList_append_b rfl _ _ rfl AP.out (by rfl) (by rfl) ?_; clear AP)
          go_roundw
          case rel => exact ⟨pm', l', cp', j + 1, rfl, by go_num, by omega, F.out⟩
          case measure => simp [intOf]; omega
    · obtain rfl : j = n := by omega
      have e1 : plAt ys j = pl ys := by rw [← hyl.out]; exact plAt_end ys
      obtain ⟨r, r2, d⟩ := I.out
      rw [e1] at r r2
      obtain ⟨g, cp', hmv, cells⟩ := r.cells (pl_ne HYN.out)
      rw [r2] at hmv cells
      simp only [Value.slice.injEq] at hmv
      obtain ⟨rfl, _, rfl⟩ := hmv
      have CV := run_convert_bytes_arg (P := Tryd.prog) wr 35 5 Tryd.underlying35 Tryd.underlying5 g 0 l cp (pl ys) r2 cells 9 Tryd.underlying9
      have FS : Hid (Str (strOfNums (pl ys)) (pl ys)) := Str.of_nums (fun y hy => by
        rcases pl_mem hy with h | h
        · omega
        · exact hyb.out y h)
      have D := hid d
      clear I r r2 d cells e1
      go_wp2_with fail
      go_ret
      exact ⟨⟨_, rfl, FS.out⟩, D.out⟩
end Go.Proofs.YtdolimhddmddnaaDoor

namespace Go.Proofs.YtdolimhddmddnaaDoor
open Go.RowKit Go.Deep

def vv (x : Int) : Int := if 48 ≤ x ∧ x ≤ 57 then x - 48 else if 97 ≤ x ∧ x ≤ 122 then x - 97 + 10 else if 65 ≤ x ∧ x ≤ 90 then x - 65 + 10 else 99

theorem vv_wv (x B : Int) (h36 : B ≤ 36) : (vv x < B ↔ wv x < B) ∧ 0 ≤ vv x ∧ vv x ≤ 99 := by
  unfold vv wv
  split
  · omega
  · split
    · omega
    · split <;> omega

theorem retV64 {a b : Int} (h : a = b) : Ending.returned (.int .i64 a) = .returned (.int .i64 b) := by rw [h]

set_option maxRecDepth 100000 in
theorem value_any (x : Int) (w : World) (h0 : 0 ≤ x) (h1 : x < 256) :
    Calls Tryd.prog 13 #[.int .u8 x] w fun e w' => e = .returned (.int .i64 (vv x)) ∧ w' = w := by
  by_cases a1 : 48 ≤ x ∧ x ≤ 57
  · have E : Hid (x - 48 = vv x) := by show _ = _; rw [vv, if_pos a1]
    obtain ⟨a1, a2⟩ := a1
    go_enter Tryd.func13, Tryd.ntmps13
    go_wp2
    go_ret
    exact ⟨retV64 E.out, rfl⟩
  by_cases a2 : 97 ≤ x ∧ x ≤ 122
  · have E : Hid (x - 97 + 10 = vv x) := by show _ = _; rw [vv, if_neg a1, if_pos a2]
    obtain ⟨a3, a4⟩ := a2
    clear a1
    go_enter Tryd.func13, Tryd.ntmps13
    go_wp2
    go_ret
    exact ⟨retV64 E.out, rfl⟩
  by_cases a3 : 65 ≤ x ∧ x ≤ 90
  · have E : Hid (x - 65 + 10 = vv x) := by show _ = _; rw [vv, if_neg a1, if_neg a2, if_pos a3]
    obtain ⟨a5, a6⟩ := a3
    clear a1 a2
    go_enter Tryd.func13, Tryd.ntmps13
    go_wp2
    go_ret
    exact ⟨retV64 E.out, rfl⟩
  · have E : Hid (99 = vv x) := by show _ = _; rw [vv, if_neg a1, if_neg a2, if_neg a3]
    rcases (show x < 48 ∨ (57 < x ∧ x < 65) ∨ (90 < x ∧ x < 97) ∨ 122 < x by omega) with h | ⟨h, k⟩ | ⟨h, k⟩ | h <;> clear a1 a2 a3
    · go_enter Tryd.func13, Tryd.ntmps13
      go_wp2
      go_ret
      exact ⟨retV64 E.out, rfl⟩
    · go_enter Tryd.func13, Tryd.ntmps13
      go_wp2
      go_ret
      exact ⟨retV64 E.out, rfl⟩
    · go_enter Tryd.func13, Tryd.ntmps13
      go_wp2
      go_ret
      exact ⟨retV64 E.out, rfl⟩
    · go_enter Tryd.func13, Tryd.ntmps13
      go_wp2
      go_ret
      exact ⟨retV64 E.out, rfl⟩

set_option maxRecDepth 100000 in
theorem byte_facts : ∀ k : Fin 256, wv (k.val : Int) < 36 → smallL.getD (wv (k.val : Int)).toNat 0 = lc (k.val : Int) ∧ (lc (k.val : Int) = 48 ↔ wv (k.val : Int) = 0) := by decide

theorem byte_is {x : Int} (h0 : 0 ≤ x) (h1 : x < 256) (h : wv x < 36) : smallL.getD (wv x).toNat 0 = lc x ∧ (lc x = 48 ↔ wv x = 0) := by
  have := byte_facts ⟨x.toNat, by omega⟩
  simp only [show ((x.toNat : Nat) : Int) = x by omega] at this
  exact this h

/-- The digits without zeros at the head, written in small letters, are the text so. -/
theorem lets_strip : ∀ (xs : List Int), (∀ x ∈ xs, (0 ≤ x ∧ x < 256) ∧ wv x < 36) → lets smallL (Dn.strip (xs.map wv)) = strip48 (xs.map lc)
  | [], _ => rfl
  | x :: xs, h => by
    have hx := h x (by simp)
    have k := byte_is hx.1.1 hx.1.2 hx.2
    have ih := lets_strip xs (fun y hy => h y (by simp [hy]))
    by_cases c : wv x = 0
    · have c2 : lc x = 48 := k.2.2 c
      simp only [List.map_cons, Dn.strip, strip48, List.dropWhile_cons, c, c2, decide_true, if_true]
      exact ih
    · have c2 : lc x ≠ 48 := fun e => c (k.2.1 e)
      simp only [List.map_cons, Dn.strip, strip48, List.dropWhile_cons, decide_eq_false c, decide_eq_false c2]
      simp only [lets, Bool.false_eq_true, if_false, List.map_cons, k.1, List.map_map, List.cons.injEq, true_and]
      apply List.map_congr_left
      intro y hy
      have hy' := h y (by simp [hy])
      exact (byte_is hy'.1.1 hy'.1.2 hy'.2).1

/-- What is read is written again. -/
theorem plain_is {xs : List Int} {B : Int} {L : Nat} (h2 : 2 ≤ B) (h36 : B ≤ 36) (hb : ∀ x ∈ xs, 0 ≤ x ∧ x < 256) (hd : ∀ i, i < xs.length → wv (xs.getD i 0) < B) (hL : Dn.tv B 0 (xs.map wv) < B ^ L) (hv : Dn.tv B 0 (xs.map wv) ≠ 0) :
    pl (xs.map lc) = lets smallL (Dn.strip (Dn.dg B L (Dn.tv B 0 (xs.map wv)))) ∧ pl (xs.map lc) = lets smallL (Dn.strip (xs.map wv)) := by
  have hB : 0 < B := by omega
  have dm := digs_mem hd
  have h0 := Dn.tv_nonneg (Int.le_of_lt hB) 0 (xs.map wv) (Int.le_refl _) (fun d h => (dm d h).1)
  have e1 : Dn.strip (Dn.dg B L (Dn.tv B 0 (xs.map wv))) = Dn.strip (xs.map wv) := by
    rw [Dn.strip_dg hB h0 hL (Dn.tv_lt hB _ dm), Dn.dg_tv hB _ _ rfl dm]
  have e2 : lets smallL (Dn.strip (xs.map wv)) = strip48 (xs.map lc) := lets_strip xs (fun x hx => ⟨hb x hx, by
    have := (dm (wv x) (List.mem_map.2 ⟨x, hx, rfl⟩)).2
    omega⟩)
  have e3 : Dn.strip (xs.map wv) ≠ [] := Dn.strip_ne hv
  have e4 : strip48 (xs.map lc) ≠ [] := by
    rw [← e2]
    intro c
    exact e3 (by simpa [lets] using c)
  have e5 : pl (xs.map lc) = strip48 (xs.map lc) := by unfold pl; rw [if_neg (fun c => e4 c.1)]
  exact ⟨by rw [e5, e1, e2], by rw [e5, e2]⟩

theorem plain_zero {xs : List Int} {B : Int} (h2 : 2 ≤ B) (h36 : B ≤ 36) (hb : ∀ x ∈ xs, 0 ≤ x ∧ x < 256) (hd : ∀ i, i < xs.length → wv (xs.getD i 0) < B) (h0 : xs ≠ []) (hv : Dn.tv B 0 (xs.map wv) = 0) : pl (xs.map lc) = [48] := by
  have hB : 0 < B := by omega
  have dm := digs_mem hd
  have e1 := Dn.dg_tv hB _ _ rfl dm
  rw [hv, Dn.dg_zero hB] at e1
  have e2 : lets smallL (Dn.strip (xs.map wv)) = strip48 (xs.map lc) := lets_strip xs (fun x hx => ⟨hb x hx, by
    have := (dm (wv x) (List.mem_map.2 ⟨x, hx, rfl⟩)).2
    omega⟩)
  have e3 := Dn.strip_zeros (xs.map wv).length []
  rw [List.append_nil, e1] at e3
  rw [e3] at e2
  unfold pl
  rw [if_pos ⟨e2.symm, by simpa using h0⟩]

theorem plain_long {xs : List Int} {B : Int} (h2 : 2 ≤ B) (h36 : B ≤ 36) (hb : ∀ x ∈ xs, 0 ≤ x ∧ x < 256) (hd : ∀ i, i < xs.length → wv (xs.getD i 0) < B) (hv : Nm.pw 4096 ≤ Dn.tv B 0 (xs.map wv)) : 50000 < (pl (xs.map lc)).length := by
  have hB : 0 < B := by omega
  have dm := digs_mem hd
  have hp := Nm.pw_pos 4096
  have k := (plain_is h2 h36 hb hd (Dn.tv_lt hB _ dm) (by omega)).2
  rw [k]
  have e1 : (lets smallL (Dn.strip (xs.map wv))).length = (Dn.strip (xs.map wv)).length := by simp [lets]
  rw [e1]
  have e2 := Dn.tv_lt hB (Dn.strip (xs.map wv)) (fun d h => dm d (Dn.strip_mem h))
  rw [Dn.tv_strip] at e2
  rcases Nat.lt_or_ge 50000 (Dn.strip (xs.map wv)).length with c | c
  · exact c
  · exfalso
    have f1 := Pn.pow_base (a := B) (A := 36) (by omega) h36 (Dn.strip (xs.map wv)).length
    have f2 := Pn.pow_mono (show (1 : Int) ≤ 36 by omega) (show (Dn.strip (xs.map wv)).length ≤ 29 * 1725 by omega)
    have f3 : (36 : Int) ^ (29 * 1725) = (36 ^ 29) ^ 1725 := Int.pow_mul
    have f4 := Pn.pow_base (a := 36 ^ 29) (A := 2 ^ 150) (by decide) (by decide) 1725
    have f5 : ((2 : Int) ^ 150) ^ 1725 = 2 ^ 258750 := by rw [← Int.pow_mul]
    have f6 := Nm.two_mono (show 258750 ≤ 262144 by omega)
    rw [Nm.pw_two 4096, show 64 * 4096 = 262144 from rfl] at hv
    rw [f3] at f2
    rw [f5] at f4
    generalize (2 : Int) ^ 262144 = a at *
    generalize (2 : Int) ^ 258750 = b at *
    generalize ((36 : Int) ^ 29) ^ 1725 = c at *
    generalize B ^ (Dn.strip (xs.map wv)).length = d at *
    generalize (36 : Int) ^ (Dn.strip (xs.map wv)).length = e at *
    omega
end Go.Proofs.YtdolimhddmddnaaDoor

namespace Go.Proofs.YtdolimhddmddnaaDoor
open Go.RowKit Go.Deep

theorem Str.bytes {s : ByteArray} {xs : List Int} (h : Str s xs) : ∀ x ∈ xs, 0 ≤ x ∧ x < 256 := fun _ hx => h.mem hx

set_option maxRecDepth 100000 in
set_option maxHeartbeats 4000000 in
theorem forth_any (s : ByteArray) (xs : List Int) (B : Int) (w : World) (hs : Str s xs) (hn : xs.length ≤ 140737488351232) (hB0 : -9223372036854775808 ≤ B) (hB1 : B ≤ 9223372036854775807) :
    Calls Tryd.prog 4 #[.string s, .int .i64 B] w fun e w' => e = .returned (.bool true) ∧ Below w.heap.size w w' := by
  have AW := hid (awake3_any w)
  have HS := hid hs
  have HN := hid hn
  obtain ⟨n, HNN⟩ : ∃ n, Hid (xs.length = n) := ⟨_, rfl⟩
  have hsz : s.size = n := by rw [hs.size, HNN.out]
  have hnb : (n : Int) ≤ 140737488351232 := by have := HNN.out; omega
  have VA : Hid (∀ (j : Nat) (W : World), Calls Tryd.prog 13 #[.int .u8 (xs.getD j 0)] W fun e w' => e = .returned (.int .i64 (vv (xs.getD j 0))) ∧ w' = W) := fun j W => value_any _ W (hs.atb j).1 (hs.atb j).2
  clear hs hn
  go_enter Tryd.func4, Tryd.ntmps4
  go_wp2_with fail
  refine AW.out.mono ?_
  rintro e w1 ⟨rfl, d1⟩
  have D1 := hid d1
  have FB := hid (fromBase_any s xs B w1 HS.out (by have := HN.out; omega) hB0 hB1)
  clear d1 AW
  go_wp2_with fail
  refine FB.out.mono ?_
  rintro e w2 ⟨r, os, at_, E, rfl, hi, d2⟩
  have D2 := hid (chain D1.out d2 (Nat.le_refl _))
  clear d2 FB D1
  have NE : xs ≠ [] → s.toList ≠ [] := by
    intro h3 c
    apply h3
    rw [ByteArray.toList_eq] at c
    rw [← HS.out, c]
    rfl
  cases hi with
  | base hB =>
    clear NE
    rcases hB with hB | hB
    · go_wp2_with fail
      go_ret
      exact ⟨rfl, D2.out⟩
    · go_wp2_with fail
      go_ret
      exact ⟨rfl, D2.out⟩
  | empty h2 h36 hx =>
    obtain rfl : s = ⟨#[]⟩ := HS.out.inj (by rw [hx]; rfl)
    clear NE hx
    go_wp2_with fail
    go_ret
    exact ⟨rfl, D2.out⟩
  | digit t h2 h36 ht hl hd =>
    have e1 := NE (fun c => by rw [c] at ht; simp at ht)
    have e2 : (s.toList == []) = false := by rw [beq_eq_false_iff_ne]; exact e1
    have e3 : s.toList.isEmpty = false := by rw [List.isEmpty_eq_false_iff]; exact e1
    have htn : (t : Int) < (n : Int) := by have := HNN.out; omega
    have HL := hid hl
    have HD := hid hd
    clear NE ht hl hd
    go_wp2_with fail
    go_loop [9, 10] (fun i _ => ∃ j : Nat, i = .int .i64 (j : Int) ∧ j ≤ t) (fun i _ => n - (intOf i).toNat)
    case atStart => exact ⟨0, rfl, Nat.zero_le _⟩
    case round =>
      obtain ⟨j, rfl, hj⟩ := hrel
      have hji : (j : Int) < (n : Int) := by omega
      have hjn : j < n := by omega
      obtain ⟨x, X⟩ : ∃ x, Hid (xs.getD j 0 = x) := ⟨_, rfl⟩
      have hx : ∀ h : j < s.size, ((s[j]'h).toNat : Int) = x := fun h => by rw [HS.out.at j h, X.out]
      obtain ⟨v, V⟩ : ∃ v, Hid (vv x = v) := ⟨_, rfl⟩
      have VL := hid (VA.out j w2)
      rw [X.out, V.out] at VL
      by_cases hlt : j < t
      · have hv : v < B := by
          have := (vv_wv x B h36).1.2 (by rw [← X.out]; exact HL.out j hlt)
          rw [V.out] at this
          exact this
        go_wp2_with fail
        refine VL.out.mono ?_
        rintro e w' ⟨rfl, rfl⟩
        clear VL
        go_wp2_with fail
        go_round
        case rel => exact ⟨j + 1, by go_num, by omega⟩
        case measure => simp [intOf]; omega
      · obtain rfl : j = t := by omega
        have hv : ¬ v < B := fun c => by
          have := (vv_wv x B h36).1.1 (by rw [V.out]; exact c)
          have h := HD.out
          rw [X.out] at h
          omega
        have hv2 : B ≤ v := by omega
        clear hv
        go_wp2_with fail
        refine VL.out.mono ?_
        rintro e w' ⟨rfl, rfl⟩
        clear VL
        go_wp2_with fail
        go_ret
        exact ⟨rfl, D2.out⟩
  | big h2 h36 hd hx hv =>
    have e1 := NE hx
    have e2 : (s.toList == []) = false := by rw [beq_eq_false_iff_ne]; exact e1
    have e3 : s.toList.isEmpty = false := by rw [List.isEmpty_eq_false_iff]; exact e1
    have PL := hid (plain_any s xs w2 HS.out HN.out hx)
    have LO := hid (plain_long h2 h36 HS.out.bytes hd hv)
    have HD := hid hd
    clear NE hd hx hv
    go_wp2_with fail
    go_loop [9, 10] (fun i _ => ∃ j : Nat, i = .int .i64 (j : Int) ∧ j ≤ n) (fun i _ => n - (intOf i).toNat)
    case atStart => exact ⟨0, rfl, Nat.zero_le _⟩
    case round =>
      obtain ⟨j, rfl, hj⟩ := hrel
      by_cases hlt : j < n
      · have hji : (j : Int) < (n : Int) := by omega
        obtain ⟨x, X⟩ : ∃ x, Hid (xs.getD j 0 = x) := ⟨_, rfl⟩
        have hx : ∀ h : j < s.size, ((s[j]'h).toNat : Int) = x := fun h => by rw [HS.out.at j h, X.out]
        obtain ⟨v, V⟩ : ∃ v, Hid (vv x = v) := ⟨_, rfl⟩
        have VL := hid (VA.out j w2)
        rw [X.out, V.out] at VL
        have hv : v < B := by
          have := (vv_wv x B h36).1.2 (by rw [← X.out]; exact HD.out j (by have := HNN.out; omega))
          rw [V.out] at this
          exact this
        go_wp2_with fail
        refine VL.out.mono ?_
        rintro e w' ⟨rfl, rfl⟩
        clear VL
        go_wp2_with fail
        go_round
        case rel => exact ⟨j + 1, by go_num, by omega⟩
        case measure => simp [intOf]; omega
      · obtain rfl : j = n := by omega
        go_wp2_with fail
        refine PL.out.mono ?_
        rintro e w3 ⟨⟨s', rfl, h'⟩, d3⟩
        obtain ⟨m, HM⟩ : ∃ m, Hid (s'.size = m) := ⟨_, rfl⟩
        have hsz' : s'.size = m := HM.out
        have hm : (50000 : Int) < (m : Int) := by
          have a := h'.size
          have b := LO.out
          omega
        have D3 := hid (chain D2.out d3 (Nat.le_refl _))
        clear h' d3 PL LO HM
        go_wp2_with fail
        go_ret
        exact ⟨rfl, D3.out⟩
  | ok r os h2 h36 hd hx hv A2 =>
    have e1 := NE hx
    have e2 : (s.toList == []) = false := by rw [beq_eq_false_iff_ne]; exact e1
    have e3 : s.toList.isEmpty = false := by rw [List.isEmpty_eq_false_iff]; exact e1
    have IB := hid (inBase_any r _ _ os B false w2 (A2.argT hv) hB0 hB1)
    have PL : Hid (∀ W, Calls Tryd.prog 14 #[.string s] W fun e w' => (∃ s', e = .returned (.string s') ∧ Str s' (pl (xs.map lc))) ∧ Below W.heap.size W w') := fun W => plain_any s xs W HS.out HN.out hx
    have FI : Hid (∀ (zs : List Int) (E : Int), InIs os B false zs E → E = 0 ∧ zs = pl (xs.map lc)) := by
      intro zs E h
      have vo : Nm.val os = Dn.tv B 0 (xs.map wv) := A2.2.2.2.1
      have tso := (Nm.tsize_le_iff A2.2.1 4096).2 (by rw [vo]; exact hv)
      cases h with
      | big h => omega
      | base _ h => omega
      | zero h _ _ =>
        have := (Nm.tsize_zero_iff A2.2.1).1 h
        rw [vo] at this
        exact ⟨rfl, (plain_zero h2 h36 HS.out.bytes hd hx this).symm⟩
      | ok L h0 _ _ _ hL =>
        rw [vo] at hL ⊢
        have hv0 : Dn.tv B 0 (xs.map wv) ≠ 0 := fun c => by
          have := (Nm.tsize_zero_iff A2.2.1).2 (by rw [vo]; exact c)
          omega
        exact ⟨rfl, (plain_is h2 h36 HS.out.bytes hd hL hv0).1.symm⟩
    have HD := hid hd
    clear NE hd hx hv A2
    go_wp2_with fail
    go_loop [9, 10] (fun i _ => ∃ j : Nat, i = .int .i64 (j : Int) ∧ j ≤ n) (fun i _ => n - (intOf i).toNat)
    case atStart => exact ⟨0, rfl, Nat.zero_le _⟩
    case round =>
      obtain ⟨j, rfl, hj⟩ := hrel
      by_cases hlt : j < n
      · have hji : (j : Int) < (n : Int) := by omega
        obtain ⟨x, X⟩ : ∃ x, Hid (xs.getD j 0 = x) := ⟨_, rfl⟩
        have hx : ∀ h : j < s.size, ((s[j]'h).toNat : Int) = x := fun h => by rw [HS.out.at j h, X.out]
        obtain ⟨v, V⟩ : ∃ v, Hid (vv x = v) := ⟨_, rfl⟩
        have VL := hid (VA.out j w2)
        rw [X.out, V.out] at VL
        have hv : v < B := by
          have := (vv_wv x B h36).1.2 (by rw [← X.out]; exact HD.out j (by have := HNN.out; omega))
          rw [V.out] at this
          exact this
        go_wp2_with fail
        refine VL.out.mono ?_
        rintro e w' ⟨rfl, rfl⟩
        clear VL
        go_wp2_with fail
        go_round
        case rel => exact ⟨j + 1, by go_num, by omega⟩
        case measure => simp [intOf]; omega
      · obtain rfl : j = n := by omega
        go_wp2_with fail
        refine IB.out.mono ?_
        rintro e w3 ⟨s1, zs, E, rfl, hs1, hi1, d3⟩
        obtain ⟨rfl, rfl⟩ := FI.out zs E hi1
        have D3 := hid (chain D2.out d3 (Nat.le_refl _))
        have S1 := hid hs1
        have P3 := hid (PL.out w3)
        clear hs1 hi1 d3 IB PL
        go_wp2_with fail
        refine P3.out.mono ?_
        rintro e w4 ⟨⟨s', rfl, h'⟩, d4⟩
        obtain rfl : s' = s1 := h'.inj S1.out
        have D4 := hid (chain D3.out d4 (Nat.le_refl _))
        clear h' d4 P3
        go_wp2_with fail
        go_ret
        exact ⟨rfl, D4.out⟩
end Go.Proofs.YtdolimhddmddnaaDoor
