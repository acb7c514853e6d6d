/-
  Texts put together: DRef13, DRefMN, DRefM.
-/
import Derived.Test.YtaadooippelcfaaDoorV0
import Derived.Test.YtaadooippelcfaaDoorVStr
import Derived.Test.YtaadooippelcfaaDoorDBackN
import Derived.Deep.LoopGhost
import Derived.Deep.RegionHeld3
import Derived.Deep.CutBlock
import Derived.Deep.CutRange
import Derived.OwnWalk
import Derived.Test.YtaadooippelcfaaDoorRnForm
import Derived.Deep.DeepCutAuto
namespace Go.Proofs.YtaadooippelcfaaDoor
open Go Go.RowKit Go.Deep

theorem idx_hit {c : Int} : ∀ {xs : List Int} {i : Nat}, (∀ t, t < i → xs.getD t 0 ≠ c) → i < xs.length → xs.getD i 0 = c → Dr.idx xs c = (i : Int)
  | [], i, _, h, _ => by simp at h
  | x :: l, 0, _, _, h => by
    rw [Dr.idx, if_pos (by simpa using h)]; rfl
  | x :: l, i + 1, h1, h2, h3 => by
    have ih := idx_hit (c := c) (xs := l) (i := i) (fun t ht => by have := h1 (t + 1) (by omega); simpa using this) (by simpa using h2) (by simpa using h3)
    have hx : ¬ x = c := by have := h1 0 (by omega); simpa using this
    rw [Dr.idx, if_neg hx, ih, if_neg (by omega)]
    omega
theorem idx_miss {c : Int} : ∀ {xs : List Int}, (∀ t, t < xs.length → xs.getD t 0 ≠ c) → Dr.idx xs c = -1
  | [], _ => rfl
  | x :: l, h => by
    have ih := idx_miss (c := c) (xs := l) (fun t ht => by have := h (t + 1) (by simp; omega); simpa using this)
    have hx : ¬ x = c := by have := h 0 (by simp); simpa using this
    rw [Dr.idx, if_neg hx, ih, if_pos (by omega)]

set_option maxRecDepth 100000 in
set_option maxHeartbeats 1000000 in
theorem rat_any (s : ByteArray) (xs : List Int) (c : Int) (w : World) (hs : Str s xs) (hl : xs.length ≤ 140737488355328) :
    Calls Tryd.prog 26 #[.string s, .int .u8 c] w fun e w' => e = .returned (.int .i64 (Dr.idx xs c)) ∧ w' = w := by
  have sx := hs.size
  have HL := hid hl
  have HS := hid hs
  have SX := hid sx
  clear hs hl sx
  go_enter Tryd.func26, Tryd.ntmps26
  go_wp2_with fail
  go_loopg [5] s.size (fun m k wr => ∃ i : Nat, i + m = s.size ∧ k = .int .i64 (i : Int) ∧ wr = w ∧ Hid (∀ t, t < i → xs.getD t 0 ≠ c))
  case atStart => exact ⟨0, by omega, rfl, rfl, fun t ht => by omega⟩
  case round =>
    obtain ⟨i, hi, rfl, rfl, I⟩ := hrel
    by_cases il : i < s.size
    · have ili : (i : Int) < (s.size : Int) := by omega
      have ib : (i : Int) ≤ 140737488355328 := by have := HL.out; have := SX.out; omega
      obtain ⟨x, hx⟩ : ∃ x, xs.getD i 0 = x := ⟨_, rfl⟩
      have ki : ∀ h : i < s.size, ((s[i]'h).toNat : Int) = x := fun h => hx ▸ HS.out.at i h
      by_cases hc : x = c
      · have R : Hid (Dr.idx xs c = (i : Int)) := idx_hit I.out (by have := SX.out; omega) (hx.trans hc)
        have hc1 : (x == c) = true := by simpa using hc
        clear I hx hc HS
        go_wp2_with fail
        go_ret
        exact ⟨by rw [R.out]; rfl, rfl⟩
      · have hc1 : (x == c) = false := by simpa using hc
        have I2 : Hid (∀ t, t < i + 1 → xs.getD t 0 ≠ c) := fun t ht => by
          by_cases e : t = i
          · subst e; rw [hx]; exact hc
          · exact I.out t (by omega)
        clear I hx hc HS
        go_wp2_with fail
        go_roundg (s.size - (i + 1))
        case measure => omega
        case rel => exact ⟨i + 1, by omega, by go_num, rfl, I2.out⟩
    · have ili : ¬ (i : Int) < (s.size : Int) := by omega
      have R : Hid (Dr.idx xs c = -1) := idx_miss (fun t ht => I.out t (by have := SX.out; omega))
      clear I HS
      go_wp2_with fail
      go_ret
      exact ⟨by rw [R.out]; rfl, rfl⟩

theorem rdigit_any (c : Int) (w : World) :
    Calls Tryd.prog 41 #[.int .u8 c] w fun e w' => e = .returned (.bool (Dr.isD c)) ∧ w' = w := by
  by_cases h : 48 ≤ c
  · have G : Hid (Dr.isD c = decide (c ≤ 57)) := by rw [Hid, Dr.isD, decide_eq_true h, Bool.true_and]
    go_enter Tryd.func41, Tryd.ntmps41
    go_wp2_with fail
    go_ret
    exact ⟨by rw [G.out]; rfl, rfl⟩
  · have G : Hid (Dr.isD c = false) := by rw [Hid, Dr.isD, decide_eq_false h, Bool.false_and]
    go_enter Tryd.func41, Tryd.ntmps41
    go_wp2_with fail
    go_ret
    exact ⟨by rw [G.out]; rfl, rfl⟩
end Go.Proofs.YtaadooippelcfaaDoor

namespace Go.Proofs.YtaadooippelcfaaDoor
namespace Dr

theorem nx_drop (xs : List Int) (a t : Nat) : nx (xs.drop a) t = nx xs (a + t) := by
  simp [nx, List.getD_eq_getElem?_getD]
theorem nx_end {xs : List Int} {j : Nat} (h : xs.length ≤ j) : nx xs j = 0 := by
  simp [nx, List.getD_eq_getElem?_getD, List.getElem?_eq_none h]
theorem head_nx (xs : List Int) (a : Nat) : (xs.drop a).headD 0 = nx xs a := by
  rw [nx, List.getD_eq_getElem?_getD]
  rcases Nat.lt_or_ge a xs.length with h | h
  · rw [List.drop_eq_getElem_cons h, List.getElem?_eq_getElem h]; rfl
  · rw [List.drop_of_length_le h, List.getElem?_eq_none h]; rfl
theorem ct_is {p : Int → Bool} : ∀ {l : List Int} {j : Nat}, (∀ t, t < j → p (nx l t) = true) → j ≤ l.length → (j = l.length ∨ p (nx l j) = false) → ct p l = j
  | [], j, _, h, _ => by simp at h; rw [h]; rfl
  | x :: l, 0, _, _, h => by
    rcases h with h | h
    · simp at h
    · rw [ct, if_neg (by rw [show nx (x :: l) 0 = x from rfl] at h; rw [h]; simp)]
  | x :: l, j + 1, h1, h2, h3 => by
    have k := h1 0 (by omega)
    rw [show nx (x :: l) 0 = x from rfl] at k
    rw [ct, if_pos k, ct_is (l := l) (j := j) (fun t ht => h1 (t + 1) (by omega)) (by simpa using h2) (by
      rcases h3 with h | h
      · exact .inl (by simpa using h)
      · exact .inr h)]
theorem ct_at {p : Int → Bool} {xs : List Int} {a j : Nat} (ha : a ≤ j) (h1 : ∀ t, a ≤ t → t < j → p (nx xs t) = true) (h2 : j ≤ xs.length) (h3 : j = xs.length ∨ p (nx xs j) = false) : a + ct p (xs.drop a) = j := by
  have : ct p (xs.drop a) = j - a := by
    refine ct_is (fun t ht => ?_) (by rw [List.length_drop]; omega) ?_
    · rw [nx_drop]; exact h1 _ (by omega) (by omega)
    · rw [nx_drop, show a + (j - a) = j by omega, List.length_drop]
      rcases h3 with h | h
      · exact .inl (by omega)
      · exact .inr h
  omega

/-- The ends of flags, of a number, of a width, of a precision. -/
def mF (xs : List Int) (i : Nat) : Nat := i + 1 + ct isF (xs.drop (i + 1))
def wl (xs : List Int) (k : Nat) : Nat := if nx xs k = 42 then k + 1 else k + ct isD (xs.drop k)
def mW (xs : List Int) (i : Nat) : Nat := wl xs (mF xs i)
def mP (xs : List Int) (i : Nat) : Nat := if nx xs (mW xs i) = 46 then wl xs (mW xs i + 1) else mW xs i

theorem nx_lt {xs : List Int} {j : Nat} {c : Int} (h : nx xs j = c) (hc : c ≠ 0) : j < xs.length := by
  rcases Nat.lt_or_ge j xs.length with k | k
  · exact k
  · rw [nx_end k] at h; exact absurd h.symm hc
theorem ct_room (p : Int → Bool) {xs : List Int} {a : Nat} (h : a ≤ xs.length) : a + ct p (xs.drop a) ≤ xs.length := by
  have := ct_le p (xs.drop a); rw [List.length_drop] at this; omega
theorem mF_le {xs : List Int} {i : Nat} (h : i < xs.length) : mF xs i ≤ xs.length := ct_room _ h
theorem mF_ge (xs : List Int) (i : Nat) : i + 1 ≤ mF xs i := by unfold mF; omega
theorem wl_le {xs : List Int} {k : Nat} (h : k ≤ xs.length) : wl xs k ≤ xs.length := by
  unfold wl
  split
  · rename_i q; exact nx_lt q (by decide)
  · exact ct_room _ h
theorem wl_ge (xs : List Int) (k : Nat) : k ≤ wl xs k := by unfold wl; split <;> omega
theorem mW_le {xs : List Int} {i : Nat} (h : i < xs.length) : mW xs i ≤ xs.length := wl_le (mF_le h)
theorem mW_ge (xs : List Int) (i : Nat) : mF xs i ≤ mW xs i := wl_ge _ _
theorem mP_le {xs : List Int} {i : Nat} (h : i < xs.length) : mP xs i ≤ xs.length := by
  unfold mP
  split
  · rename_i q; exact wl_le (nx_lt q (by decide))
  · exact mW_le h
theorem mP_ge (xs : List Int) (i : Nat) : mW xs i ≤ mP xs i := by
  unfold mP
  split
  · have := wl_ge xs (mW xs i + 1); omega
  · omega

/-- The digits alone write what they and the rest write. -/
theorem dN_take (n : Int) (l : List Int) : dN n (l.take (ct isD l)) = dN n l := by
  induction l generalizing n with
  | nil => simp
  | cons c l ih =>
    rw [ct]
    by_cases h : isD c = true
    · rw [if_pos h, List.take_succ_cons, dN, dN, if_pos h, if_pos h, ih]
    · rw [if_neg h, List.take_zero, dN, dN, if_neg h]
theorem nx_take {l : List Int} {n t : Nat} (h : t < n) : nx (l.take n) t = nx l t := by
  simp [nx, List.getD_eq_getElem?_getD, h]
theorem ct_all (p : Int → Bool) (l : List Int) : ∀ t, t < ct p l → p (nx l t) = true := by
  induction l with
  | nil => intro t h; simp [ct] at h
  | cons c l ih =>
    intro t h
    rw [ct] at h
    by_cases k : p c = true
    · rw [if_pos k] at h
      cases t with
      | zero => exact k
      | succ t => exact ih t (by omega)
    · rw [if_neg k] at h; omega

/-- The sum of flags, one by one. -/
theorem or_bit : ∀ s : Fin 32, ∀ j : Fin 5, (s.val ||| 2 ^ j.val) = if s.val / 2 ^ j.val % 2 = 0 then s.val + 2 ^ j.val else s.val := by decide
theorem fS_step {s : Nat} {l : List Int} (h : isF (l.headD 0) = true) : fS s l = fS (s ||| 2 ^ (idx marks (l.headD 0)).toNat) l.tail := by
  cases l with
  | nil => simp [isF, idx, marks] at h
  | cons c l => rw [fS, if_pos (show isF c = true from h)]; rfl
end Dr
end Go.Proofs.YtaadooippelcfaaDoor

namespace Go.Proofs.YtaadooippelcfaaDoor
open Go Go.RowKit Go.Deep

set_option maxRecDepth 100000 in
set_option maxHeartbeats 4000000 in
theorem rmarked_any (s : ByteArray) (xs : List Int) (i : Nat) (w : World) (hs : Str s xs) (hi : i < xs.length) (hl : xs.length ≤ 1099511627776) :
    Calls Tryd.prog 23 #[.string s, .int .i64 (i : Int)] w fun e w' => e = .returned (.agg #[.int .i64 (Dr.mF xs i : Nat), .int .i64 (Dr.mW xs i : Nat), .int .i64 (Dr.mP xs i : Nat)]) ∧ Below w.heap.size w w' := by
  have sx := hs.size
  have HS : Hid (∀ k, ∀ h : k < s.size, ((s[k]'h).toNat : Int) = Dr.nx xs k) := fun k h => hs.at k h
  have AT := hid (fun c W => rat_any ⟨#[45, 43, 32, 35, 48]⟩ Dr.marks c W rfl (by decide))
  have DG := hid rdigit_any
  have A0 := hid hi
  have HF : Dr.mF xs i ≤ s.size := by rw [sx]; exact Dr.mF_le hi
  have HW : Dr.mW xs i ≤ s.size := by rw [sx]; exact Dr.mW_le hi
  have KF : Hid (∀ {j}, i + 1 ≤ j → (∀ t, i + 1 ≤ t → t < j → Dr.isF (Dr.nx xs t) = true) → j ≤ xs.length → (j = xs.length ∨ Dr.isF (Dr.nx xs j) = false) → Dr.mF xs i = j) := fun a b c d => Dr.ct_at a b c d
  have KD : Hid (∀ k j, k ≤ j → (∀ t, k ≤ t → t < j → Dr.isD (Dr.nx xs t) = true) → j ≤ xs.length → (j = xs.length ∨ Dr.isD (Dr.nx xs j) = false) → Dr.nx xs k ≠ 42 → Dr.wl xs k = j) := fun k j a b c d e => by rw [Dr.wl, if_neg e]; exact Dr.ct_at a b c d
  have KW : Hid (Dr.mW xs i = Dr.wl xs (Dr.mF xs i)) := rfl
  have KP : Hid ((Dr.nx xs (Dr.mW xs i) = 46 → Dr.mP xs i = Dr.wl xs (Dr.mW xs i + 1) ∧ Dr.mW xs i < xs.length) ∧ (Dr.nx xs (Dr.mW xs i) ≠ 46 → Dr.mP xs i = Dr.mW xs i)) := ⟨fun h => ⟨if_pos h, Dr.nx_lt h (by decide)⟩, fun h => if_neg h⟩
  have KS : Hid (∀ k, Dr.nx xs k = 42 → Dr.wl xs k = k + 1 ∧ k < xs.length) := fun k h => ⟨if_pos h, Dr.nx_lt h (by decide)⟩
  have hsz : (s.size : Int) ≤ 1099511627776 := by omega
  have hii : (i : Int) < (s.size : Int) := by omega
  have EB : Hid (∀ a b c d e f : Value, Below w.heap.size w ((w.alloc (.cells #[a, b, c] 52)).alloc (.cells #[d, e, f] 52))) := fun a b c d e f => below_on (alloc_b w _) (alloc_b _ _)
  have SX := hid sx
  have A1 : Hid (Dr.mF xs i ≤ xs.length) := by rw [← sx]; exact HF
  clear hs hl sx hi
  generalize Dr.mP xs i = pp at *
  generalize Dr.mW xs i = ww at *
  generalize Dr.mF xs i = ff at *
  go_enter Tryd.func23, Tryd.ntmps23
  go_upto_block 0 with fail
  go_cut [6] (fun v wx => v = .int .i64 ((ff : Nat) : Int) ∧ wx = (w.alloc (.cells #[.int .i64 0, .int .i64 0, .int .i64 0] 52)).alloc (.cells #[.int .i64 0, .int .i64 0, .int .i64 0] 52))
  case first =>
    go_wp2_with fail
    go_loopg [6] (xs.length - (i + 1)) (fun m k wr => ∃ j : Nat, j + m = xs.length ∧ k = .int .i64 (j : Int) ∧ wr = (w.alloc (.cells #[.int .i64 0, .int .i64 0, .int .i64 0] 52)).alloc (.cells #[.int .i64 0, .int .i64 0, .int .i64 0] 52) ∧ Hid (i + 1 ≤ j ∧ ∀ t, i + 1 ≤ t → t < j → Dr.isF (Dr.nx xs t) = true))
    case atStart => exact ⟨i + 1, by have := A0.out; omega, by go_num, rfl, Nat.le_refl _, fun t a b => by omega⟩
    case round =>
      obtain ⟨j, hj, rfl, rfl, I⟩ := hrel
      by_cases jl : j < s.size
      · have jli : (j : Int) < (s.size : Int) := by omega
        have jb : (j : Int) ≤ 1099511627776 := by omega
        obtain ⟨x, hx⟩ : ∃ x, Dr.nx xs j = x := ⟨_, rfl⟩
        have ki : ∀ h : j < s.size, ((s[j]'h).toNat : Int) = x := fun h => hx ▸ HS.out j h
        by_cases hf : Dr.isF x = true
        · have I2 : Hid (i + 1 ≤ j + 1 ∧ ∀ t, i + 1 ≤ t → t < j + 1 → Dr.isF (Dr.nx xs t) = true) := ⟨by have := I.out.1; omega, fun t a b => by
            by_cases e : t = j
            · subst e; rw [hx]; exact hf
            · exact I.out.2 t a (by omega)⟩
          have hg : (0 : Int) ≤ Dr.idx Dr.marks x := by simpa [Dr.isF] using hf
          clear I hx
          go_wp2_with (go_at_call 26; refine (AT.out _ _).mono ?_; rintro e w2 ⟨rfl, hw2⟩; rw [hw2]; clear hw2 w2)
          go_roundg (xs.length - (j + 1))
          case measure => have := SX.out; omega
          case rel => exact ⟨j + 1, by have := SX.out; omega, by go_num, rfl, I2.out⟩
        · have hf' : Dr.isF x = false := by simpa using hf
          have E := hid (KF.out I.out.1 I.out.2 (by have := SX.out; omega) (.inr (by rw [hx]; exact hf')))
          have hg : ¬ (0 : Int) ≤ Dr.idx Dr.marks x := by simpa [Dr.isF] using hf
          clear I hx
          go_wp2_with (go_at_call 26; refine (AT.out _ _).mono ?_; rintro e w2 ⟨rfl, hw2⟩; rw [hw2]; clear hw2 w2)
          go_meet
          exact ⟨by rw [E.out], rfl⟩
      · have jli : ¬ (j : Int) < (s.size : Int) := by omega
        have E := hid (KF.out I.out.1 I.out.2 (by omega) (.inl (by have := SX.out; omega)))
        clear I
        go_wp2_with fail
        go_meet
        exact ⟨by rw [E.out], rfl⟩
  case rest =>
  obtain ⟨h6, hwc⟩ := hcut
  subst hwc
  subst h6
  clear KF AT
  go_upto_region 6 with fail
  go_cut [33] (fun v wx => v = .bool (decide (Dr.nx xs (ff) = 42)) ∧ wx = (w.alloc (.cells #[.int .i64 0, .int .i64 0, .int .i64 0] 52)).alloc (.cells #[.int .i64 ((ff : Nat) : Int), .int .i64 0, .int .i64 0] 52))
  case first =>
    by_cases kl : ff < s.size
    · have kli : ((ff : Nat) : Int) < (s.size : Int) := by omega
      have ki : ∀ h : ff < s.size, ((s[ff]'h).toNat : Int) = Dr.nx xs (ff) := fun h => HS.out _ h
      generalize Dr.nx xs (ff) = x at *
      go_wp2_with fail
      go_meet
      exact ⟨rfl, rfl⟩
    · have kli : ¬ ((ff : Nat) : Int) < (s.size : Int) := by omega
      have e0 : Hid (Dr.nx xs (ff) = 0) := Dr.nx_end (by have := SX.out; omega)
      go_wp2_with fail
      go_meet
      exact ⟨by rw [e0.out]; rfl, rfl⟩
  case rest =>
  obtain ⟨h33, hwc⟩ := hcut
  subst hwc
  subst h33
  go_upto_if 33 with fail
  go_cut [6] (fun v wx => v = .int .i64 ((ww : Nat) : Int) ∧ wx = (w.alloc (.cells #[.int .i64 0, .int .i64 0, .int .i64 0] 52)).alloc (.cells #[.int .i64 ((ff : Nat) : Int), .int .i64 0, .int .i64 0] 52))
  case first =>
    by_cases st : Dr.nx xs (ff) = 42
    · obtain ⟨e1, e2⟩ := KS.out _ st
      have st1 : decide (Dr.nx xs (ff) = 42) = true := by simpa using st
      have e3 : (((ff) : Nat) : Int) + 1 ≤ 1099511627776 := by have := SX.out; omega
      have E : Hid (((Dr.wl xs (ff) : Nat) : Int) = ((ff : Nat) : Int) + 1) := by rw [e1]; show _ = _; omega
      clear e1 e2 st
      rw [st1]
      go_wp2_with fail
      go_meet
      exact ⟨by rw [KW.out, E.out], rfl⟩
    · have st1 : decide (Dr.nx xs (ff) = 42) = false := by simpa using st
      have ST := hid st
      clear st
      rw [st1]
      go_wp2_with fail
      go_loopg [6] (xs.length - (ff)) (fun m k wr => ∃ j : Nat, j + m = xs.length ∧ k = .int .i64 (j : Int) ∧ wr = (w.alloc (.cells #[.int .i64 0, .int .i64 0, .int .i64 0] 52)).alloc (.cells #[.int .i64 ((ff : Nat) : Int), .int .i64 0, .int .i64 0] 52) ∧ Hid (ff ≤ j ∧ ∀ t, ff ≤ t → t < j → Dr.isD (Dr.nx xs t) = true))
      case atStart => exact ⟨ff, by have := A1.out; omega, by go_num, rfl, Nat.le_refl _, fun t a b => by omega⟩
      case round =>
        obtain ⟨j, hj, rfl, rfl, I⟩ := hrel
        by_cases jl : j < s.size
        · have jli : (j : Int) < (s.size : Int) := by omega
          have jb : (j : Int) ≤ 1099511627776 := by omega
          obtain ⟨x, hx⟩ : ∃ x, Dr.nx xs j = x := ⟨_, rfl⟩
          have ki : ∀ h : j < s.size, ((s[j]'h).toNat : Int) = x := fun h => hx ▸ HS.out j h
          by_cases hf : Dr.isD x = true
          · have I2 : Hid (ff ≤ j + 1 ∧ ∀ t, ff ≤ t → t < j + 1 → Dr.isD (Dr.nx xs t) = true) := ⟨by have := I.out.1; omega, fun t a b => by
              by_cases e : t = j
              · subst e; rw [hx]; exact hf
              · exact I.out.2 t a (by omega)⟩
            skip
            clear I hx
            go_wp2_with (go_at_call 41; refine (DG.out _ _).mono ?_; rintro e w2 ⟨rfl, hw2⟩; rw [hw2]; clear hw2 w2)
            go_roundg (xs.length - (j + 1))
            case measure => have := SX.out; omega
            case rel => exact ⟨j + 1, by have := SX.out; omega, by go_num, rfl, I2.out⟩
          · have hf' : Dr.isD x = false := by simpa using hf
            have E := hid ((fun {j} a b c d => (KD.out (ff) j a b c d ST.out)) I.out.1 I.out.2 (by have := SX.out; omega) (.inr (by rw [hx]; exact hf')))
            skip
            clear I hx
            go_wp2_with (go_at_call 41; refine (DG.out _ _).mono ?_; rintro e w2 ⟨rfl, hw2⟩; rw [hw2]; clear hw2 w2)
            go_meet
            exact ⟨by rw [KW.out, E.out], rfl⟩
        · have jli : ¬ (j : Int) < (s.size : Int) := by omega
          have E := hid ((fun {j} a b c d => (KD.out (ff) j a b c d ST.out)) I.out.1 I.out.2 (by omega) (.inl (by have := SX.out; omega)))
          clear I
          go_wp2_with fail
          go_meet
          exact ⟨by rw [KW.out, E.out], rfl⟩
  case rest =>
  obtain ⟨h6, hwc⟩ := hcut
  subst hwc
  subst h6
  clear KW
  go_upto_region 11 with fail
  go_cut [59] (fun v wx => v = .bool (decide (Dr.nx xs (ww) = 46)) ∧ wx = (w.alloc (.cells #[.int .i64 0, .int .i64 0, .int .i64 0] 52)).alloc (.cells #[.int .i64 ((ff : Nat) : Int), .int .i64 ((ww : Nat) : Int), .int .i64 0] 52))
  case first =>
    by_cases kl : ww < s.size
    · have kli : ((ww : Nat) : Int) < (s.size : Int) := by omega
      have ki : ∀ h : ww < s.size, ((s[ww]'h).toNat : Int) = Dr.nx xs (ww) := fun h => HS.out _ h
      generalize Dr.nx xs (ww) = x at *
      go_wp2_with fail
      go_meet
      exact ⟨rfl, rfl⟩
    · have kli : ¬ ((ww : Nat) : Int) < (s.size : Int) := by omega
      have e0 : Hid (Dr.nx xs (ww) = 0) := Dr.nx_end (by have := SX.out; omega)
      go_wp2_with fail
      go_meet
      exact ⟨by rw [e0.out]; rfl, rfl⟩
  case rest =>
  obtain ⟨h59, hwc⟩ := hcut
  subst hwc
  subst h59
  go_upto_if 59 with fail
  go_cut [6] (fun v wx => v = .int .i64 ((pp : Nat) : Int) ∧ wx = (w.alloc (.cells #[.int .i64 0, .int .i64 0, .int .i64 0] 52)).alloc (.cells #[.int .i64 ((ff : Nat) : Int), .int .i64 ((ww : Nat) : Int), .int .i64 0] 52))
  case first =>
    by_cases pt : Dr.nx xs (ww) = 46
    · obtain ⟨e1, e2⟩ := KP.out.1 pt
      have pt1 : decide (Dr.nx xs (ww) = 46) = true := by simpa using pt
      obtain ⟨k1, hk1⟩ : ∃ k1, k1 = ww + 1 := ⟨_, rfl⟩
      have kz : k1 ≤ s.size := by have := SX.out; omega
      have A1 : Hid (k1 ≤ xs.length) := by have := SX.out; show _ ≤ _; omega
      have kb : ((ww : Nat) : Int) + 1 ≤ 1099511627776 := by have := SX.out; omega
      have K1 : Hid (((ww : Nat) : Int) + 1 = (k1 : Int)) := by show _ = _; omega
      have KW : Hid (pp = Dr.wl xs k1) := by rw [hk1]; exact e1
      clear e1 e2 pt hk1 KP
      rw [pt1]
      go_upto_region 12 with fail
      go_cut [6] (fun v wx => v = .int .i64 (k1 : Int) ∧ wx = (w.alloc (.cells #[.int .i64 0, .int .i64 0, .int .i64 0] 52)).alloc (.cells #[.int .i64 ((ff : Nat) : Int), .int .i64 ((ww : Nat) : Int), .int .i64 0] 52))
      case first =>
        go_wp2_with fail
        go_meet
        exact ⟨by rw [K1.out], rfl⟩
      case rest =>
      obtain ⟨h6, hwc⟩ := hcut
      subst hwc
      subst h6
      go_upto_region 13 with fail
      go_cut [71] (fun v wx => v = .bool (decide (Dr.nx xs (k1) = 42)) ∧ wx = (w.alloc (.cells #[.int .i64 0, .int .i64 0, .int .i64 0] 52)).alloc (.cells #[.int .i64 ((ff : Nat) : Int), .int .i64 ((ww : Nat) : Int), .int .i64 0] 52))
      case first =>
        by_cases kl : k1 < s.size
        · have kli : ((k1 : Nat) : Int) < (s.size : Int) := by omega
          have ki : ∀ h : k1 < s.size, ((s[k1]'h).toNat : Int) = Dr.nx xs (k1) := fun h => HS.out _ h
          generalize Dr.nx xs (k1) = x at *
          go_wp2_with fail
          go_meet
          exact ⟨rfl, rfl⟩
        · have kli : ¬ ((k1 : Nat) : Int) < (s.size : Int) := by omega
          have e0 : Hid (Dr.nx xs (k1) = 0) := Dr.nx_end (by have := SX.out; omega)
          go_wp2_with fail
          go_meet
          exact ⟨by rw [e0.out]; rfl, rfl⟩
      case rest =>
      obtain ⟨h71, hwc⟩ := hcut
      subst hwc
      subst h71
      go_upto_if 71 with fail
      go_cut [6] (fun v wx => v = .int .i64 ((pp : Nat) : Int) ∧ wx = (w.alloc (.cells #[.int .i64 0, .int .i64 0, .int .i64 0] 52)).alloc (.cells #[.int .i64 ((ff : Nat) : Int), .int .i64 ((ww : Nat) : Int), .int .i64 0] 52))
      case first =>
        by_cases st : Dr.nx xs (k1) = 42
        · obtain ⟨e1, e2⟩ := KS.out _ st
          have st1 : decide (Dr.nx xs (k1) = 42) = true := by simpa using st
          have e3 : (((k1) : Nat) : Int) + 1 ≤ 1099511627776 := by have := SX.out; omega
          have E : Hid (((Dr.wl xs (k1) : Nat) : Int) = ((k1 : Nat) : Int) + 1) := by rw [e1]; show _ = _; omega
          clear e1 e2 st
          rw [st1]
          go_wp2_with fail
          go_meet
          exact ⟨by rw [KW.out, E.out], rfl⟩
        · have st1 : decide (Dr.nx xs (k1) = 42) = false := by simpa using st
          have ST := hid st
          clear st
          rw [st1]
          go_wp2_with fail
          go_loopg [6] (xs.length - (k1)) (fun m k wr => ∃ j : Nat, j + m = xs.length ∧ k = .int .i64 (j : Int) ∧ wr = (w.alloc (.cells #[.int .i64 0, .int .i64 0, .int .i64 0] 52)).alloc (.cells #[.int .i64 ((ff : Nat) : Int), .int .i64 ((ww : Nat) : Int), .int .i64 0] 52) ∧ Hid (k1 ≤ j ∧ ∀ t, k1 ≤ t → t < j → Dr.isD (Dr.nx xs t) = true))
          case atStart => exact ⟨k1, by have := A1.out; omega, by go_num, rfl, Nat.le_refl _, fun t a b => by omega⟩
          case round =>
            obtain ⟨j, hj, rfl, rfl, I⟩ := hrel
            by_cases jl : j < s.size
            · have jli : (j : Int) < (s.size : Int) := by omega
              have jb : (j : Int) ≤ 1099511627776 := by omega
              obtain ⟨x, hx⟩ : ∃ x, Dr.nx xs j = x := ⟨_, rfl⟩
              have ki : ∀ h : j < s.size, ((s[j]'h).toNat : Int) = x := fun h => hx ▸ HS.out j h
              by_cases hf : Dr.isD x = true
              · have I2 : Hid (k1 ≤ j + 1 ∧ ∀ t, k1 ≤ t → t < j + 1 → Dr.isD (Dr.nx xs t) = true) := ⟨by have := I.out.1; omega, fun t a b => by
                  by_cases e : t = j
                  · subst e; rw [hx]; exact hf
                  · exact I.out.2 t a (by omega)⟩
                skip
                clear I hx
                go_wp2_with (go_at_call 41; refine (DG.out _ _).mono ?_; rintro e w2 ⟨rfl, hw2⟩; rw [hw2]; clear hw2 w2)
                go_roundg (xs.length - (j + 1))
                case measure => have := SX.out; omega
                case rel => exact ⟨j + 1, by have := SX.out; omega, by go_num, rfl, I2.out⟩
              · have hf' : Dr.isD x = false := by simpa using hf
                have E := hid ((fun {j} a b c d => (KD.out (k1) j a b c d ST.out)) I.out.1 I.out.2 (by have := SX.out; omega) (.inr (by rw [hx]; exact hf')))
                skip
                clear I hx
                go_wp2_with (go_at_call 41; refine (DG.out _ _).mono ?_; rintro e w2 ⟨rfl, hw2⟩; rw [hw2]; clear hw2 w2)
                go_meet
                exact ⟨by rw [KW.out, E.out], rfl⟩
            · have jli : ¬ (j : Int) < (s.size : Int) := by omega
              have E := hid ((fun {j} a b c d => (KD.out (k1) j a b c d ST.out)) I.out.1 I.out.2 (by omega) (.inl (by have := SX.out; omega)))
              clear I
              go_wp2_with fail
              go_meet
              exact ⟨by rw [KW.out, E.out], rfl⟩
      case rest =>
      obtain ⟨h6, hwc⟩ := hcut
      subst hwc
      subst h6
      go_wp2_with fail
      go_meet
      exact ⟨rfl, rfl⟩
    · have pt1 : decide (Dr.nx xs (ww) = 46) = false := by simpa using pt
      have E := hid (KP.out.2 pt)
      clear pt KP
      rw [pt1]
      go_wp2_with fail
      go_meet
      exact ⟨by rw [E.out], rfl⟩
  case rest =>
  obtain ⟨h6, hwc⟩ := hcut
  subst hwc
  subst h6
  clear KP KD KS
  go_wp2_with fail
  refine bodyPost_ret (results_cell_row rfl _ _ w.heap.size 52 _ (0, 0) _ rfl (heap_alloc2_old _ _ _) Tryd.underlying52 rfl (by kernel_rfl)) rfl ?_
  exact ⟨rfl, EB.out _ _ _ _ _ _⟩
end Go.Proofs.YtaadooippelcfaaDoor
