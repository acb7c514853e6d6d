/-
  Texts put together: NDigit, NDv, FNum, LRowB, VWalk1, VRead0, NLimb, FTab, LTab.
-/
import Derived.Test.YtjkefcikepnbpaaGreatDoorWAA
import Derived.OwnWalk
import Derived.Laws.ResultCell
import Derived.Lib.LaidTab
namespace Go.Proofs.YtjkefcikepnbpaaGreatDoor
open Go.RowKit Go.Deep

/-- What a byte counts as a digit; 36 if it is none. -/
def wv (x : Int) : Int := if 48 ≤ x ∧ x ≤ 57 then x - 48 else if 97 ≤ x ∧ x ≤ 122 then x - 97 + 10 else if 65 ≤ x ∧ x ≤ 90 then x - 65 + 10 else 36

theorem wv_bd (x : Int) : 0 ≤ wv x ∧ wv x ≤ 36 := by
  unfold wv
  split
  · omega
  · split
    · omega
    · split <;> omega

theorem dret_u64 {a b : Int} (h : a = b) : Ending.returned (.int .u64 a) = .returned (.int .u64 b) := by rw [h]

set_option maxRecDepth 100000 in
theorem worth_any (x : Int) (w : World) (h0 : 0 ≤ x) (h1 : x < 256) :
    Calls Tryz.prog 212 #[.int .u8 x] w fun e w' => e = .returned (.int .u64 (wv x)) ∧ w' = w := by
  by_cases a1 : 48 ≤ x ∧ x ≤ 57
  · have E : Hid (x - 48 = wv x) := by show _ = _; rw [wv, if_pos a1]
    obtain ⟨a1, a2⟩ := a1
    go_enter Tryz.func212, Tryz.ntmps212
    go_wp2
    go_ret
    exact ⟨dret_u64 E.out, rfl⟩
  by_cases a2 : 97 ≤ x ∧ x ≤ 122
  · have E : Hid (x - 97 + 10 = wv x) := by show _ = _; rw [wv, if_neg a1, if_pos a2]
    obtain ⟨a3, a4⟩ := a2
    clear a1
    go_enter Tryz.func212, Tryz.ntmps212
    go_wp2
    go_ret
    exact ⟨dret_u64 E.out, rfl⟩
  by_cases a3 : 65 ≤ x ∧ x ≤ 90
  · have E : Hid (x - 65 + 10 = wv x) := by show _ = _; rw [wv, if_neg a1, if_neg a2, if_pos a3]
    obtain ⟨a5, a6⟩ := a3
    clear a1 a2
    go_enter Tryz.func212, Tryz.ntmps212
    go_wp2
    go_ret
    exact ⟨dret_u64 E.out, rfl⟩
  · have E : Hid (36 = wv x) := by show _ = _; rw [wv, if_neg a1, if_neg a2, if_neg a3]
    rcases (show x < 48 ∨ (57 < x ∧ x < 65) ∨ (90 < x ∧ x < 97) ∨ 122 < x by omega) with h | ⟨h, k⟩ | ⟨h, k⟩ | h <;> clear a1 a2 a3
    · go_enter Tryz.func212, Tryz.ntmps212
      go_wp2
      go_ret
      exact ⟨dret_u64 E.out, rfl⟩
    · go_enter Tryz.func212, Tryz.ntmps212
      go_wp2
      go_ret
      exact ⟨dret_u64 E.out, rfl⟩
    · go_enter Tryz.func212, Tryz.ntmps212
      go_wp2
      go_ret
      exact ⟨dret_u64 E.out, rfl⟩
    · go_enter Tryz.func212, Tryz.ntmps212
      go_wp2
      go_ret
      exact ⟨dret_u64 E.out, rfl⟩

/-- What wrong tells. -/
inductive WrongIs (xs : List Int) (B : Int) : Int → Prop
  | none : (∀ i, i < xs.length → wv (xs.getD i 0) < B) → WrongIs xs B (-1)
  | here (t : Nat) : t < xs.length → (∀ i, i < t → wv (xs.getD i 0) < B) → B ≤ wv (xs.getD t 0) → WrongIs xs B (t : Int)

set_option maxRecDepth 100000 in
set_option maxHeartbeats 1000000 in
theorem wrong_any (s : ByteArray) (xs : List Int) (n : Nat) (B : Int) (w : World) (hs : Str s xs) (hn : xs.length = n) (hn1 : n ≤ 140737488355328) :
    Calls Tryz.prog 206 #[.string s, .int .u64 B] w fun e w' => (∃ r, e = .returned (.int .i64 r) ∧ WrongIs xs B r) ∧ w' = w := by
  have hsz : s.size = n := by rw [hs.size, hn]
  have HS := hid hs
  have HN := hid hn
  clear hs hn
  go_enter Tryz.func206, Tryz.ntmps206
  go_wp2_with fail
  go_loop [5, 8] (fun _ c => ∃ j : Nat, c = .int .i64 (j : Int) ∧ j ≤ n ∧ Hid (∀ i, i < j → wv (xs.getD i 0) < B)) (fun _ c => n - (intOf c).toNat)
  case atStart => exact ⟨0, rfl, Nat.zero_le _, fun i hi => by omega⟩
  case round =>
    obtain ⟨j, rfl, hj, I⟩ := hrel
    by_cases hlt : j < n
    · have hji : (j : Int) < (n : Int) := by omega
      obtain ⟨x, X⟩ : ∃ x, Hid (xs.getD j 0 = x) := ⟨_, rfl⟩
      have hx : ∀ h : j < s.size, ((s[j]'h).toNat : Int) = x := fun h => by rw [HS.out.at j h, X.out]
      have hxb := HS.out.atb j
      rw [X.out] at hxb
      obtain ⟨hx0, hx1⟩ := hxb
      obtain ⟨v, V⟩ : ∃ v, Hid (wv x = v) := ⟨_, rfl⟩
      have WO := hid (worth_any x w hx0 hx1)
      rw [V.out] at WO
      have hv0 : 0 ≤ v := by have := (wv_bd x).1; have := V.out; omega
      have hv1 : v ≤ 36 := by have := (wv_bd x).2; have := V.out; omega
      by_cases hd : v < B
      · go_wp2_with fail
        refine WO.out.mono ?_
        rintro e w' ⟨rfl, rfl⟩
        have I2 : Hid (∀ i, i < j + 1 → wv (xs.getD i 0) < B) := fun i hi => by
          by_cases e : i = j
          · subst e; rw [X.out, V.out]; exact hd
          · exact I.out i (by omega)
        clear I WO
        go_wp2_with fail
        go_round
        case rel => exact ⟨j + 1, by go_num, by omega, I2.out⟩
        case measure => simp [intOf]; omega
      · have F : Hid (WrongIs xs B (j : Int)) := .here j (by have := HN.out; omega) I.out (by rw [X.out, V.out]; omega)
        clear I
        go_wp2_with fail
        refine WO.out.mono ?_
        rintro e w' ⟨rfl, rfl⟩
        clear WO
        go_wp2_with fail
        go_ret
        exact ⟨⟨_, rfl, F.out⟩, rfl⟩
    · obtain rfl : j = n := by omega
      have F : Hid (WrongIs xs B (-1)) := .none (fun i hi => I.out i (by have := HN.out; omega))
      clear I
      go_wp2_with fail
      go_ret
      exact ⟨⟨_, rfl, F.out⟩, rfl⟩
end Go.Proofs.YtjkefcikepnbpaaGreatDoor

namespace Go.Proofs.YtjkefcikepnbpaaGreatDoor
open Go.RowKit Go.Deep

/-- The number of a row of decimal digits. -/
def dv (ds : List Int) : Int := Dn.tv 10 0 (ds.map (fun d => d - 48))
def Digs (ds : List Int) : Prop := ∀ d ∈ ds, 48 ≤ d ∧ d ≤ 57

theorem dv_append (xs ys : List Int) : dv (xs ++ ys) = dv xs * 10 ^ ys.length + dv ys := by
  unfold dv
  rw [List.map_append, Dn.tv_append, Dn.tv_acc, List.length_map]

theorem dv_cons (x : Int) (ys : List Int) : dv (x :: ys) = (x - 48) * 10 ^ ys.length + dv ys := by
  have := dv_append [x] ys
  simpa [dv, Dn.tv] using this

theorem dv_zeros : ∀ k, dv (List.replicate k 48) = 0
  | 0 => rfl
  | k + 1 => by
    rw [List.replicate_succ, dv_cons, dv_zeros k]
    simp

theorem dv_bd {ds : List Int} (h : Digs ds) : 0 ≤ dv ds ∧ dv ds < 10 ^ ds.length := by
  have hm : ∀ d ∈ ds.map (fun d => d - 48), 0 ≤ d ∧ d < 10 := fun d hd => by
    obtain ⟨e, he, rfl⟩ := List.mem_map.1 hd
    have := h e he
    omega
  have h2 := Dn.tv_lt (show (0 : Int) < 10 by omega) _ hm
  rw [List.length_map] at h2
  exact ⟨Dn.tv_nonneg (by omega) 0 _ (Int.le_refl _) (fun d hd => (hm d hd).1), h2⟩

theorem wv_dig {x : Int} (h : 48 ≤ x ∧ x ≤ 57) : wv x = x - 48 := by rw [wv, if_pos h]

theorem digs_at {xs : List Int} (h : Digs xs) (i : Nat) (hi : i < xs.length) : 48 ≤ xs.getD i 0 ∧ xs.getD i 0 ≤ 57 := by
  have e : xs.getD i 0 = xs[i] := by simp [List.getD, hi]
  rw [e]
  exact h _ (List.getElem_mem hi)
end Go.Proofs.YtjkefcikepnbpaaGreatDoor

namespace Go.Proofs.YtjkefcikepnbpaaGreatDoor
open Go.RowKit Go.Deep
namespace Fx

/-- n digits of v. -/
def tx (n : Nat) (v : Int) : List Int := (Dn.dg 10 n v).map (fun d => d + 48)

theorem tx_len (n : Nat) (v : Int) : (tx n v).length = n := by simp [tx, Dn.dg_length]
theorem tx_digs (n : Nat) (v : Int) : Digs (tx n v) := by
  intro d hd
  obtain ⟨e, he, rfl⟩ := List.mem_map.1 hd
  have := Dn.dg_mem (B := 10) (by omega) n v e he
  omega
theorem tx_dv {n : Nat} {v : Int} (h0 : 0 ≤ v) (h1 : v < 10 ^ n) : dv (tx n v) = v := by
  unfold dv tx
  rw [List.map_map, show ((fun d : Int => d - 48) ∘ fun d => d + 48) = id from funext fun d => by simp, List.map_id]
  exact Dn.tv_dg (by omega) n v h0 h1
theorem eq_tx {ds : List Int} (h : Digs ds) : ds = tx ds.length (dv ds) := by
  have := Dn.dg_tv (B := 10) (by omega) ds.length (ds.map (fun d => d - 48)) (by simp) (fun d hd => by
    obtain ⟨e, he, rfl⟩ := List.mem_map.1 hd
    have := h e he
    omega)
  unfold tx dv
  rw [this, List.map_map, show ((fun d : Int => d + 48) ∘ fun d => d - 48) = id from funext fun d => by simp, List.map_id]
theorem digs_inj {a b : List Int} (ha : Digs a) (hb : Digs b) (hl : a.length = b.length) (hv : dv a = dv b) : a = b := by
  rw [eq_tx ha, eq_tx hb, hl, hv]

theorem p_pos (k : Nat) : (0 : Int) < 10 ^ k := Int.pow_pos (by omega)
theorem p_le {a b : Nat} (h : a ≤ b) : (10 : Int) ^ a ≤ 10 ^ b := by
  obtain ⟨c, rfl⟩ := Nat.exists_eq_add_of_le h
  rw [Int.pow_add]
  have h1 := p_pos a
  have h2 : (1 : Int) ≤ 10 ^ c := p_pos c
  have := Int.mul_le_mul_of_nonneg_left h2 (Int.le_of_lt h1)
  omega
theorem p_lt {a b : Nat} (h : (10 : Int) ^ a < 10 ^ b) : a < b := by
  rcases Nat.lt_or_ge a b with c | c
  · exact c
  · have := p_le c
    omega

theorem take_last {xs : List Int} {n : Nat} (hn : xs.length = n + 1) : xs = xs.take n ++ [xs.getD n 0] := by
  have h := List.take_append_drop n xs
  rw [List.drop_eq_getElem_cons (by omega), List.drop_of_length_le (by omega)] at h
  simpa [List.getD, show n < xs.length by omega] using h.symm
theorem dv_snoc (xs : List Int) (x : Int) : dv (xs ++ [x]) = dv xs * 10 + (x - 48) := by
  rw [dv_append, dv_cons]
  simp [dv, Dn.tv]
theorem digs_getD {xs : List Int} (h : Digs xs) {i : Nat} (hi : i < xs.length) : 48 ≤ xs.getD i 0 ∧ xs.getD i 0 ≤ 57 := digs_at h i hi
theorem dv_mod {xs : List Int} {n : Nat} (h : Digs xs) (hn : xs.length = n + 1) : dv xs % 10 = xs.getD n 0 - 48 := by
  have b := digs_getD h (show n < xs.length by omega)
  generalize hx : xs.getD n 0 = x at *
  have e := take_last hn
  rw [hx] at e
  rw [e, dv_snoc]
  omega
theorem head_low {xs : List Int} {n : Nat} (h : Digs xs) (hn : xs.length = n + 1) (hh : xs.getD 0 0 ≠ 48) : 10 ^ n ≤ dv xs := by
  match xs, hn with
  | x :: ys, hn =>
    have hl : ys.length = n := by simpa using hn
    have b := dv_bd (ds := ys) (fun d hd => h d (by simp [hd]))
    have hx := h x (by simp)
    have hx1 : 49 ≤ x := by simp at hh; omega
    rw [dv_cons, hl]
    have := Int.mul_le_mul_of_nonneg_right (show (1 : Int) ≤ x - 48 by omega) (Int.le_of_lt (p_pos n))
    omega

theorem len_eq {xs ys : List Int} (hx : Digs xs) (hy : Digs ys) (nx : xs ≠ []) (ny : ys ≠ []) (h1 : xs.getD 0 0 ≠ 48) (h2 : ys.getD 0 0 ≠ 48) (hv : dv xs = dv ys) : xs.length = ys.length := by
  obtain ⟨a, ha⟩ : ∃ a, xs.length = a + 1 := ⟨xs.length - 1, by have := List.length_pos_iff.2 nx; omega⟩
  obtain ⟨b, hb⟩ : ∃ b, ys.length = b + 1 := ⟨ys.length - 1, by have := List.length_pos_iff.2 ny; omega⟩
  have l1 := head_low hx ha h1
  have l2 := head_low hy hb h2
  have u1 := (dv_bd hx).2
  have u2 := (dv_bd hy).2
  have := p_lt (a := a) (b := ys.length) (by omega)
  have := p_lt (a := b) (b := xs.length) (by omega)
  omega

/-- A row of digits with none but needed ones. -/
structure Nml (xs : List Int) : Prop where
  digs : Digs xs
  ne : xs ≠ []
  head : xs.getD 0 0 ≠ 48
  last : xs.getD (xs.length - 1) 0 ≠ 48

theorem Nml.len {xs : List Int} (h : Nml xs) : ∃ n, xs.length = n + 1 := ⟨xs.length - 1, by have := List.length_pos_iff.2 h.ne; omega⟩
theorem Nml.mod {xs : List Int} (h : Nml xs) : dv xs % 10 ≠ 0 := by
  obtain ⟨n, hn⟩ := h.len
  have e := dv_mod h.digs hn
  have l := h.last
  rw [hn, Nat.add_sub_cancel] at l
  omega

theorem nml_le {xs ys : List Int} {a b : Nat} (hx : Nml xs) (_hy : Nml ys) (h : dv xs * 10 ^ a = dv ys * 10 ^ b) : b ≤ a := by
  rcases Nat.lt_or_ge a b with c | c
  · exfalso
    obtain ⟨d, rfl⟩ := Nat.exists_eq_add_of_lt c
    rw [show a + d + 1 = (d + 1) + a by omega, Int.pow_add, ← Int.mul_assoc] at h
    have e := Int.eq_of_mul_eq_mul_right (by have := p_pos a; omega) h
    rw [Int.pow_succ, ← Int.mul_assoc] at e
    have := hx.mod
    omega
  · exact c
theorem nml_one {xs ys : List Int} {a b : Nat} (hx : Nml xs) (hy : Nml ys) (h : dv xs * 10 ^ a = dv ys * 10 ^ b) : xs = ys ∧ a = b := by
  have e : a = b := Nat.le_antisymm (nml_le hy hx h.symm) (nml_le hx hy h)
  subst e
  have v := Int.eq_of_mul_eq_mul_right (by have := p_pos a; omega) h
  exact ⟨digs_inj hx.digs hy.digs (len_eq hx.digs hy.digs hx.ne hy.ne hx.head hy.head v) v, rfl⟩

/-- The zeros at the end taken off. -/
theorem nml_take {ys : List Int} {k : Nat} (hd : Digs ys) (hh : ys.getD 0 0 ≠ 48) (hk : k ≤ ys.length) (h0 : ∀ i, k ≤ i → i < ys.length → ys.getD i 0 = 48) (hl : 0 < k → ys.getD (k - 1) 0 ≠ 48) (hv : 0 < dv ys) : 0 < k ∧ Nml (ys.take k) ∧ dv (ys.take k) * 10 ^ (ys.length - k) = dv ys := by
  have e : ys.drop k = List.replicate (ys.length - k) 48 := by
    apply List.ext_getElem
    · simp
    · intro i h1 h2
      have h3 := h0 (k + i) (by omega) (by simp at h1; omega)
      simp at h1
      simpa [List.getD, show k + i < ys.length by omega] using h3
  have v : dv (ys.take k) * 10 ^ (ys.length - k) = dv ys := by
    conv => rhs; rw [← List.take_append_drop k ys, dv_append, e, dv_zeros]
    simp
  have kp : 0 < k := by
    rcases Nat.eq_zero_or_pos k with c | c
    · subst c
      rw [List.take_zero, show dv [] = 0 from rfl, Int.zero_mul] at v
      omega
    · exact c
  refine ⟨kp, ⟨fun d h => hd d (List.mem_of_mem_take h), ?_, ?_, ?_⟩, v⟩
  · intro c
    have e1 : (ys.take k).length = k := by rw [List.length_take]; omega
    rw [c, List.length_nil] at e1
    omega
  · simpa [List.getD, kp] using hh
  · have := hl kp
    have hm : min k ys.length = k := by omega
    rw [List.length_take, hm]
    simpa [List.getD, show k - 1 < k by omega] using this

theorem log_ex : ∀ (n : Nat), 0 < n → ∃ L : Nat, 10 ^ L ≤ n ∧ n < 10 ^ (L + 1) := by
  intro n
  induction n using Nat.strongRecOn with
  | _ n ih =>
    intro h
    rcases Nat.lt_or_ge n 10 with c | c
    · exact ⟨0, by simp; omega, by simp; omega⟩
    · obtain ⟨L, l1, l2⟩ := ih (n / 10) (by omega) (by omega)
      refine ⟨L + 1, ?_, ?_⟩
      · rw [Nat.pow_succ]; omega
      · rw [Nat.pow_succ]; omega

theorem nml_ex : ∀ (n : Nat), 0 < n → ∃ xs a, Nml xs ∧ dv xs * 10 ^ a = (n : Int) := by
  intro n
  induction n using Nat.strongRecOn with
  | _ n ih =>
    intro h
    rcases Nat.eq_zero_or_pos (n % 10) with c | c
    · obtain ⟨xs, a, h1, h2⟩ := ih (n / 10) (by omega) (by omega)
      refine ⟨xs, a + 1, h1, ?_⟩
      rw [Int.pow_succ, ← Int.mul_assoc, h2]
      omega
    · obtain ⟨L, l1, l2⟩ := log_ex n h
      have l1' : (10 : Int) ^ L ≤ (n : Int) := by have := Int.ofNat_le.2 l1; simpa using this
      have l2' : (n : Int) < (10 : Int) ^ (L + 1) := by have := Int.ofNat_lt.2 l2; simpa using this
      have hd := tx_digs (L + 1) (n : Int)
      have hl := tx_len (L + 1) (n : Int)
      have hv := tx_dv (n := L + 1) (v := (n : Int)) (by omega) l2'
      refine ⟨tx (L + 1) n, 0, ⟨hd, fun e => by rw [e] at hl; simp at hl, ?_, ?_⟩, by rw [hv]; simp⟩
      · match htx : tx (L + 1) (n : Int), hl with
        | x :: ys, hl =>
          rw [htx] at hv hd
          intro e
          simp at e
          have b := (dv_bd (ds := ys) (fun d h => hd d (by simp [h]))).2
          rw [dv_cons, e] at hv
          have : ys.length = L := by simpa using hl
          rw [this] at b
          omega
      · have := dv_mod hd hl
        rw [hl, Nat.add_sub_cancel]
        omega

def F5 : Int := 5 ^ 1074
theorem F5_pos : 0 < F5 := by unfold F5; exact Int.pow_pos (by omega)
theorem five_low : (10 : Nat) ^ 750 ≤ 5 ^ 1074 := by decide +kernel
theorem five_high : (2 : Nat) ^ 2098 * 5 ^ 1074 < 2 * 10 ^ 1382 := by decide +kernel
theorem F5_low : (10 : Int) ^ 750 ≤ F5 := by
  have := Int.ofNat_le.2 five_low
  unfold F5
  generalize 750 = a, 1074 = b at this ⊢
  rw [Int.natCast_pow, Int.natCast_pow] at this
  exact this
theorem F5_high : (2 : Int) ^ 2098 * F5 < 2 * 10 ^ 1382 := by
  have := Int.ofNat_lt.2 five_high
  unfold F5
  generalize 2098 = a, 1074 = b, 1382 = c at this ⊢
  rw [Int.natCast_mul, Int.natCast_mul, Int.natCast_pow, Int.natCast_pow, Int.natCast_pow] at this
  exact this

/-- xs and E: the exact digits of m * 2^e. -/
structure Ex (m e : Int) (xs : List Int) (E : Int) : Prop where
  lo : -1074 ≤ E
  zero : m = 0 → xs = [48] ∧ E = 0
  nml : 0 < m → Nml xs
  eq : 0 < m → dv xs * 10 ^ (E + 1074).toNat = m * 2 ^ (e + 1074).toNat * F5

theorem Ex.digs {m e : Int} {xs : List Int} {E : Int} (hm : 0 ≤ m) (h : Ex m e xs E) : Digs xs ∧ xs ≠ [] := by
  rcases (show m = 0 ∨ 0 < m by omega) with c | c
  · rw [(h.zero c).1]
    exact ⟨fun d hd => by simp at hd; omega, by simp⟩
  · exact ⟨(h.nml c).digs, (h.nml c).ne⟩

theorem Ex.one {m e : Int} {xs ys : List Int} {E F : Int} (hm : 0 ≤ m) (h : Ex m e xs E) (k : Ex m e ys F) : xs = ys ∧ E = F := by
  rcases (show m = 0 ∨ 0 < m by omega) with c | c
  · exact ⟨by rw [(h.zero c).1, (k.zero c).1], by rw [(h.zero c).2, (k.zero c).2]⟩
  · obtain ⟨e1, e2⟩ := nml_one (h.nml c) (k.nml c) (by rw [h.eq c, k.eq c])
    exact ⟨e1, by have := h.lo; have := k.lo; omega⟩

theorem ex_ex (m e : Int) (hm : 0 ≤ m) : ∃ xs E, Ex m e xs E := by
  rcases (show m = 0 ∨ 0 < m by omega) with c | c
  · exact ⟨[48], 0, by omega, fun _ => ⟨rfl, rfl⟩, fun h => by omega, fun h => by omega⟩
  · have hN : 0 < m * 2 ^ (e + 1074).toNat * F5 := Int.mul_pos (Int.mul_pos c (Int.pow_pos (by omega))) F5_pos
    obtain ⟨xs, a, h1, h2⟩ := nml_ex (m * 2 ^ (e + 1074).toNat * F5).toNat (by omega)
    refine ⟨xs, (a : Int) - 1074, by omega, fun h => by omega, fun _ => h1, fun _ => ?_⟩
    rw [show ((a : Int) - 1074 + 1074).toNat = a by omega, h2]
    omega

/-- Where the digits lie. -/
theorem Ex.room {m e : Int} {xs : List Int} {E : Int} (hm : 0 < m) (hm1 : m < 9007199254740992) (he : e ≤ 971) (h : Ex m e xs E) :
    -323 ≤ xs.length + E ∧ xs.length + E ≤ 309 ∧ ((xs.length : Int) + E = 309 → dv xs < 2 * 10 ^ (xs.length - 1)) := by
  obtain ⟨a, ha⟩ : ∃ a : Nat, (E + 1074).toNat = a := ⟨_, rfl⟩
  obtain ⟨k, hk⟩ : ∃ k : Nat, (e + 1074).toNat = k := ⟨_, rfl⟩
  have hk1 : k ≤ 2045 := by omega
  have q := h.eq hm
  rw [ha, hk] at q
  have p2 : (0 : Int) < 2 ^ k := Int.pow_pos (by omega)
  have f0 := F5_pos
  have low : (10 : Int) ^ 750 ≤ m * 2 ^ k * F5 := by
    have h1 : (1 : Int) ≤ m * 2 ^ k := Int.mul_pos hm p2
    have := Int.mul_le_mul_of_nonneg_right h1 (Int.le_of_lt f0)
    have := F5_low
    omega
  have high : m * 2 ^ k * F5 < 2 * 10 ^ 1382 := by
    have h1 : m * 2 ^ k ≤ 2 ^ 2098 := by
      have e1 : (2 : Int) ^ 2098 = 2 ^ 53 * (2 ^ (2045 - k) * 2 ^ k) := by rw [← Int.pow_add, ← Int.pow_add]; congr 1; omega
      rw [e1, ← Int.mul_assoc]
      refine Int.mul_le_mul_of_nonneg_right ?_ (Int.le_of_lt p2)
      have h3 : (1 : Int) ≤ 2 ^ (2045 - k) := Int.pow_pos (by omega)
      have h4 : (2 : Int) ^ 53 = 9007199254740992 := by decide
      rw [h4]
      generalize (2 : Int) ^ (2045 - k) = z at h3
      omega
    have := Int.mul_le_mul_of_nonneg_right h1 (Int.le_of_lt f0)
    have := F5_high
    omega
  obtain ⟨n, hn⟩ := (h.nml hm).len
  have b1 := head_low (h.nml hm).digs hn (h.nml hm).head
  have b2 := (dv_bd (h.nml hm).digs).2
  rw [← q] at low high
  have pa := p_pos a
  have c1 : (10 : Int) ^ (n + a) ≤ dv xs * 10 ^ a := by rw [Int.pow_add]; exact Int.mul_le_mul_of_nonneg_right b1 (Int.le_of_lt pa)
  have c2 : dv xs * 10 ^ a < 10 ^ (xs.length + a) := by rw [Int.pow_add]; exact Int.mul_lt_mul_of_pos_right b2 pa
  have d1 : n + a < 1383 := p_lt (by
    have : (10 : Int) ^ 1383 = 10 ^ 1382 * 10 := Int.pow_succ ..
    rw [this]
    have := p_pos 1382
    generalize (10 : Int) ^ 1382 = z at *
    omega)
  have d2 : 750 < xs.length + a := p_lt (by
    generalize (10 : Int) ^ 750 = z at *
    omega)
  have lo := h.lo
  refine ⟨by omega, by omega, fun c => ?_⟩
  have e1 : 1382 = n + a := by omega
  rw [e1, Int.pow_add, ← Int.mul_assoc] at high
  rw [hn, Nat.add_sub_cancel]
  exact Int.lt_of_mul_lt_mul_right high (Int.le_of_lt pa)

/-- The exact digits of m * 2^e, and their power of ten. -/
noncomputable def xd (m e : Int) : List Int := open Classical in if h : ∃ p : List Int × Int, Ex m e p.1 p.2 then (Classical.choose h).1 else []
noncomputable def ed (m e : Int) : Int := open Classical in if h : ∃ p : List Int × Int, Ex m e p.1 p.2 then (Classical.choose h).2 else 0
theorem ex_is {m e : Int} (hm : 0 ≤ m) : Ex m e (xd m e) (ed m e) := by
  obtain ⟨xs, E, h⟩ := ex_ex m e hm
  have k : ∃ p : List Int × Int, Ex m e p.1 p.2 := ⟨(xs, E), h⟩
  unfold xd ed
  rw [dif_pos k, dif_pos k]
  exact Classical.choose_spec k
theorem Ex.is {m e : Int} {xs : List Int} {E : Int} (hm : 0 ≤ m) (h : Ex m e xs E) : xs = xd m e ∧ E = ed m e := h.one hm (ex_is hm)

/-- What the digits of a whole number make. -/
theorem ex_of {m e : Int} {ys : List Int} {k : Nat} {F : Int} (hm : 0 < m) (hd : Digs ys) (hh : ys.getD 0 0 ≠ 48) (hk : k ≤ ys.length) (h0 : ∀ i, k ≤ i → i < ys.length → ys.getD i 0 = 48) (hl : 0 < k → ys.getD (k - 1) 0 ≠ 48)
    (hF : -1074 ≤ F) (hv : dv ys * 10 ^ (F + 1074).toNat = m * 2 ^ (e + 1074).toNat * F5) : Ex m e (ys.take k) (F + (ys.length - k)) ∧ 0 < k := by
  have vp : 0 < dv ys := by
    have hN : 0 < m * 2 ^ (e + 1074).toNat * F5 := Int.mul_pos (Int.mul_pos hm (Int.pow_pos (by omega))) F5_pos
    rw [← hv] at hN
    have := (dv_bd hd).1
    rcases (show dv ys = 0 ∨ 0 < dv ys by omega) with c | c
    · rw [c, Int.zero_mul] at hN; omega
    · exact c
  obtain ⟨kp, n, v⟩ := nml_take hd hh hk h0 hl vp
  refine ⟨⟨by omega, fun c => by omega, fun _ => n, fun _ => ?_⟩, kp⟩
  rw [← hv, ← v, show (F + ((ys.length : Int) - (k : Int)) + 1074).toNat = (ys.length - k) + (F + 1074).toNat by omega, Int.pow_add, Int.mul_assoc]
end Fx
end Go.Proofs.YtjkefcikepnbpaaGreatDoor

namespace Go.Proofs.YtjkefcikepnbpaaGreatDoor
open Go Go.RowKit Go.Deep

/-- A block of bytes of our own; a mark may stand behind its end. -/
def OwnL (w : World) (g : Nat) (zs : List Int) : Prop := ∃ lo hi, w.heap[g]? = some (.cells (zs.map (Value.int .u8)).toArray 5 (lo, hi)) ∧ zs.length ≤ lo

theorem OwnL.cell {w : World} {g : Nat} {zs : List Int} (h : OwnL w g zs) (i : Nat) (hi : i < zs.length) : w.cell? ⟨g, i, none⟩ = some (.int .u8 (zs.getD i 0)) := by
  obtain ⟨lo, k, h, _⟩ := h
  simp [World.cell?, h, List.getD, hi]

theorem OwnL.free {w : World} {g : Nat} {zs : List Int} (h : OwnL w g zs) (i : Nat) (hi : i < zs.length) : w.frozen? ⟨g, i, none⟩ = false := by
  obtain ⟨lo, k, h, hl⟩ := h
  simp [World.frozen?, h]
  omega

theorem OwnL.lt {w : World} {g : Nat} {zs : List Int} (h : OwnL w g zs) : g < w.heap.size := by
  obtain ⟨lo, k, h, _⟩ := h
  rcases Nat.lt_or_ge g w.heap.size with hl | hl
  · exact hl
  · simp [Array.getElem?_eq_none hl] at h

theorem OwnL.set {w : World} {g : Nat} {zs : List Int} (h : OwnL w g zs) (i : Nat) (s : Int) : OwnL (w.setCell ⟨g, i, none⟩ (.int .u8 s)) g (zs.set i s) := by
  have hl := h.lt
  obtain ⟨lo, k, h, hz⟩ := h
  exact ⟨lo, k, by simp [World.setCell, Array.getElem?_modify, h, List.map_set], by simpa using hz⟩

theorem OwnL.below {w w' : World} {B g : Nat} {zs : List Int} (h : OwnL w g zs) (hb : Below B w w') (hg : g < B) : OwnL w' g zs := by
  obtain ⟨lo, k, h, hz⟩ := h
  exact ⟨lo, k, by rw [hb.block g hg, h], hz⟩

theorem own_strL {g k cap : Nat} {W : World} {fs : List Int} (o : OwnL W g fs) (hl : k ≤ fs.length) (hd : Digs (fs.take k)) :
    ∃ s, Str s (fs.take k) ∧ (convert 38 9 (.slice (some ⟨g, 0, none⟩) k cap)).run Tryz.prog W = .ok (.string s) W := by
  have hlen : (fs.take k).length = k := by simp; omega
  refine ⟨strOfNums (fs.take k), Str.of_nums (fun x hx => by have := hd x hx; omega), run_convert_bytes_arg (P := Tryz.prog) W 38 5 Tryz.underlying38 Tryz.underlying5 g 0 k cap (fs.take k) hlen (fun i hi => ?_) 9 Tryz.underlying9⟩
  rw [Nat.zero_add, o.cell i (by omega)]
  simp [List.getD, hi]

end Go.Proofs.YtjkefcikepnbpaaGreatDoor

namespace Go.Proofs.YtjkefcikepnbpaaGreatDoor
open Go Go.RowKit Go.Deep


end Go.Proofs.YtjkefcikepnbpaaGreatDoor

namespace Go.Proofs.YtjkefcikepnbpaaGreatDoor
open Go Go.RowKit Go.Deep


/-- The room for the answer, empty; the literal in its box. -/
def RM (w w' : World) (neg : Bool) (A B : ByteArray) (sc en : Int) : Prop :=
  Below w.heap.size w w' ∧ Row5 w' w.heap.size 87 (.bool false) (.string ⟨#[]⟩) (.string ⟨#[]⟩) (.int .i64 0) (.int .i64 0) ∧ Row5 w' (w.heap.size + 1) 87 (.bool neg) (.string A) (.string B) (.int .i64 sc) (.int .i64 en)

theorem RM.new (w : World) (neg : Bool) : RM w ((w.alloc (.cells #[.bool false, .string ⟨#[]⟩, .string ⟨#[]⟩, .int .i64 0, .int .i64 0] 87)).alloc (.cells #[.bool neg, .string ⟨#[]⟩, .string ⟨#[]⟩, .int .i64 0, .int .i64 0] 87)) neg ⟨#[]⟩ ⟨#[]⟩ 0 0 := by
  refine ⟨below_on (alloc_b _ _) (alloc_b _ _), heap_alloc2_old _ _ _, heap_alloc2_new _ _ _⟩

theorem RM.cells {w w' : World} {neg : Bool} {A B : ByteArray} {sc en : Int} (h : RM w w' neg A B sc en) :
    (w'.cell? ⟨w.heap.size + 1, 0, none⟩ = some (.bool neg) ∧ w'.cell? ⟨w.heap.size + 1, 1, none⟩ = some (.string A) ∧ w'.cell? ⟨w.heap.size + 1, 2, none⟩ = some (.string B) ∧ w'.cell? ⟨w.heap.size + 1, 3, none⟩ = some (.int .i64 sc) ∧ w'.cell? ⟨w.heap.size + 1, 4, none⟩ = some (.int .i64 en)) ∧
    (w'.frozen? ⟨w.heap.size + 1, 0, none⟩ = false ∧ w'.frozen? ⟨w.heap.size + 1, 1, none⟩ = false ∧ w'.frozen? ⟨w.heap.size + 1, 2, none⟩ = false ∧ w'.frozen? ⟨w.heap.size + 1, 3, none⟩ = false ∧ w'.frozen? ⟨w.heap.size + 1, 4, none⟩ = false) := h.2.2.cells
theorem RM.room {w w' : World} {neg : Bool} {A B : ByteArray} {sc en : Int} (h : RM w w' neg A B sc en) :
    (w'.cell? ⟨w.heap.size, 0, none⟩ = some (.bool false) ∧ w'.cell? ⟨w.heap.size, 1, none⟩ = some (.string ⟨#[]⟩) ∧ w'.cell? ⟨w.heap.size, 2, none⟩ = some (.string ⟨#[]⟩) ∧ w'.cell? ⟨w.heap.size, 3, none⟩ = some (.int .i64 0) ∧ w'.cell? ⟨w.heap.size, 4, none⟩ = some (.int .i64 0)) ∧
    (w'.frozen? ⟨w.heap.size, 0, none⟩ = false ∧ w'.frozen? ⟨w.heap.size, 1, none⟩ = false ∧ w'.frozen? ⟨w.heap.size, 2, none⟩ = false ∧ w'.frozen? ⟨w.heap.size, 3, none⟩ = false ∧ w'.frozen? ⟨w.heap.size, 4, none⟩ = false) := h.2.1.cells
theorem RM.ahead {w w' : World} {neg : Bool} {A B : ByteArray} {sc en : Int} (h : RM w w' neg A B sc en) (A' : ByteArray) : RM w (w'.setCell ⟨w.heap.size + 1, 1, none⟩ (.string A')) neg A' B sc en :=
  ⟨h.1.setCell (p := ⟨w.heap.size + 1, 1, none⟩) (Nat.le_succ _) _, h.2.1.set_far (by omega), set1 h.2.2 (by simp [Array.setIfInBounds])⟩
theorem RM.behind {w w' : World} {neg : Bool} {A B : ByteArray} {sc en : Int} (h : RM w w' neg A B sc en) (B' : ByteArray) : RM w (w'.setCell ⟨w.heap.size + 1, 2, none⟩ (.string B')) neg A B' sc en :=
  ⟨h.1.setCell (p := ⟨w.heap.size + 1, 2, none⟩) (Nat.le_succ _) _, h.2.1.set_far (by omega), set1 h.2.2 (by simp [Array.setIfInBounds])⟩
theorem RM.en {w w' : World} {neg : Bool} {A B : ByteArray} {sc en : Int} (h : RM w w' neg A B sc en) (x : Int) : RM w (w'.setCell ⟨w.heap.size + 1, 4, none⟩ (.int .i64 x)) neg A B sc x :=
  ⟨h.1.setCell (p := ⟨w.heap.size + 1, 4, none⟩) (Nat.le_succ _) _, h.2.1.set_far (by omega), set1 h.2.2 (by simp [Array.setIfInBounds])⟩
theorem RM.drew {w w' : World} {neg : Bool} {A B : ByteArray} {sc en : Int} (h : RM w w' neg A B sc en) (n : Nat) : RM w (w'.drewN n) neg A B sc en := ⟨below_drewN h.1 n, h.2.1, h.2.2⟩

theorem RM.put {w w' : World} {neg : Bool} {A B : ByteArray} {sc en : Int} (h : RM w w' neg A B sc en) (v0 v1 v2 v3 v4 : Value) :
    (((((w'.setCell ⟨w.heap.size, 0, none⟩ v0).setCell ⟨w.heap.size, 1, none⟩ v1).setCell ⟨w.heap.size, 2, none⟩ v2).setCell ⟨w.heap.size, 3, none⟩ v3).setCell ⟨w.heap.size, 4, none⟩ v4).heap[w.heap.size]? = some (.cells #[v0, v1, v2, v3, v4] 87 (0, 0)) ∧
    Below w.heap.size w (((((w'.setCell ⟨w.heap.size, 0, none⟩ v0).setCell ⟨w.heap.size, 1, none⟩ v1).setCell ⟨w.heap.size, 2, none⟩ v2).setCell ⟨w.heap.size, 3, none⟩ v3).setCell ⟨w.heap.size, 4, none⟩ v4) := by
  have h0 := set1 (o := 0) (v := v0) (c' := #[v0, .string ⟨#[]⟩, .string ⟨#[]⟩, .int .i64 0, .int .i64 0]) h.2.1 (by simp [Array.setIfInBounds])
  have h1 := set1 (o := 1) (v := v1) (c' := #[v0, v1, .string ⟨#[]⟩, .int .i64 0, .int .i64 0]) h0 (by simp [Array.setIfInBounds])
  have h2 := set1 (o := 2) (v := v2) (c' := #[v0, v1, v2, .int .i64 0, .int .i64 0]) h1 (by simp [Array.setIfInBounds])
  have h3 := set1 (o := 3) (v := v3) (c' := #[v0, v1, v2, v3, .int .i64 0]) h2 (by simp [Array.setIfInBounds])
  exact ⟨set1 (o := 4) (v := v4) (c' := #[v0, v1, v2, v3, v4]) h3 (by simp [Array.setIfInBounds]), ((((h.1.setCell (p := ⟨w.heap.size, 0, none⟩) (Nat.le_refl _) v0).setCell (p := ⟨w.heap.size, 1, none⟩) (Nat.le_refl _) v1).setCell (p := ⟨w.heap.size, 2, none⟩) (Nat.le_refl _) v2).setCell (p := ⟨w.heap.size, 3, none⟩) (Nat.le_refl _) v3).setCell (p := ⟨w.heap.size, 4, none⟩) (Nat.le_refl _) v4⟩

/-- What holds at each label: 0 ahead, 2 behind, 1 number, 3 exponent. -/
inductive RI (xs : List Int) (k : Nat) (w w' : World) : Nat → Nat → Value → Value → Prop
  | ahead (j : Nat) (bel : Value) (h1 : Sc.p1 xs k ≤ j) (h2 : j + Sc.run Sc.dg xs j = Sc.p2 xs k) (m : RM w w' (decide (Sc.pk xs k = 45)) ⟨#[]⟩ ⟨#[]⟩ 0 0) : RI xs k w w' 0 j bel (.int .i64 (Sc.p1 xs k : Nat))
  | behind (j : Nat) (bel : Value) (A : ByteArray) (hA : Str A (Sc.lit xs k).ah) (hp : Sc.pk xs (Sc.p2 xs k) = 46) (h1 : Sc.p2 xs k + 1 ≤ j) (h2 : j + Sc.run Sc.dg xs j = Sc.p3 xs k) (m : RM w w' (decide (Sc.pk xs k = 45)) A ⟨#[]⟩ 0 0) : RI xs k w w' 2 j bel (.int .i64 ((Sc.p2 xs k + 1 : Nat) : Int))
  | number (bel frm : Value) (A B : ByteArray) (hA : Str A (Sc.lit xs k).ah) (hB : Str B (Sc.lit xs k).bh) (m : RM w w' (decide (Sc.pk xs k = 45)) A B 0 0) : RI xs k w w' 1 (Sc.p3 xs k) bel frm
  | power (j : Nat) (frm : Value) (A B : ByteArray) (hs : Sc.some? xs k) (hA : Str A (Sc.lit xs k).ah) (hB : Str B (Sc.lit xs k).bh) (he : Sc.hasE xs (Sc.p3 xs k) = true) (h1 : Sc.p4 xs (Sc.p3 xs k) ≤ j) (h2 : j + Sc.run Sc.dg xs j = Sc.p4 xs (Sc.p3 xs k) + Sc.run Sc.dg xs (Sc.p4 xs (Sc.p3 xs k)))
      (m : RM w w' (decide (Sc.pk xs k = 45)) A B (Sc.cap ((xs.drop (Sc.p4 xs (Sc.p3 xs k))).take (j - Sc.p4 xs (Sc.p3 xs k)))) (Sc.p3 xs k : Nat)) : RI xs k w w' 3 j (.bool (decide (Sc.pk xs (Sc.p3 xs k + 1) = 45))) frm

theorem frame_all (a : Act) (h : a.tmps.size = 109) (hd : a.defers = []) : ∃ u : Nat → Value, a = { tmps := #[u 0, u 1, u 2, u 3, u 4, u 5, u 6, u 7, u 8, u 9, u 10, u 11, u 12, u 13, u 14, u 15, u 16, u 17, u 18, u 19, u 20, u 21, u 22, u 23, u 24, u 25, u 26, u 27, u 28, u 29, u 30, u 31, u 32, u 33, u 34, u 35, u 36, u 37, u 38, u 39, u 40, u 41, u 42, u 43, u 44, u 45, u 46, u 47, u 48, u 49, u 50, u 51, u 52, u 53, u 54, u 55, u 56, u 57, u 58, u 59, u 60, u 61, u 62, u 63, u 64, u 65, u 66, u 67, u 68, u 69, u 70, u 71, u 72, u 73, u 74, u 75, u 76, u 77, u 78, u 79, u 80, u 81, u 82, u 83, u 84, u 85, u 86, u 87, u 88, u 89, u 90, u 91, u 92, u 93, u 94, u 95, u 96, u 97, u 98, u 99, u 100, u 101, u 102, u 103, u 104, u 105, u 106, u 107, u 108], defers := [] } := by
  refine ⟨fun i => a.tmps.toList.getD i undef, ?_⟩
  obtain ⟨⟨l⟩, d⟩ := a
  simp only at hd h
  subst hd
  have e : l = (List.range 109).map (fun i => l.getD i undef) := by
    have h' : l.length = 109 := h
    apply List.ext_getElem
    · simp [h']
    · intro i h1 h2
      simp [List.getD, h1]
  conv => lhs; rw [e]
  rfl
def RJ (s : ByteArray) (xs : List Int) (k : Nat) (w : World) (l : Nat) (a : Act) (w' : World) : Prop :=
  a.tmps.size = 109 ∧ a.defers = [] ∧ ∃ (at_ : Int) (bel frm : Value), a.tmps.getD 0 undef = .string s ∧ a.tmps.getD 1 undef = .int .i64 at_ ∧ a.tmps.getD 4 undef = .pointer (some ⟨w.heap.size, 0, none⟩) ∧ a.tmps.getD 6 undef = .pointer (some ⟨w.heap.size + 1, 0, none⟩) ∧ a.tmps.getD 7 undef = bel ∧ a.tmps.getD 8 undef = frm ∧ ∃ j : Nat, at_ = j ∧ RI xs k w w' l j bel frm
theorem RJ.open {s : ByteArray} {xs : List Int} {k : Nat} {w : World} {l : Nat} {a : Act} {w' : World} (h : RJ s xs k w l a w') : ∃ (u : Nat → Value) (j : Nat) (bel frm : Value), a = { tmps := #[.string s, .int .i64 j, u 2, u 3, .pointer (some ⟨w.heap.size, 0, none⟩), u 5, .pointer (some ⟨w.heap.size + 1, 0, none⟩), bel, frm, u 9, u 10, u 11, u 12, u 13, u 14, u 15, u 16, u 17, u 18, u 19, u 20, u 21, u 22, u 23, u 24, u 25, u 26, u 27, u 28, u 29, u 30, u 31, u 32, u 33, u 34, u 35, u 36, u 37, u 38, u 39, u 40, u 41, u 42, u 43, u 44, u 45, u 46, u 47, u 48, u 49, u 50, u 51, u 52, u 53, u 54, u 55, u 56, u 57, u 58, u 59, u 60, u 61, u 62, u 63, u 64, u 65, u 66, u 67, u 68, u 69, u 70, u 71, u 72, u 73, u 74, u 75, u 76, u 77, u 78, u 79, u 80, u 81, u 82, u 83, u 84, u 85, u 86, u 87, u 88, u 89, u 90, u 91, u 92, u 93, u 94, u 95, u 96, u 97, u 98, u 99, u 100, u 101, u 102, u 103, u 104, u 105, u 106, u 107, u 108], defers := [] } ∧ RI xs k w w' l j bel frm := by
  obtain ⟨h1, h2, at_, bel, frm, e0, e1, e4, e6, e7, e8, j, rfl, I⟩ := h
  obtain ⟨u, rfl⟩ := frame_all a h1 h2
  refine ⟨u, j, bel, frm, ?_, I⟩
  have e0' : u 0 = .string s := e0
  have e1' : u 1 = .int .i64 j := e1
  have e4' : u 4 = .pointer (some ⟨w.heap.size, 0, none⟩) := e4
  have e6' : u 6 = .pointer (some ⟨w.heap.size + 1, 0, none⟩) := e6
  have e7' : u 7 = bel := e7
  have e8' : u 8 = frm := e8
  rw [e0', e1', e4', e6', e7', e8']

end Go.Proofs.YtjkefcikepnbpaaGreatDoor

namespace Go.Proofs.YtjkefcikepnbpaaGreatDoor
open Go.RowKit Go.Deep

theorem bytes_cells {s : ByteArray} {xs : List Int} (hs : Str s xs) (w : World) (cap : Nat) (fr : Nat × Nat) (i : Nat) (hi : i < xs.length) : (w.drew.alloc (.cells (bytesRow s cap) 5 fr)).cell? ⟨w.heap.size, i, none⟩ = some (.int .u8 (xs.getD i 0)) := by
  have h1 := World.cell?_alloc_mark w.drew (bytesRow s cap) 5 fr i
  have hi2 : i < s.data.size := by have := hs.size; have e : s.size = s.data.size := rfl; omega
  rw [show w.drew.heap.size = w.heap.size from rfl, bytesRow_at s cap i hi2] at h1
  rw [h1, ← hs.at i hi2]
  rfl

theorem tv_take_succ (B : Int) (ys : List Int) (j : Nat) (hj : j < ys.length) : Dn.tv B 0 (ys.take (j + 1)) = Dn.tv B 0 (ys.take j) * B + ys.getD j 0 := by
  rw [List.take_add_one, List.getElem?_eq_getElem hj, Dn.tv_append]
  simp [Dn.tv, List.getD, hj]

set_option maxRecDepth 100000 in
set_option maxHeartbeats 1000000 in
theorem limb_any (s : ByteArray) (xs : List Int) (n W : Nat) (B : Int) (w : World) (hs : Str s xs) (hn : xs.length = n) (hnW : n ≤ W) (hW : W ≤ 63) (h2 : 2 ≤ B) (h36 : B ≤ 36) (hBW : B ^ W < 18446744073709551616) (hd : ∀ i, i < xs.length → wv (xs.getD i 0) < B) :
    Calls Tryz.prog 214 #[.string s, .int .u64 B] w fun e w' => e = .returned (.int .u64 (Dn.tv B 0 (xs.map wv))) ∧ Below w.heap.size w w' := by
  have CV := run_bytes_of_string (P := Tryz.prog) w 9 38 5 s Tryz.underlying9 Tryz.underlying38 Tryz.underlying5
  have hsz : s.size = n := by rw [hs.size, hn]
  rw [hsz] at CV
  obtain ⟨cap, hcap⟩ : ∃ cap, grownCap w n 0 5 = cap := ⟨_, rfl⟩
  rw [hcap] at CV
  have CE := hid (fun i hi => bytes_cells hs w cap ((bytesRow s cap).size, (bytesRow s cap).size + 1) i hi)
  have BW : Below w.heap.size w (w.drew.alloc (.cells (bytesRow s cap) 5 ((bytesRow s cap).size, (bytesRow s cap).size + 1))) := (below_drewN (Below.refl _ _) 1).alloc (Nat.le_refl _) _
  obtain ⟨w1, hw1⟩ : ∃ w1, w.drew.alloc (.cells (bytesRow s cap) 5 ((bytesRow s cap).size, (bytesRow s cap).size + 1)) = w1 := ⟨_, rfl⟩
  rw [hw1] at CV CE BW
  have HS := hid hs
  have HN := hid hn
  have HD := hid hd
  have D1 := hid BW
  have HB : ShutG (B ^ W < 18446744073709551616) := ⟨hBW⟩
  clear hs hn hd BW hw1 hcap hBW
  go_enter Tryz.func214, Tryz.ntmps214
  go_wp2_with fail
  go_loop [5, 7, 11] (fun a _ c => ∃ (j : Nat) (A : Int), a = .int .u64 A ∧ c = .int .i64 (j : Int) ∧ j ≤ n ∧ Hid (A = Dn.tv B 0 ((xs.map wv).take j))) (fun _ _ c => n - (intOf c).toNat)
  case atStart => exact ⟨0, 0, rfl, rfl, Nat.zero_le _, by simp [Hid, Dn.tv]⟩
  case round =>
    obtain ⟨j, A, rfl, rfl, hj, I⟩ := hrel
    have hn63 : (n : Int) ≤ 63 := by omega
    by_cases hlt : j < n
    · have hji : (j : Int) < (n : Int) := by omega
      obtain ⟨x, hx, X⟩ : ∃ x, w1.cell? ⟨w.heap.size, j, none⟩ = some (.int .u8 x) ∧ Hid (x = xs.getD j 0) := ⟨_, CE.out j (by have := HN.out; omega), rfl⟩
      have hxb := HS.out.atb j
      rw [← X.out] at hxb
      obtain ⟨v, V⟩ : ∃ v, Hid (wv x = v) := ⟨_, rfl⟩
      have WO := hid (worth_any x w1 hxb.1 hxb.2)
      rw [V.out] at WO
      have hv0 : 0 ≤ v := by have := (wv_bd x).1; have := V.out; omega
      have ST := tv_take_succ B (xs.map wv) j (by have := HN.out; simp; omega)
      have e0 : (xs.map wv).getD j 0 = v := by
        rw [← V.out, X.out]
        have : j < xs.length := by have := HN.out; omega
        simp [List.getD, this]
      rw [e0, ← I.out] at ST
      have dig : ∀ d ∈ (xs.map wv), 0 ≤ d ∧ d < B := by
        intro d hd
        obtain ⟨y, hy, rfl⟩ := List.mem_map.1 hd
        obtain ⟨i, hi, rfl⟩ := List.getElem_of_mem hy
        have := HD.out i hi
        simp only [List.getD, List.getElem?_eq_getElem hi, Option.getD_some] at this
        exact ⟨(wv_bd _).1, this⟩
      have hA0 : 0 ≤ A := by rw [I.out]; exact Dn.tv_nonneg (by omega) 0 _ (by omega) (fun d hd => (dig d (List.mem_of_mem_take hd)).1)
      have hlt2 : A * B + v < 18446744073709551616 := by
        rw [← ST]
        have h1 := Dn.tv_lt (show 0 < B by omega) ((xs.map wv).take (j + 1)) (fun d hd => dig d (List.mem_of_mem_take hd))
        have h3 := Pn.pow_mono (show 1 ≤ B by omega) (show ((xs.map wv).take (j + 1)).length ≤ W by simp; omega)
        have h4 := HB.out
        omega
      have hC0 : 0 ≤ A * B := Int.mul_nonneg hA0 (by omega)
      obtain ⟨C, HC⟩ : ∃ C, Hid (A * B = C) := ⟨_, rfl⟩
      rw [HC.out] at hlt2 hC0 ST
      have q1 : IntKind.u64.wrap (A * B) = C := by rw [HC.out, IntKind.wrap_u64]; omega
      have I2 := hid ST.symm
      clear I ST dig e0 hxb
      go_wp2_with fail
      refine WO.out.mono ?_
      rintro e w' ⟨rfl, rfl⟩
      clear WO
      go_wp2_with fail
      go_round
      case rel => exact ⟨j + 1, C + v, rfl, by go_num, by omega, I2.out⟩
      case measure => simp [intOf]; omega
    · obtain rfl : j = n := by omega
      have F : Hid (A = Dn.tv B 0 (xs.map wv)) := by
        have := I.out
        rw [List.take_of_length_le (by have := HN.out; simp; omega)] at this
        exact this
      clear I
      go_wp2_with fail
      go_ret
      exact ⟨by rw [← F.out]; rfl, D1.out⟩
end Go.Proofs.YtjkefcikepnbpaaGreatDoor

namespace Go.Proofs.YtjkefcikepnbpaaGreatDoor
open Go Go.RowKit Go.Deep

theorem tab_laid : (Rows.laid_math_bits_deBruijn64tab : DataW Unit) = Lib.tabData .u8 (List.map Int.ofNat Lib.deBruijn64tab) := by kernel_rfl

theorem tab_of {W : World} {rest : List (String × DataW Unit)} (h : laidMet Tryz.prog (("math/bits.deBruijn64tab", Rows.laid_math_bits_deBruijn64tab) :: rest) W) : Tab W := by
  rw [tab_laid] at h
  have ht := Lib.tabIs_of_head (g := 0) (t := 112) (e := 5) (n := 64) (k := .u8) (zs := List.map Int.ofNat Lib.deBruijn64tab) (by kernel_rfl) (by kernel_rfl) Tryz.underlying112 Tryz.underlying5 (by kernel_rfl) (by kernel_rfl) h
  intro j hj
  have hl : (List.map Int.ofNat Lib.deBruijn64tab).length = Lib.deBruijn64tab.length := by simp
  rw [ht.cell (g := 0) (by kernel_rfl) j (by omega)]
  simp [List.getD, hj]

end Go.Proofs.YtjkefcikepnbpaaGreatDoor

namespace Go.Proofs.YtjkefcikepnbpaaGreatDoor
open Go Go.RowKit Go.Deep

theorem laid_tail12 {P : Program} {W : World} {x : String × DataW Unit} {rest : List (String × DataW Unit)} (h : laidMet P (x :: rest) W) : laidMet P rest W := by
  obtain ⟨ps, ⟨g, t, cs, fuel, p, q, _, _, _, _, hr, rfl⟩, hn, hc⟩ := h
  exact ⟨q, hr, (List.nodup_append.1 hn).2.1, fun b off hm => hc b off (List.mem_append_right _ hm)⟩

theorem pow_laid12 : (Rows.laid_internal_strconv_uint64pow10 : DataW Unit) = Lib.tabData .u64 Lib.pow10Tab := by kernel_rfl

theorem tables12 {W : World} {a : String × DataW Unit} {rest : List (String × DataW Unit)} (h : laidMet Tryz.prog (a :: ("math/bits.deBruijn64tab", Rows.laid_math_bits_deBruijn64tab) :: ("internal/strconv.uint64pow10", Rows.laid_internal_strconv_uint64pow10) :: rest) W) : Tab W ∧ Tab10 W := by
  have h1 := laid_tail12 h
  have h2 := laid_tail12 h1
  rw [pow_laid12] at h2
  exact ⟨tab_of h1, Lib.tabIs_of_head (g := 3) (t := 165) (e := 22) (n := 20) (by kernel_rfl) (by kernel_rfl) Tryz.underlying165 Tryz.underlying22 (by kernel_rfl) (by kernel_rfl) h2⟩
end Go.Proofs.YtjkefcikepnbpaaGreatDoor
