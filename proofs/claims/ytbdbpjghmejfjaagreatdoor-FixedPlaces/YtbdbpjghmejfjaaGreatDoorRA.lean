/-
  Texts put together: NDv, FNum, FShl, Div1, Walk5, Small.
-/
import Derived.Test.YtbdbpjghmejfjaaGreatDoorNDigit
import Derived.Test.YtbdbpjghmejfjaaGreatDoorNums
import Derived.Test.YtbdbpjghmejfjaaGreatDoorShl
import Derived.Test.YtbdbpjghmejfjaaGreatDoorLen
import Derived.Lib.ItoaNum
import Derived.Laws.Bits64b
import Derived.Deep.QuietTactic
import Derived.BigQuiet
import Derived.Test.YtbdbpjghmejfjaaGreatDoorWalk5a
import Derived.Test.YtbdbpjghmejfjaaGreatDoorSmallA
namespace Go.Proofs.YtbdbpjghmejfjaaGreatDoor
open Go.RowKit Go.Deep

/-- The number of a row of decimal digits. -/
def dv (ds : List Int) : Int := Dn.tv 10 0 (ds.map (fun d => d - 48))
def Digs (ds : List Int) : Prop := ∀ d ∈ ds, 48 ≤ d ∧ d ≤ 57

theorem dv_append (xs ys : List Int) : dv (xs ++ ys) = dv xs * 10 ^ ys.length + dv ys := by
  unfold dv
  rw [List.map_append, Dn.tv_append, Dn.tv_acc, List.length_map]

theorem dv_cons (x : Int) (ys : List Int) : dv (x :: ys) = (x - 48) * 10 ^ ys.length + dv ys := by
  have := dv_append [x] ys
  simpa [dv, Dn.tv] using this

theorem dv_zeros : ∀ k, dv (List.replicate k 48) = 0
  | 0 => rfl
  | k + 1 => by
    rw [List.replicate_succ, dv_cons, dv_zeros k]
    simp

theorem dv_nines : ∀ k, dv (List.replicate k 57) = 10 ^ k - 1
  | 0 => rfl
  | k + 1 => by
    rw [List.replicate_succ, dv_cons, dv_nines k, List.length_replicate, Int.pow_succ]
    omega

theorem dv_bd {ds : List Int} (h : Digs ds) : 0 ≤ dv ds ∧ dv ds < 10 ^ ds.length := by
  have hm : ∀ d ∈ ds.map (fun d => d - 48), 0 ≤ d ∧ d < 10 := fun d hd => by
    obtain ⟨e, he, rfl⟩ := List.mem_map.1 hd
    have := h e he
    omega
  have h2 := Dn.tv_lt (show (0 : Int) < 10 by omega) _ hm
  rw [List.length_map] at h2
  exact ⟨Dn.tv_nonneg (by omega) 0 _ (Int.le_refl _) (fun d hd => (hm d hd).1), h2⟩

theorem wv_dig {x : Int} (h : 48 ≤ x ∧ x ≤ 57) : wv x = x - 48 := by rw [wv, if_pos h]

theorem digs_at {xs : List Int} (h : Digs xs) (i : Nat) (hi : i < xs.length) : 48 ≤ xs.getD i 0 ∧ xs.getD i 0 ≤ 57 := by
  have e : xs.getD i 0 = xs[i] := by simp [List.getD, hi]
  rw [e]
  exact h _ (List.getElem_mem hi)
end Go.Proofs.YtbdbpjghmejfjaaGreatDoor

namespace Go.Proofs.YtbdbpjghmejfjaaGreatDoor
open Go.RowKit Go.Deep
namespace Fx

/-- n digits of v. -/
def tx (n : Nat) (v : Int) : List Int := (Dn.dg 10 n v).map (fun d => d + 48)

theorem tx_len (n : Nat) (v : Int) : (tx n v).length = n := by simp [tx, Dn.dg_length]
theorem tx_digs (n : Nat) (v : Int) : Digs (tx n v) := by
  intro d hd
  obtain ⟨e, he, rfl⟩ := List.mem_map.1 hd
  have := Dn.dg_mem (B := 10) (by omega) n v e he
  omega
theorem tx_dv {n : Nat} {v : Int} (h0 : 0 ≤ v) (h1 : v < 10 ^ n) : dv (tx n v) = v := by
  unfold dv tx
  rw [List.map_map, show ((fun d : Int => d - 48) ∘ fun d => d + 48) = id from funext fun d => by simp, List.map_id]
  exact Dn.tv_dg (by omega) n v h0 h1
theorem eq_tx {ds : List Int} (h : Digs ds) : ds = tx ds.length (dv ds) := by
  have := Dn.dg_tv (B := 10) (by omega) ds.length (ds.map (fun d => d - 48)) (by simp) (fun d hd => by
    obtain ⟨e, he, rfl⟩ := List.mem_map.1 hd
    have := h e he
    omega)
  unfold tx dv
  rw [this, List.map_map, show ((fun d : Int => d + 48) ∘ fun d => d - 48) = id from funext fun d => by simp, List.map_id]
theorem digs_inj {a b : List Int} (ha : Digs a) (hb : Digs b) (hl : a.length = b.length) (hv : dv a = dv b) : a = b := by
  rw [eq_tx ha, eq_tx hb, hl, hv]

theorem p_pos (k : Nat) : (0 : Int) < 10 ^ k := Int.pow_pos (by omega)
theorem p_le {a b : Nat} (h : a ≤ b) : (10 : Int) ^ a ≤ 10 ^ b := by
  obtain ⟨c, rfl⟩ := Nat.exists_eq_add_of_le h
  rw [Int.pow_add]
  have h1 := p_pos a
  have h2 : (1 : Int) ≤ 10 ^ c := p_pos c
  have := Int.mul_le_mul_of_nonneg_left h2 (Int.le_of_lt h1)
  omega
theorem p_lt {a b : Nat} (h : (10 : Int) ^ a < 10 ^ b) : a < b := by
  rcases Nat.lt_or_ge a b with c | c
  · exact c
  · have := p_le c
    omega

theorem take_last {xs : List Int} {n : Nat} (hn : xs.length = n + 1) : xs = xs.take n ++ [xs.getD n 0] := by
  have h := List.take_append_drop n xs
  rw [List.drop_eq_getElem_cons (by omega), List.drop_of_length_le (by omega)] at h
  simpa [List.getD, show n < xs.length by omega] using h.symm
theorem dv_snoc (xs : List Int) (x : Int) : dv (xs ++ [x]) = dv xs * 10 + (x - 48) := by
  rw [dv_append, dv_cons]
  simp [dv, Dn.tv]
theorem digs_getD {xs : List Int} (h : Digs xs) {i : Nat} (hi : i < xs.length) : 48 ≤ xs.getD i 0 ∧ xs.getD i 0 ≤ 57 := digs_at h i hi
theorem dv_mod {xs : List Int} {n : Nat} (h : Digs xs) (hn : xs.length = n + 1) : dv xs % 10 = xs.getD n 0 - 48 := by
  have b := digs_getD h (show n < xs.length by omega)
  generalize hx : xs.getD n 0 = x at *
  have e := take_last hn
  rw [hx] at e
  rw [e, dv_snoc]
  omega
theorem head_low {xs : List Int} {n : Nat} (h : Digs xs) (hn : xs.length = n + 1) (hh : xs.getD 0 0 ≠ 48) : 10 ^ n ≤ dv xs := by
  match xs, hn with
  | x :: ys, hn =>
    have hl : ys.length = n := by simpa using hn
    have b := dv_bd (ds := ys) (fun d hd => h d (by simp [hd]))
    have hx := h x (by simp)
    have hx1 : 49 ≤ x := by simp at hh; omega
    rw [dv_cons, hl]
    have := Int.mul_le_mul_of_nonneg_right (show (1 : Int) ≤ x - 48 by omega) (Int.le_of_lt (p_pos n))
    omega

theorem len_eq {xs ys : List Int} (hx : Digs xs) (hy : Digs ys) (nx : xs ≠ []) (ny : ys ≠ []) (h1 : xs.getD 0 0 ≠ 48) (h2 : ys.getD 0 0 ≠ 48) (hv : dv xs = dv ys) : xs.length = ys.length := by
  obtain ⟨a, ha⟩ : ∃ a, xs.length = a + 1 := ⟨xs.length - 1, by have := List.length_pos_iff.2 nx; omega⟩
  obtain ⟨b, hb⟩ : ∃ b, ys.length = b + 1 := ⟨ys.length - 1, by have := List.length_pos_iff.2 ny; omega⟩
  have l1 := head_low hx ha h1
  have l2 := head_low hy hb h2
  have u1 := (dv_bd hx).2
  have u2 := (dv_bd hy).2
  have := p_lt (a := a) (b := ys.length) (by omega)
  have := p_lt (a := b) (b := xs.length) (by omega)
  omega

/-- A row of digits with none but needed ones. -/
structure Nml (xs : List Int) : Prop where
  digs : Digs xs
  ne : xs ≠ []
  head : xs.getD 0 0 ≠ 48
  last : xs.getD (xs.length - 1) 0 ≠ 48

theorem Nml.len {xs : List Int} (h : Nml xs) : ∃ n, xs.length = n + 1 := ⟨xs.length - 1, by have := List.length_pos_iff.2 h.ne; omega⟩
theorem Nml.mod {xs : List Int} (h : Nml xs) : dv xs % 10 ≠ 0 := by
  obtain ⟨n, hn⟩ := h.len
  have e := dv_mod h.digs hn
  have l := h.last
  rw [hn, Nat.add_sub_cancel] at l
  omega

theorem nml_le {xs ys : List Int} {a b : Nat} (hx : Nml xs) (_hy : Nml ys) (h : dv xs * 10 ^ a = dv ys * 10 ^ b) : b ≤ a := by
  rcases Nat.lt_or_ge a b with c | c
  · exfalso
    obtain ⟨d, rfl⟩ := Nat.exists_eq_add_of_lt c
    rw [show a + d + 1 = (d + 1) + a by omega, Int.pow_add, ← Int.mul_assoc] at h
    have e := Int.eq_of_mul_eq_mul_right (by have := p_pos a; omega) h
    rw [Int.pow_succ, ← Int.mul_assoc] at e
    have := hx.mod
    omega
  · exact c
theorem nml_one {xs ys : List Int} {a b : Nat} (hx : Nml xs) (hy : Nml ys) (h : dv xs * 10 ^ a = dv ys * 10 ^ b) : xs = ys ∧ a = b := by
  have e : a = b := Nat.le_antisymm (nml_le hy hx h.symm) (nml_le hx hy h)
  subst e
  have v := Int.eq_of_mul_eq_mul_right (by have := p_pos a; omega) h
  exact ⟨digs_inj hx.digs hy.digs (len_eq hx.digs hy.digs hx.ne hy.ne hx.head hy.head v) v, rfl⟩

/-- The zeros at the end taken off. -/
theorem nml_take {ys : List Int} {k : Nat} (hd : Digs ys) (hh : ys.getD 0 0 ≠ 48) (hk : k ≤ ys.length) (h0 : ∀ i, k ≤ i → i < ys.length → ys.getD i 0 = 48) (hl : 0 < k → ys.getD (k - 1) 0 ≠ 48) (hv : 0 < dv ys) : 0 < k ∧ Nml (ys.take k) ∧ dv (ys.take k) * 10 ^ (ys.length - k) = dv ys := by
  have e : ys.drop k = List.replicate (ys.length - k) 48 := by
    apply List.ext_getElem
    · simp
    · intro i h1 h2
      have h3 := h0 (k + i) (by omega) (by simp at h1; omega)
      simp at h1
      simpa [List.getD, show k + i < ys.length by omega] using h3
  have v : dv (ys.take k) * 10 ^ (ys.length - k) = dv ys := by
    conv => rhs; rw [← List.take_append_drop k ys, dv_append, e, dv_zeros]
    simp
  have kp : 0 < k := by
    rcases Nat.eq_zero_or_pos k with c | c
    · subst c
      rw [List.take_zero, show dv [] = 0 from rfl, Int.zero_mul] at v
      omega
    · exact c
  refine ⟨kp, ⟨fun d h => hd d (List.mem_of_mem_take h), ?_, ?_, ?_⟩, v⟩
  · intro c
    have e1 : (ys.take k).length = k := by rw [List.length_take]; omega
    rw [c, List.length_nil] at e1
    omega
  · simpa [List.getD, kp] using hh
  · have := hl kp
    have hm : min k ys.length = k := by omega
    rw [List.length_take, hm]
    simpa [List.getD, show k - 1 < k by omega] using this

theorem log_ex : ∀ (n : Nat), 0 < n → ∃ L : Nat, 10 ^ L ≤ n ∧ n < 10 ^ (L + 1) := by
  intro n
  induction n using Nat.strongRecOn with
  | _ n ih =>
    intro h
    rcases Nat.lt_or_ge n 10 with c | c
    · exact ⟨0, by simp; omega, by simp; omega⟩
    · obtain ⟨L, l1, l2⟩ := ih (n / 10) (by omega) (by omega)
      refine ⟨L + 1, ?_, ?_⟩
      · rw [Nat.pow_succ]; omega
      · rw [Nat.pow_succ]; omega

theorem nml_ex : ∀ (n : Nat), 0 < n → ∃ xs a, Nml xs ∧ dv xs * 10 ^ a = (n : Int) := by
  intro n
  induction n using Nat.strongRecOn with
  | _ n ih =>
    intro h
    rcases Nat.eq_zero_or_pos (n % 10) with c | c
    · obtain ⟨xs, a, h1, h2⟩ := ih (n / 10) (by omega) (by omega)
      refine ⟨xs, a + 1, h1, ?_⟩
      rw [Int.pow_succ, ← Int.mul_assoc, h2]
      omega
    · obtain ⟨L, l1, l2⟩ := log_ex n h
      have l1' : (10 : Int) ^ L ≤ (n : Int) := by have := Int.ofNat_le.2 l1; simpa using this
      have l2' : (n : Int) < (10 : Int) ^ (L + 1) := by have := Int.ofNat_lt.2 l2; simpa using this
      have hd := tx_digs (L + 1) (n : Int)
      have hl := tx_len (L + 1) (n : Int)
      have hv := tx_dv (n := L + 1) (v := (n : Int)) (by omega) l2'
      refine ⟨tx (L + 1) n, 0, ⟨hd, fun e => by rw [e] at hl; simp at hl, ?_, ?_⟩, by rw [hv]; simp⟩
      · match htx : tx (L + 1) (n : Int), hl with
        | x :: ys, hl =>
          rw [htx] at hv hd
          intro e
          simp at e
          have b := (dv_bd (ds := ys) (fun d h => hd d (by simp [h]))).2
          rw [dv_cons, e] at hv
          have : ys.length = L := by simpa using hl
          rw [this] at b
          omega
      · have := dv_mod hd hl
        rw [hl, Nat.add_sub_cancel]
        omega

def F5 : Int := 5 ^ 1074
theorem F5_pos : 0 < F5 := by unfold F5; exact Int.pow_pos (by omega)
theorem five_low : (10 : Nat) ^ 750 ≤ 5 ^ 1074 := by decide +kernel
theorem five_high : (2 : Nat) ^ 2098 * 5 ^ 1074 < 2 * 10 ^ 1382 := by decide +kernel
theorem F5_low : (10 : Int) ^ 750 ≤ F5 := by
  have := Int.ofNat_le.2 five_low
  unfold F5
  generalize 750 = a, 1074 = b at this ⊢
  rw [Int.natCast_pow, Int.natCast_pow] at this
  exact this
theorem F5_high : (2 : Int) ^ 2098 * F5 < 2 * 10 ^ 1382 := by
  have := Int.ofNat_lt.2 five_high
  unfold F5
  generalize 2098 = a, 1074 = b, 1382 = c at this ⊢
  rw [Int.natCast_mul, Int.natCast_mul, Int.natCast_pow, Int.natCast_pow, Int.natCast_pow] at this
  exact this

/-- xs and E: the exact digits of m * 2^e. -/
structure Ex (m e : Int) (xs : List Int) (E : Int) : Prop where
  lo : -1074 ≤ E
  zero : m = 0 → xs = [48] ∧ E = 0
  nml : 0 < m → Nml xs
  eq : 0 < m → dv xs * 10 ^ (E + 1074).toNat = m * 2 ^ (e + 1074).toNat * F5

theorem Ex.digs {m e : Int} {xs : List Int} {E : Int} (hm : 0 ≤ m) (h : Ex m e xs E) : Digs xs ∧ xs ≠ [] := by
  rcases (show m = 0 ∨ 0 < m by omega) with c | c
  · rw [(h.zero c).1]
    exact ⟨fun d hd => by simp at hd; omega, by simp⟩
  · exact ⟨(h.nml c).digs, (h.nml c).ne⟩

theorem Ex.one {m e : Int} {xs ys : List Int} {E F : Int} (hm : 0 ≤ m) (h : Ex m e xs E) (k : Ex m e ys F) : xs = ys ∧ E = F := by
  rcases (show m = 0 ∨ 0 < m by omega) with c | c
  · exact ⟨by rw [(h.zero c).1, (k.zero c).1], by rw [(h.zero c).2, (k.zero c).2]⟩
  · obtain ⟨e1, e2⟩ := nml_one (h.nml c) (k.nml c) (by rw [h.eq c, k.eq c])
    exact ⟨e1, by have := h.lo; have := k.lo; omega⟩

theorem ex_ex (m e : Int) (hm : 0 ≤ m) : ∃ xs E, Ex m e xs E := by
  rcases (show m = 0 ∨ 0 < m by omega) with c | c
  · exact ⟨[48], 0, by omega, fun _ => ⟨rfl, rfl⟩, fun h => by omega, fun h => by omega⟩
  · have hN : 0 < m * 2 ^ (e + 1074).toNat * F5 := Int.mul_pos (Int.mul_pos c (Int.pow_pos (by omega))) F5_pos
    obtain ⟨xs, a, h1, h2⟩ := nml_ex (m * 2 ^ (e + 1074).toNat * F5).toNat (by omega)
    refine ⟨xs, (a : Int) - 1074, by omega, fun h => by omega, fun _ => h1, fun _ => ?_⟩
    rw [show ((a : Int) - 1074 + 1074).toNat = a by omega, h2]
    omega

/-- Where the digits lie. -/
theorem Ex.room {m e : Int} {xs : List Int} {E : Int} (hm : 0 < m) (hm1 : m < 9007199254740992) (he : e ≤ 971) (h : Ex m e xs E) :
    -323 ≤ xs.length + E ∧ xs.length + E ≤ 309 ∧ ((xs.length : Int) + E = 309 → dv xs < 2 * 10 ^ (xs.length - 1)) := by
  obtain ⟨a, ha⟩ : ∃ a : Nat, (E + 1074).toNat = a := ⟨_, rfl⟩
  obtain ⟨k, hk⟩ : ∃ k : Nat, (e + 1074).toNat = k := ⟨_, rfl⟩
  have hk1 : k ≤ 2045 := by omega
  have q := h.eq hm
  rw [ha, hk] at q
  have p2 : (0 : Int) < 2 ^ k := Int.pow_pos (by omega)
  have f0 := F5_pos
  have low : (10 : Int) ^ 750 ≤ m * 2 ^ k * F5 := by
    have h1 : (1 : Int) ≤ m * 2 ^ k := Int.mul_pos hm p2
    have := Int.mul_le_mul_of_nonneg_right h1 (Int.le_of_lt f0)
    have := F5_low
    omega
  have high : m * 2 ^ k * F5 < 2 * 10 ^ 1382 := by
    have h1 : m * 2 ^ k ≤ 2 ^ 2098 := by
      have e1 : (2 : Int) ^ 2098 = 2 ^ 53 * (2 ^ (2045 - k) * 2 ^ k) := by rw [← Int.pow_add, ← Int.pow_add]; congr 1; omega
      rw [e1, ← Int.mul_assoc]
      refine Int.mul_le_mul_of_nonneg_right ?_ (Int.le_of_lt p2)
      have h3 : (1 : Int) ≤ 2 ^ (2045 - k) := Int.pow_pos (by omega)
      have h4 : (2 : Int) ^ 53 = 9007199254740992 := by decide
      rw [h4]
      generalize (2 : Int) ^ (2045 - k) = z at h3
      omega
    have := Int.mul_le_mul_of_nonneg_right h1 (Int.le_of_lt f0)
    have := F5_high
    omega
  obtain ⟨n, hn⟩ := (h.nml hm).len
  have b1 := head_low (h.nml hm).digs hn (h.nml hm).head
  have b2 := (dv_bd (h.nml hm).digs).2
  rw [← q] at low high
  have pa := p_pos a
  have c1 : (10 : Int) ^ (n + a) ≤ dv xs * 10 ^ a := by rw [Int.pow_add]; exact Int.mul_le_mul_of_nonneg_right b1 (Int.le_of_lt pa)
  have c2 : dv xs * 10 ^ a < 10 ^ (xs.length + a) := by rw [Int.pow_add]; exact Int.mul_lt_mul_of_pos_right b2 pa
  have d1 : n + a < 1383 := p_lt (by
    have : (10 : Int) ^ 1383 = 10 ^ 1382 * 10 := Int.pow_succ ..
    rw [this]
    have := p_pos 1382
    generalize (10 : Int) ^ 1382 = z at *
    omega)
  have d2 : 750 < xs.length + a := p_lt (by
    generalize (10 : Int) ^ 750 = z at *
    omega)
  have lo := h.lo
  refine ⟨by omega, by omega, fun c => ?_⟩
  have e1 : 1382 = n + a := by omega
  rw [e1, Int.pow_add, ← Int.mul_assoc] at high
  rw [hn, Nat.add_sub_cancel]
  exact Int.lt_of_mul_lt_mul_right high (Int.le_of_lt pa)

/-- The exact digits of m * 2^e, and their power of ten. -/
noncomputable def xd (m e : Int) : List Int := open Classical in if h : ∃ p : List Int × Int, Ex m e p.1 p.2 then (Classical.choose h).1 else []
noncomputable def ed (m e : Int) : Int := open Classical in if h : ∃ p : List Int × Int, Ex m e p.1 p.2 then (Classical.choose h).2 else 0
theorem ex_is {m e : Int} (hm : 0 ≤ m) : Ex m e (xd m e) (ed m e) := by
  obtain ⟨xs, E, h⟩ := ex_ex m e hm
  have k : ∃ p : List Int × Int, Ex m e p.1 p.2 := ⟨(xs, E), h⟩
  unfold xd ed
  rw [dif_pos k, dif_pos k]
  exact Classical.choose_spec k
theorem Ex.is {m e : Int} {xs : List Int} {E : Int} (hm : 0 ≤ m) (h : Ex m e xs E) : xs = xd m e ∧ E = ed m e := h.one hm (ex_is hm)

/-- What the digits of a whole number make. -/
theorem ex_of {m e : Int} {ys : List Int} {k : Nat} {F : Int} (hm : 0 < m) (hd : Digs ys) (hh : ys.getD 0 0 ≠ 48) (hk : k ≤ ys.length) (h0 : ∀ i, k ≤ i → i < ys.length → ys.getD i 0 = 48) (hl : 0 < k → ys.getD (k - 1) 0 ≠ 48)
    (hF : -1074 ≤ F) (hv : dv ys * 10 ^ (F + 1074).toNat = m * 2 ^ (e + 1074).toNat * F5) : Ex m e (ys.take k) (F + (ys.length - k)) ∧ 0 < k := by
  have vp : 0 < dv ys := by
    have hN : 0 < m * 2 ^ (e + 1074).toNat * F5 := Int.mul_pos (Int.mul_pos hm (Int.pow_pos (by omega))) F5_pos
    rw [← hv] at hN
    have := (dv_bd hd).1
    rcases (show dv ys = 0 ∨ 0 < dv ys by omega) with c | c
    · rw [c, Int.zero_mul] at hN; omega
    · exact c
  obtain ⟨kp, n, v⟩ := nml_take hd hh hk h0 hl vp
  refine ⟨⟨by omega, fun c => by omega, fun _ => n, fun _ => ?_⟩, kp⟩
  rw [← hv, ← v, show (F + ((ys.length : Int) - (k : Int)) + 1074).toNat = (ys.length - k) + (F + 1074).toNat by omega, Int.pow_add, Int.mul_assoc]
end Fx
end Go.Proofs.YtbdbpjghmejfjaaGreatDoor

namespace Go.Proofs.YtbdbpjghmejfjaaGreatDoor
open Go.RowKit Go.Deep

theorem fblen_trim (zs : List Int) : blen (Nm.trim zs) = blen zs := by
  unfold blen
  rw [Nm.trim_trim]
  by_cases h : Nm.tsize zs = 0
  · rw [if_pos h, if_pos h]
  · rw [if_neg h, if_neg h]
    have e : (Nm.trim zs).getD (Nm.tsize zs - 1) 0 = zs.getD (Nm.tsize zs - 1) 0 := by rw [Nm.trim, Nm.getD_take, if_pos (by omega)]
    rw [e]

theorem fpw_4096 : Nm.pw 4096 = 2 ^ 262144 := Nm.pw_two 4096

theorem ftwo_lt {a b : Nat} (h : (2 : Int) ^ a < 2 ^ b) : a < b := by
  rcases Nat.lt_or_ge a b with h1 | h1
  · exact h1
  · have := Nm.two_mono h1
    omega

/-- So many digits as the number times 2^k. -/
theorem FBLen.up {v : Int} {L : Nat} (k : Nat) (h : Nm.BLen v L) (hv : 0 < v) : Nm.BLen (v * 2 ^ k) (L + k) := by
  have hp := Nm.two_pos k
  have h1 := h.2.2 hv
  refine ⟨?_, fun h0 => ?_, fun _ => ⟨by omega, ?_⟩⟩
  · rw [Nm.two_add]
    exact Int.mul_lt_mul_of_pos_right h.1 hp
  · rcases Int.mul_eq_zero.1 h0 with h2 | h2 <;> omega
  · rw [show L + k - 1 = L - 1 + k by omega, Nm.two_add]
    exact Int.mul_le_mul_of_nonneg_right h1.2 (by omega)

theorem ftsize_pos {zs : List Int} (hz : Nm.Limbs zs) (hv : 0 < Nm.val zs) : 0 < Nm.tsize zs := by
  rcases Nat.eq_zero_or_pos (Nm.tsize zs) with h | h
  · have := (Nm.tsize_zero_iff hz).1 h
    omega
  · exact h

theorem fshl_any (p : Option Addr) (n cap : Nat) (zs : List Int) (kk : Int) (k : Nat) (w : World) (ha : Arg w p n cap zs) (tz : Nm.tsize zs ≤ 4096) (hkk : kk = (k : Int)) (hb : Nm.val zs * 2 ^ k < Nm.pw 4096) :
    Calls Tryz.prog 15 #[.slice p n cap, .int .i64 kk] w fun e w' => ∃ r os, e = .returned (.tuple #[.slice r (List.length os) (List.length os), .int .i64 0]) ∧ Ans w.heap.size w' r os (Nm.val zs * 2 ^ k) ∧ Below w.heap.size w w' := by
  have hv0 := (Nm.val_bd zs ha.2.2.2.2).1
  by_cases hz : Nm.tsize zs = 0
  · have hv := (Nm.tsize_zero_iff ha.2.2.2.2).1 hz
    refine (shl_zero p n cap zs kk w ha (by omega) hz).mono ?_
    rintro e w' ⟨rfl, rfl⟩
    exact ⟨none, [], rfl, ⟨Lies.nil _ _, Nm.Limbs.nil, rfl, by rw [hv, Int.zero_mul]; rfl, fun a h => by cases h⟩, Below.refl _ _⟩
  · obtain ⟨L, hL, BL, _, _⟩ := blen_is zs ha.2.2.2.2
    rw [← fblen_trim] at hL
    have hv : 0 < Nm.val zs := by
      rcases (show Nm.val zs = 0 ∨ 0 < Nm.val zs by omega) with h | h
      · exact absurd ((Nm.tsize_zero_iff ha.2.2.2.2).2 h) hz
      · exact h
    have hu := (FBLen.up k BL hv).2.2 (Int.mul_pos hv (Nm.two_pos k))
    rw [fpw_4096] at hb
    have hlt := ftwo_lt (show (2 : Int) ^ (L + k - 1) < 2 ^ 262144 by omega)
    exact shl_ok p n cap zs kk k L w ha tz hkk (by omega) hL (by omega)

end Go.Proofs.YtbdbpjghmejfjaaGreatDoor

namespace Go.Proofs.YtbdbpjghmejfjaaGreatDoor
open Go.RowKit Go.Deep

theorem lead_any (x : Int) (l : Nat) (w : World) (h0 : 0 ≤ x) (h1 : x < 18446744073709551616) (hl : Lib.bitLen x.toNat = l) :
    Calls Tryz.prog 138 #[.int .u64 x] w fun e w' => e = .returned (.int .i64 (64 - (l : Int))) ∧ w' = w := by
  have L := len64 x w h0 h1
  rw [hl] at L
  have hl64 : l ≤ 64 := by rw [← hl]; exact bitLen_small _ (by omega)
  have HL := hid L
  clear L hl
  go_enter Tryz.func138, Tryz.ntmps138
  go_wp2_with fail
  refine HL.out.mono ?_
  rintro e w' ⟨rfl, rfl⟩
  go_wp2_with fail
  go_ret
  exact ⟨rfl, rfl⟩

set_option maxRecDepth 100000 in
set_option maxHeartbeats 1000000 in
theorem div64_small (lo y : Int) (w : World) (l0 : 0 ≤ lo) (l1 : lo < 18446744073709551616) (y0 : 0 < y) (y1 : y < 18446744073709551616) :
    Calls Tryz.prog 132 #[.int .u64 0, .int .u64 lo, .int .u64 y] w fun e w' => e = .returned (.tuple #[.int .u64 (lo / y), .int .u64 (lo % y)]) ∧ Below w.heap.size w w' := by
  have hy : (y == 0) = false := by rw [beq_eq_false_iff_ne]; omega
  go_enter Tryz.func132, Tryz.ntmps132
  go_wp2_with fail
  go_quiet (fail)
  go_wp2
  go_ret2
  exact ⟨rfl, ⟨rfl, rfl, rfl, Nat.le_refl _, fun _ _ => rfl⟩⟩

/-- The shift that brings a divisor's highest binary digit to the top. -/
theorem shift_facts (y : Int) (l : Nat) (y0 : 0 < y) (y1 : y < 18446744073709551616) (hl : Lib.bitLen y.toNat = l) : ∃ s : Nat, s + l = 64 ∧ s ≤ 63 ∧ 9223372036854775808 ≤ y * 2 ^ s ∧ y * 2 ^ s < 18446744073709551616 ∧ (0 : Int) < 2 ^ s ∧ (0 : Int) < 2 ^ (64 - s) ∧ (2 : Int) ^ s * 2 ^ (64 - s) = 18446744073709551616 := by
  obtain ⟨n, rfl⟩ := Int.eq_ofNat_of_zero_le (show 0 ≤ y by omega)
  rw [Int.toNat_natCast] at hl
  have hb := Lib.bitLenAux_bounds 64 n (by simpa using (show n < 18446744073709551616 by omega)) (by omega)
  rw [show Lib.bitLenAux 64 n = l from hl] at hb
  obtain ⟨b1, b2, b3⟩ := hb
  have hl64 : l ≤ 64 := by rw [← hl]; exact bitLen_small n (by omega)
  refine ⟨64 - l, by omega, by omega, ?_⟩
  have e1 : 2 ^ l * 2 ^ (64 - l) = 18446744073709551616 := by rw [← Nat.pow_add, show l + (64 - l) = 64 by omega]
  have e2 : 2 ^ (l - 1) * 2 ^ (64 - l) = 9223372036854775808 := by rw [← Nat.pow_add, show l - 1 + (64 - l) = 63 by omega]
  have p1 : 0 < 2 ^ (64 - l) := Nat.pow_pos (by omega)
  have p2 : 0 < 2 ^ l := Nat.pow_pos (by omega)
  have c1 : 2 ^ (l - 1) * 2 ^ (64 - l) ≤ n * 2 ^ (64 - l) := Nat.mul_le_mul_right _ b2
  have c2 : n * 2 ^ (64 - l) < 2 ^ l * 2 ^ (64 - l) := Nat.mul_lt_mul_of_pos_right b3 p1
  have hP : ((2 ^ (64 - l) : Nat) : Int) = (2 : Int) ^ (64 - l) := by simp
  have hQ : ((2 ^ (64 - (64 - l)) : Nat) : Int) = (2 : Int) ^ (64 - (64 - l)) := by simp
  rw [← hP, ← hQ, show 64 - (64 - l) = l by omega, ← Int.natCast_mul, ← Int.natCast_mul, Nat.mul_comm (2 ^ (64 - l)) (2 ^ l), e1]
  omega

theorem wrap_small (x : Int) (h0 : 0 ≤ x) (h1 : x < 18446744073709551616) : IntKind.u64.wrap x = x := by rw [IntKind.wrap_u64]; omega
theorem wrap_mod (x : Int) : IntKind.u64.wrap x = x % 18446744073709551616 := by rw [IntKind.wrap_u64]

theorem mask32 (x : Int) (h0 : 0 ≤ x) (h1 : x < 18446744073709551616) : bits .and .u64 x 4294967295 = x % 4294967296 := by
  obtain ⟨n, rfl⟩ := Int.eq_ofNat_of_zero_le h0
  have h := bits_and_u64_nat n 4294967295 (by omega) (by omega)
  have e : n &&& 4294967295 = n % 4294967296 := Nat.and_two_pow_sub_one_eq_mod n 32
  rw [e] at h
  rw [show (4294967295 : Int) = ((4294967295 : Nat) : Int) from rfl, h]
  omega

/-- Digits that don't meet: 'or' is a sum. -/
theorem or_sum (hi c : Int) (s : Nat) (h0 : 0 ≤ hi) (hc0 : 0 ≤ c) (hc : c < 2 ^ s) (h1 : hi * 2 ^ s < 18446744073709551616) (h2 : c < 18446744073709551616) : bits .or .u64 (hi * 2 ^ s) c = hi * 2 ^ s + c := by
  obtain ⟨a, rfl⟩ := Int.eq_ofNat_of_zero_le h0
  obtain ⟨b, rfl⟩ := Int.eq_ofNat_of_zero_le hc0
  have hP : (2 : Int) ^ s = ((2 ^ s : Nat) : Int) := by simp
  rw [hP] at hc h1 ⊢
  have hb : b < 2 ^ s := by omega
  rw [← Int.natCast_mul] at h1 ⊢
  have h := bits_or_u64_nat (a * 2 ^ s) b (by omega) (by omega)
  rw [h, Nat.mul_comm a, ← Nat.two_pow_add_eq_or_of_lt hb a]
  omega

/-- What the operands are, under the names that the walk gives them. -/
structure Ops (hi lo y : Int) (s : Nat) (Y v1 v0 A c U L u1 u0 : Int) : Prop where
  r1 : IntKind.u64.wrap (y * 2 ^ s) = Y
  r2 : Y / 4294967296 = v1
  r3 : bits .and .u64 Y 4294967295 = v0
  r4 : IntKind.u64.wrap (hi * 2 ^ s) = A
  r5 : lo / 2 ^ (64 - s) = c
  r6 : bits .or .u64 A c = U
  r7 : IntKind.u64.wrap (lo * 2 ^ s) = L
  r8 : L / 4294967296 = u1
  r9 : bits .and .u64 L 4294967295 = u0
  nrm : Dv.Nrm Y v1 v0
  bU : 0 ≤ U ∧ U < Y
  bL : 0 ≤ L ∧ L < 18446744073709551616
  eL : L = u1 * 4294967296 + u0
  b1 : 0 ≤ u1 ∧ u1 < 4294967296
  b0 : 0 ≤ u0 ∧ u0 < 4294967296
  bY : Y < 18446744073709551616
  pos : (0 : Int) < 2 ^ s
  eY : Y = y * 2 ^ s
  eN : U * 18446744073709551616 + L = (hi * 18446744073709551616 + lo) * 2 ^ s

theorem ops_of (hi lo y : Int) (l : Nat) (h0 : 0 < hi) (hy : hi < y) (l0 : 0 ≤ lo) (l1 : lo < 18446744073709551616) (y1 : y < 18446744073709551616) (hl : Lib.bitLen y.toNat = l) :
    ∃ (s : Nat) (Y v1 v0 A c U L u1 u0 : Int), s + l = 64 ∧ s ≤ 63 ∧ Ops hi lo y s Y v1 v0 A c U L u1 u0 := by
  obtain ⟨s, hs, hs63, hs1, hs2, hP, hQ, hPQ⟩ := shift_facts y l (by omega) y1 hl
  obtain ⟨m1, m2, m3, m4, m5, m6⟩ := Dv.moved hP hQ hPQ (by omega) hy l0 l1
  have hL : IntKind.u64.wrap (lo * 2 ^ s) = lo % 2 ^ (64 - s) * 2 ^ s := by rw [wrap_mod, m5]
  have hLb : 0 ≤ lo % 2 ^ (64 - s) * 2 ^ s ∧ lo % 2 ^ (64 - s) * 2 ^ s < 18446744073709551616 := by rw [← m5]; omega
  refine ⟨s, y * 2 ^ s, y * 2 ^ s / 4294967296, y * 2 ^ s % 4294967296, hi * 2 ^ s, lo / 2 ^ (64 - s), hi * 2 ^ s + lo / 2 ^ (64 - s), lo % 2 ^ (64 - s) * 2 ^ s, lo % 2 ^ (64 - s) * 2 ^ s / 4294967296, lo % 2 ^ (64 - s) * 2 ^ s % 4294967296, hs, hs63, ?_⟩
  exact {
    r1 := wrap_small _ (by omega) hs2
    r2 := rfl
    r3 := mask32 _ (by omega) hs2
    r4 := wrap_small _ m3 (by omega)
    r5 := rfl
    r6 := or_sum hi _ s (by omega) m1 m2 (by omega) (by omega)
    r7 := hL
    r8 := rfl
    r9 := mask32 _ hLb.1 hLb.2
    nrm := ⟨by omega, by omega, by omega, by omega, by omega⟩
    bU := ⟨by omega, m4⟩
    bL := hLb
    eL := by omega
    b1 := by omega
    b0 := by omega
    bY := hs2
    pos := hP
    eY := rfl
    eN := m6 }

theorem small_mul {q v0 : Int} (h0 : 0 ≤ q) (h : q < 4294967296) (g0 : 0 ≤ v0) (g : v0 < 4294967296) : 0 ≤ q * v0 ∧ q * v0 ≤ 18446744065119617025 :=
  ⟨Int.mul_nonneg h0 g0, Int.mul_le_mul (a := q) (b := v0) (c := 4294967295) (d := 4294967295) (by omega) (by omega) (by omega) (by omega)⟩

/-- The ways of one round. -/
theorem ways {U u Y v1 v0 q r : Int} (hY : Dv.Nrm Y v1 v0) (hUY : U < Y) (hu0 : 0 ≤ u) (hu : u < 4294967296) (h : Dv.Est U u Y v1 q r) :
    (4294967296 ≤ q ∧ 4294967296 ≤ q ∧ 4294967296 ≤ r + v1 ∧ 1 ≤ q ∧ 1 ≤ q ∧ 1 ≤ q ∧ ∃ q1, q - 1 = q1 ∧ Dv.Dig U u Y q1) ∨
    (q < 4294967296 ∧ 4294967296 * r + u < q * v0 ∧ 4294967296 ≤ r + v1 ∧ 1 ≤ q ∧ 0 ≤ q * v0 ∧ q * v0 ≤ 18446744065119617025 ∧ ∃ q1, q - 1 = q1 ∧ Dv.Dig U u Y q1) ∨
    (q < 4294967296 ∧ q * v0 ≤ 4294967296 * r + u ∧ q < 4294967296 ∧ 0 ≤ q ∧ 0 ≤ q * v0 ∧ q * v0 ≤ 18446744065119617025 ∧ ∃ q1, q = q1 ∧ Dv.Dig U u Y q1) ∨
    (4294967296 ≤ q ∧ 4294967296 ≤ q ∧ r + v1 < 4294967296 ∧ 1 ≤ q ∧ Dv.Est U u Y v1 (q - 1) (r + v1)) ∨
    (q < 4294967296 ∧ 4294967296 * r + u < q * v0 ∧ r + v1 < 4294967296 ∧ 1 ≤ q ∧ Dv.Est U u Y v1 (q - 1) (r + v1)) := by
  by_cases h1 : 4294967296 ≤ q
  · by_cases h2 : 4294967296 ≤ r + v1
    · exact .inl ⟨h1, h1, h2, by omega, by omega, by omega, _, rfl, Dv.dig_break hY hUY hu0 hu h (.inl h1) h2⟩
    · exact .inr (.inr (.inr (.inl ⟨h1, h1, by omega, by omega, Dv.est_on hY hUY hu0 hu h (.inl h1) (by omega)⟩)))
  · by_cases h3 : 4294967296 * r + u < q * v0
    · have hq := (Dv.est_down hY hUY hu0 hu h (.inr h3)).1
      by_cases h2 : 4294967296 ≤ r + v1
      · have hm := small_mul h.1 (show q < 4294967296 by omega) hY.2.1 hY.2.2.1
        exact .inr (.inl ⟨by omega, h3, h2, hq, hm.1, hm.2, _, rfl, Dv.dig_break hY hUY hu0 hu h (.inr h3) h2⟩)
      · exact .inr (.inr (.inr (.inr ⟨by omega, h3, by omega, hq, Dv.est_on hY hUY hu0 hu h (.inr h3) (by omega)⟩)))
    · have hm := small_mul h.1 (show q < 4294967296 by omega) hY.2.1 hY.2.2.1
      exact .inr (.inr (.inl ⟨by omega, by omega, by omega, h.1, hm.1, hm.2, _, rfl, Dv.dig_exit hY h (by omega) (by omega)⟩))

theorem est_le {U u Y v1 v0 q r : Int} (hY : Dv.Nrm Y v1 v0) (h : Dv.Est U u Y v1 q r) (hU : U < 18446744073709551616) : q < 18446744073709551616 := by
  have h1 : q * 1 ≤ q * v1 := Int.mul_le_mul_of_nonneg_left (by have := hY.2.2.2.1; omega) h.1
  have := h.2.2.2.1
  have := h.2.1
  omega

/-- What is left behind a digit, reckoned in 64 bits. -/
theorem rest_of {U u Y q : Int} (h : Dv.Dig U u Y q) (hY : Y < 18446744073709551616) :
    ∃ R, IntKind.u64.wrap (IntKind.u64.wrap (IntKind.u64.wrap (U * 4294967296) + u) - IntKind.u64.wrap (q * Y)) = R ∧ (0 ≤ R ∧ R < Y) ∧ R = U * 4294967296 + u - q * Y := by
  obtain ⟨h1, h2, h3, h4⟩ := h
  refine ⟨U * 4294967296 + u - q * Y, ?_, by omega, rfl⟩
  simp only [wrap_mod]
  omega

theorem ret_pair {a b c d : Int} (h1 : a = c) (h2 : b = d) : Ending.returned (.tuple #[.int .u64 a, .int .u64 b]) = .returned (.tuple #[.int .u64 c, .int .u64 d]) := by rw [h1, h2]

set_option maxRecDepth 100000 in
set_option maxHeartbeats 4000000 in
theorem div64_big (hi lo y : Int) (w : World) (h0 : 0 < hi) (hy : hi < y) (l0 : 0 ≤ lo) (l1 : lo < 18446744073709551616) (y1 : y < 18446744073709551616) :
    Calls Tryz.prog 132 #[.int .u64 hi, .int .u64 lo, .int .u64 y] w fun e w' => e = .returned (.tuple #[.int .u64 ((hi * 18446744073709551616 + lo) / y), .int .u64 ((hi * 18446744073709551616 + lo) % y)]) ∧ Below w.heap.size w w' := by
  have hy0 : (y == 0) = false := by rw [beq_eq_false_iff_ne]; omega
  have hh0 : (hi == 0) = false := by rw [beq_eq_false_iff_ne]; omega
  have hyh : decide (y ≤ hi) = false := by simp; omega
  obtain ⟨l, hl⟩ : ∃ l, Lib.bitLen y.toNat = l := ⟨_, rfl⟩
  have LE := hid (lead_any y l w (by omega) y1 hl)
  obtain ⟨s, Y, v1, v0, A, c, U, L, u1, u0, hs, hs63, O⟩ := ops_of hi lo y l h0 hy l0 l1 y1 hl
  have es : (64 - (l : Int)) = (s : Int) := by omega
  rw [es] at LE
  clear hl hs es
  have r1 := O.r1
  have r2 := O.r2
  have r3 := O.r3
  have r4 := O.r4
  have r5 := O.r5
  have r6 := O.r6
  have r7 := O.r7
  have r8 := O.r8
  have r9 := O.r9
  have E0 := Dv.est_first O.nrm O.bU.1 O.b1.1 O.b1.2
  obtain ⟨q, r10⟩ : ∃ q, U / v1 = q := ⟨_, rfl⟩
  rw [r10] at E0
  obtain ⟨r, r11⟩ : ∃ r, U - q * v1 = r := ⟨_, rfl⟩
  rw [r11] at E0
  have bv0 := O.nrm.2.2.2.1
  have bv1 := O.nrm.2.2.2.2
  have bw0 := O.nrm.2.1
  have bw1 := O.nrm.2.2.1
  have bU0 := O.bU.1
  have bU1 : U < 18446744073709551616 := by have := O.bU.2; have := O.bY; omega
  have bu0 := O.b1.1
  have bu1 := O.b1.2
  have bz0 := O.b0.1
  have bz1 := O.b0.2
  have bq0 := E0.1
  have br0 := E0.2.1
  have br1 := E0.2.2.1
  have bqv0 : 0 ≤ q * v1 := Int.mul_nonneg bq0 (by omega)
  have bqv1 : q * v1 ≤ U := by omega
  have HE := hid E0
  have HO := hid O
  clear E0 O
  go_enter Tryz.func132, Tryz.ntmps132
  go_wp2_with fail
  refine LE.out.mono ?_
  rintro e w' ⟨rfl, rfl⟩
  go_wp2_with fail
  have R10 := hid r10
  clear r1 r2 r3 r4 r5 r6 r7 r8 r9 r10 r11 hy0 hh0 hyh LE
  go_loop [15, 16] (fun a b => ∃ q r, a = .int .u64 q ∧ b = .int .u64 r ∧ Dv.Est U u1 Y v1 q r) (fun a _ => (intOf a).toNat)
  case atStart => exact ⟨q, r, by rw [R10.out], rfl, HE.out⟩
  case round =>
    clear bq0 br0 br1 bqv0 bqv1 HE R10
    obtain ⟨q, r, rfl, rfl, E⟩ := hrel
    have br0 := E.2.1
    have br1 := E.2.2.1
    have bq0 := E.1
    have bq1 := est_le HO.out.nrm E bU1
    have W := ways HO.out.nrm HO.out.bU.2 bu0 bu1 E
    clear E
    rcases W with c | c | c | c | c
    rotate_right 2
    · obtain ⟨t1, t2, t3, t4, E⟩ := c
      have HE := hid E
      clear E
      go_wp2
      go_round
      case rel => exact ⟨q - 1, r + v1, rfl, rfl, HE.out⟩
      case measure => simp [intOf]; omega
    · obtain ⟨t1, t2, t3, t4, E⟩ := c
      have HE := hid E
      obtain ⟨k0, k1⟩ := small_mul bq0 t1 bw0 bw1
      clear E
      go_wp2
      go_round
      case rel => exact ⟨q - 1, r + v1, rfl, rfl, HE.out⟩
      case measure => simp [intOf]; omega
    all_goals
      obtain ⟨t1, t2, t3, t4, t5, t6, q1, hq1, D⟩ := c
      try (have hsub : q = q1 := hq1; clear hsub; subst hq1)
      obtain ⟨R, r12, bR, eR⟩ := rest_of D HO.out.bY
      have D1 := hid D
      have BR := hid bR
      have ER := hid eR
      have bq10 := D.1
      have bq11 := D.2.1
      have bR0 := bR.1
      have bR1 : R < 18446744073709551616 := by have := HO.out.bY; omega
      have E0 := Dv.est_first HO.out.nrm bR0 bz0 bz1
      obtain ⟨qb, r13⟩ : ∃ q, R / v1 = q := ⟨_, rfl⟩
      rw [r13] at E0
      obtain ⟨rb, r14⟩ : ∃ r, R - qb * v1 = r := ⟨_, rfl⟩
      rw [r14] at E0
      have bqb0 := E0.1
      have brb0 := E0.2.1
      have brb1 := E0.2.2.1
      have bqvb0 : 0 ≤ qb * v1 := Int.mul_nonneg bqb0 (by omega)
      have bqvb1 : qb * v1 ≤ R := by omega
      have HE := hid E0
      clear E0 D eR bR
      go_wp2
      have R13 := hid r13
      clear r12 r13 r14
      clear t1 t2 t3 t4 t5 t6
      go_loop [18, 16] (fun a b => ∃ q r, a = .int .u64 q ∧ b = .int .u64 r ∧ Dv.Est R u0 Y v1 q r) (fun a _ => (intOf a).toNat)
      case atStart => exact ⟨qb, rb, by first | rfl | rw [R13.out], rfl, HE.out⟩
      case round =>
        clear bqb0 brb0 brb1 bqvb0 bqvb1 HE R13 br0 br1 bq0 bq1
        obtain ⟨q, r, rfl, rfl, E⟩ := hrel
        have br0 := E.2.1
        have br1 := E.2.2.1
        have bq0 := E.1
        have bq1 := est_le HO.out.nrm E bR1
        have W := ways HO.out.nrm BR.out.2 bz0 bz1 E
        clear E
        rcases W with c | c | c | c | c
        rotate_right 2
        · obtain ⟨t1, t2, t3, t4, E⟩ := c
          have HE := hid E
          clear E
          go_wp2
          go_round
          case rel => exact ⟨q - 1, r + v1, rfl, rfl, HE.out⟩
          case measure => simp [intOf]; omega
        · obtain ⟨t1, t2, t3, t4, E⟩ := c
          have HE := hid E
          obtain ⟨k0, k1⟩ := small_mul bq0 t1 bw0 bw1
          clear E
          go_wp2
          go_round
          case rel => exact ⟨q - 1, r + v1, rfl, rfl, HE.out⟩
          case measure => simp [intOf]; omega
        all_goals
          obtain ⟨t1, t2, t3, t4, t5, t6, q0, hq0, D⟩ := c
          try (have hsub : q = q0 := hq0; clear hsub; subst hq0)
          obtain ⟨R0, r15, bR0', eR0⟩ := rest_of D HO.out.bY
          have FIN := hid (Dv.whole HO.out.pos HO.out.eY HO.out.eN HO.out.eL ER.out eR0 bR0'.1 bR0'.2 (by omega))
          have bq00 := D.1
          have bq01 := D.2.1
          have bR00 := bR0'.1
          clear D eR0 bR0'
          go_wp2
          go_ret2
          exact ⟨ret_pair FIN.out.1.symm FIN.out.2.symm, Below.refl _ _⟩

/-- Div64: two limbs by one, the higher one below the divisor. -/
theorem div64 (hi lo y : Int) (w : World) (h0 : 0 ≤ hi) (hy : hi < y) (l0 : 0 ≤ lo) (l1 : lo < 18446744073709551616) (y1 : y < 18446744073709551616) :
    Calls Tryz.prog 132 #[.int .u64 hi, .int .u64 lo, .int .u64 y] w fun e w' => ∃ q r : Int, e = .returned (.tuple #[.int .u64 q, .int .u64 r]) ∧ (0 ≤ q ∧ q < 18446744073709551616 ∧ 0 ≤ r ∧ r < y) ∧ Hid (q * y + r = hi * 18446744073709551616 + lo) ∧ Below w.heap.size w w' := by
  obtain ⟨N, hN⟩ : ∃ N, N = hi * 18446744073709551616 + lo := ⟨_, rfl⟩
  have d1 := Int.emod_add_mul_ediv N y
  have d2 := Int.emod_nonneg N (show y ≠ 0 by omega)
  have d3 := Int.emod_lt_of_pos N (show 0 < y by omega)
  have d4 : 0 ≤ N / y := Int.ediv_nonneg (by omega) (by omega)
  have d5 : N / y < 18446744073709551616 := by
    rw [Int.ediv_lt_iff_lt_mul (by omega)]
    omega
  rw [Int.mul_comm] at d1
  have fin : ∀ (e : Ending) (w' : World), e = .returned (.tuple #[.int .u64 (N / y), .int .u64 (N % y)]) ∧ Below w.heap.size w w' → ∃ q r : Int, e = .returned (.tuple #[.int .u64 q, .int .u64 r]) ∧ (0 ≤ q ∧ q < 18446744073709551616 ∧ 0 ≤ r ∧ r < y) ∧ Hid (q * y + r = hi * 18446744073709551616 + lo) ∧ Below w.heap.size w w' :=
    fun e w' h => ⟨N / y, N % y, h.1, ⟨d4, d5, d2, d3⟩, show _ = _ by omega, h.2⟩
  by_cases hz : hi = 0
  · subst hz
    have : N = lo := by omega
    rw [this] at fin
    exact (div64_small lo y w l0 l1 (by omega) y1).mono fin
  · rw [hN] at fin
    exact (div64_big hi lo y w (by omega) hy l0 l1 y1).mono fin
end Go.Proofs.YtbdbpjghmejfjaaGreatDoor

namespace Go.Proofs.YtbdbpjghmejfjaaGreatDoor
open Go.RowKit Go.Deep

def sgn (b : Bool) : Int := if b then 1 else -1

theorem sign_any (b : Bool) (w : World) : Calls Tryz.prog 41 #[.bool b] w fun e w' => e = .returned (.int .i64 (sgn b)) ∧ w' = w := by
  cases b
  · go_enter Tryz.func41, Tryz.ntmps41
    go_wp2
    go_ret
    exact ⟨rfl, rfl⟩
  · go_enter Tryz.func41, Tryz.ntmps41
    go_wp2
    go_ret
    exact ⟨rfl, rfl⟩

theorem cmp_at {zs ys : List Int} (hz : Nm.Limbs zs) (hy : Nm.Limbs ys) (hl : (Nm.trim zs).length = (Nm.trim ys).length) (t : Nat) (ht : t < (Nm.trim zs).length) (he : ∀ i, t + 1 ≤ i → (Nm.trim zs).getD i 0 = (Nm.trim ys).getD i 0) {x y : Int}
    (hx : x = (Nm.trim zs).getD t 0) (hy' : y = (Nm.trim ys).getD t 0) (hxy : x ≠ y) : sgn (decide (y < x)) = cmpI (Nm.val zs) (Nm.val ys) := by
  have hd := Nm.drop_eq_of_getD hl (t + 1) he
  rw [← Nm.val_trim zs, ← Nm.val_trim ys]
  by_cases h : y < x
  · rw [cmpI_gt (Nm.val_lt_at hy.trim hz.trim t (by omega) hl.symm (by rw [← hx, ← hy']; exact h) hd.symm)]
    simp [sgn, h]
  · rw [cmpI_lt (Nm.val_lt_at hz.trim hy.trim t ht hl (by rw [← hx, ← hy']; omega) hd)]
    simp [sgn, h]

set_option maxHeartbeats 1000000 in
theorem cmp_any (p q : Option Addr) (n cap m cap' : Nat) (zs ys : List Int) (w : World) (ha : Arg w p n cap zs) (hb : Arg w q m cap' ys) :
    Calls Tryz.prog 17 #[.slice p n cap, .slice q m cap'] w fun e w' => e = .returned (.int .i64 (cmpI (Nm.val zs) (Nm.val ys))) ∧ Below w.heap.size w w' := by
  obtain ⟨a1, a2, a3, a4, a5⟩ := ha
  obtain ⟨b1, b2, b3, b4, b5⟩ := hb
  have tl := Nm.tsize_le zs
  have tl' := Nm.tsize_le ys
  by_cases h1 : Nm.tsize zs < Nm.tsize ys
  · have E := hid (cmpI_lt (val_lt_of_tsize a5 b5 h1))
    have E' : Hid (sgn (decide (Nm.tsize ys < Nm.tsize zs)) = -1) := by simp [Hid, sgn]; omega
    have h1' : ((Nm.tsize zs : Int) != (Nm.tsize ys : Int)) = true := by rw [bne_iff_ne]; omega
    go_enter Tryz.func17, Tryz.ntmps17
    go_wp2_with fail
    refine (trimmed_any p n cap zs _ a1 a2 (by omega) a4).mono ?_
    rintro e w' ⟨rfl, rfl⟩
    go_wp2_with fail
    refine (trimmed_any q m cap' ys _ b1 b2 (by omega) b4).mono ?_
    rintro e w' ⟨rfl, rfl⟩
    go_wp2_with fail
    refine (sign_any _ _).mono ?_
    rintro e w' ⟨rfl, rfl⟩
    go_wp2
    go_ret
    exact ⟨ret_i64 (by rw [E.out]; first | exact E'.out | simp [sgn]), Below.refl _ _⟩
  by_cases h2 : Nm.tsize ys < Nm.tsize zs
  · have E := hid (cmpI_gt (val_lt_of_tsize b5 a5 h2))
    have E' : Hid (sgn (decide (Nm.tsize ys < Nm.tsize zs)) = 1) := by simp [Hid, sgn, h2]
    have h1' : ((Nm.tsize zs : Int) != (Nm.tsize ys : Int)) = true := by rw [bne_iff_ne]; omega
    go_enter Tryz.func17, Tryz.ntmps17
    go_wp2_with fail
    refine (trimmed_any p n cap zs _ a1 a2 (by omega) a4).mono ?_
    rintro e w' ⟨rfl, rfl⟩
    go_wp2_with fail
    refine (trimmed_any q m cap' ys _ b1 b2 (by omega) b4).mono ?_
    rintro e w' ⟨rfl, rfl⟩
    go_wp2_with fail
    refine (sign_any _ _).mono ?_
    rintro e w' ⟨rfl, rfl⟩
    go_wp2
    go_ret
    exact ⟨ret_i64 (by rw [E.out]; first | exact E'.out | simp [sgn]), Below.refl _ _⟩
  obtain ⟨N, HN⟩ : ∃ N, Hid (Nm.tsize zs = N) := ⟨_, rfl⟩
  have HN' : Hid (Nm.tsize ys = N) := by have := HN.out; exact (show Nm.tsize ys = N by omega)
  have T1 := trimmed_any p n cap zs w a1 a2 (by omega) a4
  have T2 := trimmed_any q m cap' ys w b1 b2 (by omega) b4
  rw [HN.out] at T1
  rw [HN'.out] at T2
  have hN : N ≤ 17592186044416 := by have := HN.out; omega
  have L1 := hid (Nm.trim_length zs)
  have L2 := hid (Nm.trim_length ys)
  clear h1 h2 tl tl'
  have fin : Nm.trim zs = Nm.trim ys → cmpI (Nm.val zs) (Nm.val ys) = 0 := fun h => cmpI_eq (by rw [← Nm.val_trim zs, ← Nm.val_trim ys, h])
  have FIN := hid fin
  clear fin
  by_cases h0 : N = 0
  · have HT1 := hid T1
    have HT2 := hid T2
    clear T1 T2
    subst h0
    go_enter Tryz.func17, Tryz.ntmps17
    go_wp2_with fail
    refine HT1.out.mono ?_
    rintro e w' ⟨rfl, rfl⟩
    go_wp2_with fail
    refine HT2.out.mono ?_
    rintro e w' ⟨rfl, rfl⟩
    go_wp2_with fail
    refine wp_loop_rounds 1 ?_
    rw [rounds_succ]
    go_wp2
    go_ret
    exact ⟨ret_i64 (FIN.out (by rw [List.eq_nil_of_length_eq_zero (L1.out.trans HN.out), List.eq_nil_of_length_eq_zero (L2.out.trans HN'.out)])).symm, Below.refl _ _⟩
  · obtain ⟨b, off, rfl, hbw, HC⟩ := a4.trim.at (by have := L1.out; have := HN.out; omega)
    obtain ⟨b', off', rfl, hbw', HC'⟩ := b4.trim.at (by have := L2.out; have := HN'.out; omega)
    have HT1 := hid T1
    have HT2 := hid T2
    clear T1 T2
    go_enter Tryz.func17, Tryz.ntmps17
    go_wp2_with fail
    refine HT1.out.mono ?_
    rintro e w' ⟨rfl, rfl⟩
    go_wp2_with fail
    refine HT2.out.mono ?_
    rintro e w' ⟨rfl, rfl⟩
    go_wp2_with fail
    go_loopw [5] (fun i wr => ∃ j : Nat, j ≤ N ∧ i = .int .i64 ((j : Int) - 1) ∧ Hid (∀ t, j ≤ t → (Nm.trim zs).getD t 0 = (Nm.trim ys).getD t 0) ∧ Below w'.heap.size w' wr) (fun i _ => (intOf i + 1).toNat)
    case atStart => exact ⟨N, Nat.le_refl _, rfl, fun t ht => by rw [List.getD, List.getElem?_eq_none (by have := L1.out; have := HN.out; omega), List.getD, List.getElem?_eq_none (by have := L2.out; have := HN'.out; omega)], Below.refl _ _⟩
    case round =>
      obtain ⟨j, hj, rfl, hE, hB⟩ := hrel
      by_cases hj0 : j = 0
      · subst hj0
        have HB := hid hB
        clear hB
        go_wp2
        go_ret
        refine ⟨ret_i64 (FIN.out ?_).symm, HB.out⟩
        have e := Nm.drop_eq_of_getD (by rw [L1.out, L2.out, HN.out, HN'.out]) 0 hE.out
        simpa using e
      · obtain ⟨t, rfl⟩ : ∃ t, j = t + 1 := ⟨j - 1, by omega⟩
        obtain ⟨x, hx, X⟩ : ∃ x, wr.cell? ⟨b, off + t, none⟩ = some (.int .u64 x) ∧ Hid (x = (Nm.trim zs).getD t 0) := ⟨_, (hB.cell (p := ⟨b, off + t, none⟩) hbw).trans (HC.out t (by have := L1.out; have := HN.out; omega)), rfl⟩
        obtain ⟨y, hy, Y⟩ : ∃ y, wr.cell? ⟨b', off' + t, none⟩ = some (.int .u64 y) ∧ Hid (y = (Nm.trim ys).getD t 0) := ⟨_, (hB.cell (p := ⟨b', off' + t, none⟩) hbw').trans (HC'.out t (by have := L2.out; have := HN'.out; omega)), rfl⟩
        have HB := hid hB
        clear hB
        have htN : (t : Int) < (N : Int) := by omega
        by_cases hxy : x = y
        · have hxy' : (x != y) = false := by simp [hxy]
          have HXY := hid hxy
          clear hxy
          go_wp2_with fail
          go_quiet (fail)
          go_wp2
          go_roundw
          case rel =>
            refine ⟨t, by omega, by go_num, fun i hi => ?_, below_drewN HB.out _⟩
            by_cases e : i = t
            · subst e; rw [← X.out, ← Y.out]; exact HXY.out
            · exact hE.out i (by omega)
          case measure => simp [intOf]
        · have hxy' : (x != y) = true := by simp [hxy]
          have HXY := hid hxy
          clear hxy
          go_wp2_with fail
          go_quiet (fail)
          have hx2 : (wr.drewN nq).cell? ⟨b, off + t, none⟩ = some (.int .u64 x) := hx
          have hy2 : (wr.drewN nq).cell? ⟨b', off' + t, none⟩ = some (.int .u64 y) := hy
          have HB2 := hid (below_drewN HB.out nq)
          clear hx hy HB
          generalize wr.drewN nq = wq at *
          go_wp2_with fail
          go_quiet ((go_at_call 41; exact Calls.quiet_of_same (sign_any _ _)))
          go_wp2
          go_ret
          exact ⟨ret_i64 (cmp_at a5 b5 (by rw [L1.out, L2.out, HN.out, HN'.out]) t (by rw [L1.out, HN.out]; omega) hE.out X.out Y.out HXY.out), below_drewN HB2.out _⟩

end Go.Proofs.YtbdbpjghmejfjaaGreatDoor

namespace Go.Proofs.YtbdbpjghmejfjaaGreatDoor
open Go.RowKit Go.Deep

theorem cmp_is (c : Int) (p q : Option Addr) (n cap m cap' : Nat) (zs ys : List Int) (w : World) (ha : Arg w p n cap zs) (hb : Arg w q m cap' ys) (hc : cmpI (Nm.val zs) (Nm.val ys) = c) :
    Calls Tryz.prog 17 #[.slice p n cap, .slice q m cap'] w fun e w' => e = .returned (.int .i64 c) ∧ Below w.heap.size w w' := by
  rw [← hc]
  exact cmp_any p q n cap m cap' zs ys w ha hb
end Go.Proofs.YtbdbpjghmejfjaaGreatDoor
