/-
  THE EXACT DIGITS OF A DOUBLE, AS NUMBERS.
-/
import Derived.Test.YtonnlimmjelldaaGreatDoorNDv
import Derived.Test.YtonnlimmjelldaaGreatDoorNums
namespace Go.Proofs.YtonnlimmjelldaaGreatDoor
open Go.RowKit Go.Deep
namespace Fx

/-- n digits of v. -/
def tx (n : Nat) (v : Int) : List Int := (Dn.dg 10 n v).map (fun d => d + 48)

theorem tx_len (n : Nat) (v : Int) : (tx n v).length = n := by simp [tx, Dn.dg_length]
theorem tx_digs (n : Nat) (v : Int) : Digs (tx n v) := by
  intro d hd
  obtain ⟨e, he, rfl⟩ := List.mem_map.1 hd
  have := Dn.dg_mem (B := 10) (by omega) n v e he
  omega
theorem tx_dv {n : Nat} {v : Int} (h0 : 0 ≤ v) (h1 : v < 10 ^ n) : dv (tx n v) = v := by
  unfold dv tx
  rw [List.map_map, show ((fun d : Int => d - 48) ∘ fun d => d + 48) = id from funext fun d => by simp, List.map_id]
  exact Dn.tv_dg (by omega) n v h0 h1
theorem eq_tx {ds : List Int} (h : Digs ds) : ds = tx ds.length (dv ds) := by
  have := Dn.dg_tv (B := 10) (by omega) ds.length (ds.map (fun d => d - 48)) (by simp) (fun d hd => by
    obtain ⟨e, he, rfl⟩ := List.mem_map.1 hd
    have := h e he
    omega)
  unfold tx dv
  rw [this, List.map_map, show ((fun d : Int => d + 48) ∘ fun d => d - 48) = id from funext fun d => by simp, List.map_id]
theorem digs_inj {a b : List Int} (ha : Digs a) (hb : Digs b) (hl : a.length = b.length) (hv : dv a = dv b) : a = b := by
  rw [eq_tx ha, eq_tx hb, hl, hv]

theorem p_pos (k : Nat) : (0 : Int) < 10 ^ k := Int.pow_pos (by omega)
theorem p_le {a b : Nat} (h : a ≤ b) : (10 : Int) ^ a ≤ 10 ^ b := by
  obtain ⟨c, rfl⟩ := Nat.exists_eq_add_of_le h
  rw [Int.pow_add]
  have h1 := p_pos a
  have h2 : (1 : Int) ≤ 10 ^ c := p_pos c
  have := Int.mul_le_mul_of_nonneg_left h2 (Int.le_of_lt h1)
  omega
theorem p_lt {a b : Nat} (h : (10 : Int) ^ a < 10 ^ b) : a < b := by
  rcases Nat.lt_or_ge a b with c | c
  · exact c
  · have := p_le c
    omega

theorem take_last {xs : List Int} {n : Nat} (hn : xs.length = n + 1) : xs = xs.take n ++ [xs.getD n 0] := by
  have h := List.take_append_drop n xs
  rw [List.drop_eq_getElem_cons (by omega), List.drop_of_length_le (by omega)] at h
  simpa [List.getD, show n < xs.length by omega] using h.symm
theorem dv_snoc (xs : List Int) (x : Int) : dv (xs ++ [x]) = dv xs * 10 + (x - 48) := by
  rw [dv_append, dv_cons]
  simp [dv, Dn.tv]
theorem digs_getD {xs : List Int} (h : Digs xs) {i : Nat} (hi : i < xs.length) : 48 ≤ xs.getD i 0 ∧ xs.getD i 0 ≤ 57 := digs_at h i hi
theorem dv_mod {xs : List Int} {n : Nat} (h : Digs xs) (hn : xs.length = n + 1) : dv xs % 10 = xs.getD n 0 - 48 := by
  have b := digs_getD h (show n < xs.length by omega)
  generalize hx : xs.getD n 0 = x at *
  have e := take_last hn
  rw [hx] at e
  rw [e, dv_snoc]
  omega
theorem head_low {xs : List Int} {n : Nat} (h : Digs xs) (hn : xs.length = n + 1) (hh : xs.getD 0 0 ≠ 48) : 10 ^ n ≤ dv xs := by
  match xs, hn with
  | x :: ys, hn =>
    have hl : ys.length = n := by simpa using hn
    have b := dv_bd (ds := ys) (fun d hd => h d (by simp [hd]))
    have hx := h x (by simp)
    have hx1 : 49 ≤ x := by simp at hh; omega
    rw [dv_cons, hl]
    have := Int.mul_le_mul_of_nonneg_right (show (1 : Int) ≤ x - 48 by omega) (Int.le_of_lt (p_pos n))
    omega

theorem len_eq {xs ys : List Int} (hx : Digs xs) (hy : Digs ys) (nx : xs ≠ []) (ny : ys ≠ []) (h1 : xs.getD 0 0 ≠ 48) (h2 : ys.getD 0 0 ≠ 48) (hv : dv xs = dv ys) : xs.length = ys.length := by
  obtain ⟨a, ha⟩ : ∃ a, xs.length = a + 1 := ⟨xs.length - 1, by have := List.length_pos_iff.2 nx; omega⟩
  obtain ⟨b, hb⟩ : ∃ b, ys.length = b + 1 := ⟨ys.length - 1, by have := List.length_pos_iff.2 ny; omega⟩
  have l1 := head_low hx ha h1
  have l2 := head_low hy hb h2
  have u1 := (dv_bd hx).2
  have u2 := (dv_bd hy).2
  have := p_lt (a := a) (b := ys.length) (by omega)
  have := p_lt (a := b) (b := xs.length) (by omega)
  omega

/-- A row of digits with none but needed ones. -/
structure Nml (xs : List Int) : Prop where
  digs : Digs xs
  ne : xs ≠ []
  head : xs.getD 0 0 ≠ 48
  last : xs.getD (xs.length - 1) 0 ≠ 48

theorem Nml.len {xs : List Int} (h : Nml xs) : ∃ n, xs.length = n + 1 := ⟨xs.length - 1, by have := List.length_pos_iff.2 h.ne; omega⟩
theorem Nml.mod {xs : List Int} (h : Nml xs) : dv xs % 10 ≠ 0 := by
  obtain ⟨n, hn⟩ := h.len
  have e := dv_mod h.digs hn
  have l := h.last
  rw [hn, Nat.add_sub_cancel] at l
  omega

theorem nml_le {xs ys : List Int} {a b : Nat} (hx : Nml xs) (_hy : Nml ys) (h : dv xs * 10 ^ a = dv ys * 10 ^ b) : b ≤ a := by
  rcases Nat.lt_or_ge a b with c | c
  · exfalso
    obtain ⟨d, rfl⟩ := Nat.exists_eq_add_of_lt c
    rw [show a + d + 1 = (d + 1) + a by omega, Int.pow_add, ← Int.mul_assoc] at h
    have e := Int.eq_of_mul_eq_mul_right (by have := p_pos a; omega) h
    rw [Int.pow_succ, ← Int.mul_assoc] at e
    have := hx.mod
    omega
  · exact c
theorem nml_one {xs ys : List Int} {a b : Nat} (hx : Nml xs) (hy : Nml ys) (h : dv xs * 10 ^ a = dv ys * 10 ^ b) : xs = ys ∧ a = b := by
  have e : a = b := Nat.le_antisymm (nml_le hy hx h.symm) (nml_le hx hy h)
  subst e
  have v := Int.eq_of_mul_eq_mul_right (by have := p_pos a; omega) h
  exact ⟨digs_inj hx.digs hy.digs (len_eq hx.digs hy.digs hx.ne hy.ne hx.head hy.head v) v, rfl⟩

/-- The zeros at the end taken off. -/
theorem nml_take {ys : List Int} {k : Nat} (hd : Digs ys) (hh : ys.getD 0 0 ≠ 48) (hk : k ≤ ys.length) (h0 : ∀ i, k ≤ i → i < ys.length → ys.getD i 0 = 48) (hl : 0 < k → ys.getD (k - 1) 0 ≠ 48) (hv : 0 < dv ys) : 0 < k ∧ Nml (ys.take k) ∧ dv (ys.take k) * 10 ^ (ys.length - k) = dv ys := by
  have e : ys.drop k = List.replicate (ys.length - k) 48 := by
    apply List.ext_getElem
    · simp
    · intro i h1 h2
      have h3 := h0 (k + i) (by omega) (by simp at h1; omega)
      simp at h1
      simpa [List.getD, show k + i < ys.length by omega] using h3
  have v : dv (ys.take k) * 10 ^ (ys.length - k) = dv ys := by
    conv => rhs; rw [← List.take_append_drop k ys, dv_append, e, dv_zeros]
    simp
  have kp : 0 < k := by
    rcases Nat.eq_zero_or_pos k with c | c
    · subst c
      rw [List.take_zero, show dv [] = 0 from rfl, Int.zero_mul] at v
      omega
    · exact c
  refine ⟨kp, ⟨fun d h => hd d (List.mem_of_mem_take h), ?_, ?_, ?_⟩, v⟩
  · intro c
    have e1 : (ys.take k).length = k := by rw [List.length_take]; omega
    rw [c, List.length_nil] at e1
    omega
  · simpa [List.getD, kp] using hh
  · have := hl kp
    have hm : min k ys.length = k := by omega
    rw [List.length_take, hm]
    simpa [List.getD, show k - 1 < k by omega] using this

theorem log_ex : ∀ (n : Nat), 0 < n → ∃ L : Nat, 10 ^ L ≤ n ∧ n < 10 ^ (L + 1) := by
  intro n
  induction n using Nat.strongRecOn with
  | _ n ih =>
    intro h
    rcases Nat.lt_or_ge n 10 with c | c
    · exact ⟨0, by simp; omega, by simp; omega⟩
    · obtain ⟨L, l1, l2⟩ := ih (n / 10) (by omega) (by omega)
      refine ⟨L + 1, ?_, ?_⟩
      · rw [Nat.pow_succ]; omega
      · rw [Nat.pow_succ]; omega

theorem nml_ex : ∀ (n : Nat), 0 < n → ∃ xs a, Nml xs ∧ dv xs * 10 ^ a = (n : Int) := by
  intro n
  induction n using Nat.strongRecOn with
  | _ n ih =>
    intro h
    rcases Nat.eq_zero_or_pos (n % 10) with c | c
    · obtain ⟨xs, a, h1, h2⟩ := ih (n / 10) (by omega) (by omega)
      refine ⟨xs, a + 1, h1, ?_⟩
      rw [Int.pow_succ, ← Int.mul_assoc, h2]
      omega
    · obtain ⟨L, l1, l2⟩ := log_ex n h
      have l1' : (10 : Int) ^ L ≤ (n : Int) := by have := Int.ofNat_le.2 l1; simpa using this
      have l2' : (n : Int) < (10 : Int) ^ (L + 1) := by have := Int.ofNat_lt.2 l2; simpa using this
      have hd := tx_digs (L + 1) (n : Int)
      have hl := tx_len (L + 1) (n : Int)
      have hv := tx_dv (n := L + 1) (v := (n : Int)) (by omega) l2'
      refine ⟨tx (L + 1) n, 0, ⟨hd, fun e => by rw [e] at hl; simp at hl, ?_, ?_⟩, by rw [hv]; simp⟩
      · match htx : tx (L + 1) (n : Int), hl with
        | x :: ys, hl =>
          rw [htx] at hv hd
          intro e
          simp at e
          have b := (dv_bd (ds := ys) (fun d h => hd d (by simp [h]))).2
          rw [dv_cons, e] at hv
          have : ys.length = L := by simpa using hl
          rw [this] at b
          omega
      · have := dv_mod hd hl
        rw [hl, Nat.add_sub_cancel]
        omega

def F5 : Int := 5 ^ 1074
theorem F5_pos : 0 < F5 := by unfold F5; exact Int.pow_pos (by omega)
theorem five_low : (10 : Nat) ^ 750 ≤ 5 ^ 1074 := by decide +kernel
theorem five_high : (2 : Nat) ^ 2098 * 5 ^ 1074 < 2 * 10 ^ 1382 := by decide +kernel
theorem F5_low : (10 : Int) ^ 750 ≤ F5 := by
  have := Int.ofNat_le.2 five_low
  unfold F5
  generalize 750 = a, 1074 = b at this ⊢
  rw [Int.natCast_pow, Int.natCast_pow] at this
  exact this
theorem F5_high : (2 : Int) ^ 2098 * F5 < 2 * 10 ^ 1382 := by
  have := Int.ofNat_lt.2 five_high
  unfold F5
  generalize 2098 = a, 1074 = b, 1382 = c at this ⊢
  rw [Int.natCast_mul, Int.natCast_mul, Int.natCast_pow, Int.natCast_pow, Int.natCast_pow] at this
  exact this

/-- xs and E: the exact digits of m * 2^e. -/
structure Ex (m e : Int) (xs : List Int) (E : Int) : Prop where
  lo : -1074 ≤ E
  zero : m = 0 → xs = [48] ∧ E = 0
  nml : 0 < m → Nml xs
  eq : 0 < m → dv xs * 10 ^ (E + 1074).toNat = m * 2 ^ (e + 1074).toNat * F5

theorem Ex.digs {m e : Int} {xs : List Int} {E : Int} (hm : 0 ≤ m) (h : Ex m e xs E) : Digs xs ∧ xs ≠ [] := by
  rcases (show m = 0 ∨ 0 < m by omega) with c | c
  · rw [(h.zero c).1]
    exact ⟨fun d hd => by simp at hd; omega, by simp⟩
  · exact ⟨(h.nml c).digs, (h.nml c).ne⟩

theorem Ex.one {m e : Int} {xs ys : List Int} {E F : Int} (hm : 0 ≤ m) (h : Ex m e xs E) (k : Ex m e ys F) : xs = ys ∧ E = F := by
  rcases (show m = 0 ∨ 0 < m by omega) with c | c
  · exact ⟨by rw [(h.zero c).1, (k.zero c).1], by rw [(h.zero c).2, (k.zero c).2]⟩
  · obtain ⟨e1, e2⟩ := nml_one (h.nml c) (k.nml c) (by rw [h.eq c, k.eq c])
    exact ⟨e1, by have := h.lo; have := k.lo; omega⟩

theorem ex_ex (m e : Int) (hm : 0 ≤ m) : ∃ xs E, Ex m e xs E := by
  rcases (show m = 0 ∨ 0 < m by omega) with c | c
  · exact ⟨[48], 0, by omega, fun _ => ⟨rfl, rfl⟩, fun h => by omega, fun h => by omega⟩
  · have hN : 0 < m * 2 ^ (e + 1074).toNat * F5 := Int.mul_pos (Int.mul_pos c (Int.pow_pos (by omega))) F5_pos
    obtain ⟨xs, a, h1, h2⟩ := nml_ex (m * 2 ^ (e + 1074).toNat * F5).toNat (by omega)
    refine ⟨xs, (a : Int) - 1074, by omega, fun h => by omega, fun _ => h1, fun _ => ?_⟩
    rw [show ((a : Int) - 1074 + 1074).toNat = a by omega, h2]
    omega

/-- Where the digits lie. -/
theorem Ex.room {m e : Int} {xs : List Int} {E : Int} (hm : 0 < m) (hm1 : m < 9007199254740992) (he : e ≤ 971) (h : Ex m e xs E) :
    -323 ≤ xs.length + E ∧ xs.length + E ≤ 309 ∧ ((xs.length : Int) + E = 309 → dv xs < 2 * 10 ^ (xs.length - 1)) := by
  obtain ⟨a, ha⟩ : ∃ a : Nat, (E + 1074).toNat = a := ⟨_, rfl⟩
  obtain ⟨k, hk⟩ : ∃ k : Nat, (e + 1074).toNat = k := ⟨_, rfl⟩
  have hk1 : k ≤ 2045 := by omega
  have q := h.eq hm
  rw [ha, hk] at q
  have p2 : (0 : Int) < 2 ^ k := Int.pow_pos (by omega)
  have f0 := F5_pos
  have low : (10 : Int) ^ 750 ≤ m * 2 ^ k * F5 := by
    have h1 : (1 : Int) ≤ m * 2 ^ k := Int.mul_pos hm p2
    have := Int.mul_le_mul_of_nonneg_right h1 (Int.le_of_lt f0)
    have := F5_low
    omega
  have high : m * 2 ^ k * F5 < 2 * 10 ^ 1382 := by
    have h1 : m * 2 ^ k ≤ 2 ^ 2098 := by
      have e1 : (2 : Int) ^ 2098 = 2 ^ 53 * (2 ^ (2045 - k) * 2 ^ k) := by rw [← Int.pow_add, ← Int.pow_add]; congr 1; omega
      rw [e1, ← Int.mul_assoc]
      refine Int.mul_le_mul_of_nonneg_right ?_ (Int.le_of_lt p2)
      have h3 : (1 : Int) ≤ 2 ^ (2045 - k) := Int.pow_pos (by omega)
      have h4 : (2 : Int) ^ 53 = 9007199254740992 := by decide
      rw [h4]
      generalize (2 : Int) ^ (2045 - k) = z at h3
      omega
    have := Int.mul_le_mul_of_nonneg_right h1 (Int.le_of_lt f0)
    have := F5_high
    omega
  obtain ⟨n, hn⟩ := (h.nml hm).len
  have b1 := head_low (h.nml hm).digs hn (h.nml hm).head
  have b2 := (dv_bd (h.nml hm).digs).2
  rw [← q] at low high
  have pa := p_pos a
  have c1 : (10 : Int) ^ (n + a) ≤ dv xs * 10 ^ a := by rw [Int.pow_add]; exact Int.mul_le_mul_of_nonneg_right b1 (Int.le_of_lt pa)
  have c2 : dv xs * 10 ^ a < 10 ^ (xs.length + a) := by rw [Int.pow_add]; exact Int.mul_lt_mul_of_pos_right b2 pa
  have d1 : n + a < 1383 := p_lt (by
    have : (10 : Int) ^ 1383 = 10 ^ 1382 * 10 := Int.pow_succ ..
    rw [this]
    have := p_pos 1382
    generalize (10 : Int) ^ 1382 = z at *
    omega)
  have d2 : 750 < xs.length + a := p_lt (by
    generalize (10 : Int) ^ 750 = z at *
    omega)
  have lo := h.lo
  refine ⟨by omega, by omega, fun c => ?_⟩
  have e1 : 1382 = n + a := by omega
  rw [e1, Int.pow_add, ← Int.mul_assoc] at high
  rw [hn, Nat.add_sub_cancel]
  exact Int.lt_of_mul_lt_mul_right high (Int.le_of_lt pa)

/-- The exact digits of m * 2^e, and their power of ten. -/
noncomputable def xd (m e : Int) : List Int := open Classical in if h : ∃ p : List Int × Int, Ex m e p.1 p.2 then (Classical.choose h).1 else []
noncomputable def ed (m e : Int) : Int := open Classical in if h : ∃ p : List Int × Int, Ex m e p.1 p.2 then (Classical.choose h).2 else 0
theorem ex_is {m e : Int} (hm : 0 ≤ m) : Ex m e (xd m e) (ed m e) := by
  obtain ⟨xs, E, h⟩ := ex_ex m e hm
  have k : ∃ p : List Int × Int, Ex m e p.1 p.2 := ⟨(xs, E), h⟩
  unfold xd ed
  rw [dif_pos k, dif_pos k]
  exact Classical.choose_spec k
theorem Ex.is {m e : Int} {xs : List Int} {E : Int} (hm : 0 ≤ m) (h : Ex m e xs E) : xs = xd m e ∧ E = ed m e := h.one hm (ex_is hm)

/-- What the digits of a whole number make. -/
theorem ex_of {m e : Int} {ys : List Int} {k : Nat} {F : Int} (hm : 0 < m) (hd : Digs ys) (hh : ys.getD 0 0 ≠ 48) (hk : k ≤ ys.length) (h0 : ∀ i, k ≤ i → i < ys.length → ys.getD i 0 = 48) (hl : 0 < k → ys.getD (k - 1) 0 ≠ 48)
    (hF : -1074 ≤ F) (hv : dv ys * 10 ^ (F + 1074).toNat = m * 2 ^ (e + 1074).toNat * F5) : Ex m e (ys.take k) (F + (ys.length - k)) ∧ 0 < k := by
  have vp : 0 < dv ys := by
    have hN : 0 < m * 2 ^ (e + 1074).toNat * F5 := Int.mul_pos (Int.mul_pos hm (Int.pow_pos (by omega))) F5_pos
    rw [← hv] at hN
    have := (dv_bd hd).1
    rcases (show dv ys = 0 ∨ 0 < dv ys by omega) with c | c
    · rw [c, Int.zero_mul] at hN; omega
    · exact c
  obtain ⟨kp, n, v⟩ := nml_take hd hh hk h0 hl vp
  refine ⟨⟨by omega, fun c => by omega, fun _ => n, fun _ => ?_⟩, kp⟩
  rw [← hv, ← v, show (F + ((ys.length : Int) - (k : Int)) + 1074).toNat = (ys.length - k) + (F + 1074).toNat by omega, Int.pow_add, Int.mul_assoc]
end Fx
end Go.Proofs.YtonnlimmjelldaaGreatDoor
