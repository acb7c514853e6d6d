/-
  Texts put together: VStr, NStr, NDigit, NDv, FNum, ShA, Shl, FShl, QRows, Walk4, MulOver, QGives, NSquares, NGroup, NBTrim.
-/
import Derived.Test.YtbmlkfkhmaahnaaGreatDoorV0
import Derived.Test.YtbmlkfkhmaahnaaGreatDoorVNum
import Derived.Laws.BytesArg
import Derived.Laws.IdiomStrings
import Derived.Laws.Strings3
import Derived.Laws.DeepStrings4
import Derived.Test.YtbmlkfkhmaahnaaGreatDoorNMem
import Derived.Test.YtbmlkfkhmaahnaaGreatDoorNums
import Derived.Test.YtbmlkfkhmaahnaaGreatDoorMem
import Derived.Test.YtbmlkfkhmaahnaaGreatDoorBare
import Derived.Test.YtbmlkfkhmaahnaaGreatDoorBlenIs
import Derived.Laws.AppendOwn
import Derived.Laws.OwnMore
import Derived.Test.YtbmlkfkhmaahnaaGreatDoorWalk2a
import Derived.Test.YtbmlkfkhmaahnaaGreatDoorQLimbs
import Derived.Test.YtbmlkfkhmaahnaaGreatDoorFromW
import Derived.Test.YtbmlkfkhmaahnaaGreatDoorTrimW
import Derived.Test.YtbmlkfkhmaahnaaGreatDoorSmall
import Derived.OwnWalk
import Derived.Deep.LoopGhost
import Derived.Test.YtbmlkfkhmaahnaaGreatDoorWalk1
namespace Go.Proofs.YtbmlkfkhmaahnaaGreatDoor
open Go.RowKit Go.Deep

/-- s has just these bytes. -/
def Str (s : ByteArray) (xs : List Int) : Prop := s.data.toList.map (fun b => (b.toNat : Int)) = xs

theorem Str.self (s : ByteArray) : Str s (s.data.toList.map (fun b => (b.toNat : Int))) := rfl

theorem Str.size {s : ByteArray} {xs : List Int} (h : Str s xs) : s.size = xs.length := by
  rw [← h, List.length_map, Array.length_toList]
  rfl

theorem Str.at {s : ByteArray} {xs : List Int} (h : Str s xs) (t : Nat) (ht : t < s.size) : ((s[t]'ht).toNat : Int) = xs.getD t 0 := by
  rw [← h]
  have : t < s.data.toList.length := by rw [Array.length_toList]; exact ht
  simp only [List.getD_eq_getElem?_getD, List.getElem?_map, List.getElem?_eq_getElem this, Option.map_some, Option.getD_some]
  rfl

theorem Str.mem {s : ByteArray} {xs : List Int} (h : Str s xs) {x : Int} (hx : x ∈ xs) : 0 ≤ x ∧ x < 256 := by
  rw [← h] at hx
  obtain ⟨b, _, rfl⟩ := List.mem_map.1 hx
  have := b.toNat_lt
  omega

theorem Str.atb {s : ByteArray} {xs : List Int} (h : Str s xs) (t : Nat) : 0 ≤ xs.getD t 0 ∧ xs.getD t 0 < 256 := by
  by_cases ht : t < xs.length
  · have : xs.getD t 0 = xs[t] := by simp [List.getD, ht]
    rw [this]
    exact h.mem (List.getElem_mem ht)
  · rw [show xs.getD t 0 = 0 by simp [List.getD, List.getElem?_eq_none (show xs.length ≤ t by omega)]]
    omega

theorem Str.extract {s : ByteArray} {xs : List Int} (h : Str s xs) (a b : Nat) : Str (s.extract a b) ((xs.drop a).take (b - a)) := by
  unfold Str at *
  rw [← h, ByteArray.data_extract]
  simp [List.map_drop, List.map_take]

theorem Str.of_nums {xs : List Int} (h : ∀ x ∈ xs, 0 ≤ x ∧ x < 256) : Str (strOfNums xs) xs := by
  unfold Str
  rw [strOfNums_data, List.map_map]
  conv => rhs; rw [← List.map_id xs]
  apply List.map_congr_left
  intro x hx
  have := h x hx
  simp only [Function.comp, id]
  rw [UInt8.toNat_ofNat_of_lt' (by show x.toNat < 256; omega)]
  omega

theorem Str.inj {s t : ByteArray} {xs : List Int} (h : Str s xs) (k : Str t xs) : s = t := by
  unfold Str at h k
  have e : s.data.toList = t.data.toList := by
    rw [← k] at h
    exact List.map_inj_right (fun a b hab => by
      have : a.toNat = b.toNat := by omega
      exact UInt8.toNat_inj.1 this) |>.1 h
  cases s
  cases t
  simp only at e
  rw [Array.toList_inj.1 e]

/-- s == t, asked by the bytes. -/
theorem Str.eq {s t : ByteArray} {xs ys : List Int} (h : Str s xs) (k : Str t ys) : (s.toList == t.toList) = decide (xs = ys) := by
  by_cases e : xs = ys
  · subst e
    rw [h.inj k]
    simp
  · rw [decide_eq_false e, beq_eq_false_iff_ne]
    intro c
    apply e
    rw [ByteArray.toList_eq, ByteArray.toList_eq] at c
    rw [← h, ← k, c]
theorem str_nil0 : Str ⟨#[]⟩ [] := rfl
end Go.Proofs.YtbmlkfkhmaahnaaGreatDoor



namespace Go.Proofs.YtbmlkfkhmaahnaaGreatDoor
open Go.RowKit Go.Deep

/-- What a byte counts as a digit; 36 if it is none. -/
def wv (x : Int) : Int := if 48 ≤ x ∧ x ≤ 57 then x - 48 else if 97 ≤ x ∧ x ≤ 122 then x - 97 + 10 else if 65 ≤ x ∧ x ≤ 90 then x - 65 + 10 else 36

theorem wv_bd (x : Int) : 0 ≤ wv x ∧ wv x ≤ 36 := by
  unfold wv
  split
  · omega
  · split
    · omega
    · split <;> omega

theorem dret_u64 {a b : Int} (h : a = b) : Ending.returned (.int .u64 a) = .returned (.int .u64 b) := by rw [h]

set_option maxRecDepth 100000 in
theorem worth_any (x : Int) (w : World) (h0 : 0 ≤ x) (h1 : x < 256) :
    Calls Tryz.prog 200 #[.int .u8 x] w fun e w' => e = .returned (.int .u64 (wv x)) ∧ w' = w := by
  by_cases a1 : 48 ≤ x ∧ x ≤ 57
  · have E : Hid (x - 48 = wv x) := by show _ = _; rw [wv, if_pos a1]
    obtain ⟨a1, a2⟩ := a1
    go_enter Tryz.func200, Tryz.ntmps200
    go_wp2
    go_ret
    exact ⟨dret_u64 E.out, rfl⟩
  by_cases a2 : 97 ≤ x ∧ x ≤ 122
  · have E : Hid (x - 97 + 10 = wv x) := by show _ = _; rw [wv, if_neg a1, if_pos a2]
    obtain ⟨a3, a4⟩ := a2
    clear a1
    go_enter Tryz.func200, Tryz.ntmps200
    go_wp2
    go_ret
    exact ⟨dret_u64 E.out, rfl⟩
  by_cases a3 : 65 ≤ x ∧ x ≤ 90
  · have E : Hid (x - 65 + 10 = wv x) := by show _ = _; rw [wv, if_neg a1, if_neg a2, if_pos a3]
    obtain ⟨a5, a6⟩ := a3
    clear a1 a2
    go_enter Tryz.func200, Tryz.ntmps200
    go_wp2
    go_ret
    exact ⟨dret_u64 E.out, rfl⟩
  · have E : Hid (36 = wv x) := by show _ = _; rw [wv, if_neg a1, if_neg a2, if_neg a3]
    rcases (show x < 48 ∨ (57 < x ∧ x < 65) ∨ (90 < x ∧ x < 97) ∨ 122 < x by omega) with h | ⟨h, k⟩ | ⟨h, k⟩ | h <;> clear a1 a2 a3
    · go_enter Tryz.func200, Tryz.ntmps200
      go_wp2
      go_ret
      exact ⟨dret_u64 E.out, rfl⟩
    · go_enter Tryz.func200, Tryz.ntmps200
      go_wp2
      go_ret
      exact ⟨dret_u64 E.out, rfl⟩
    · go_enter Tryz.func200, Tryz.ntmps200
      go_wp2
      go_ret
      exact ⟨dret_u64 E.out, rfl⟩
    · go_enter Tryz.func200, Tryz.ntmps200
      go_wp2
      go_ret
      exact ⟨dret_u64 E.out, rfl⟩

/-- What wrong tells. -/
inductive WrongIs (xs : List Int) (B : Int) : Int → Prop
  | none : (∀ i, i < xs.length → wv (xs.getD i 0) < B) → WrongIs xs B (-1)
  | here (t : Nat) : t < xs.length → (∀ i, i < t → wv (xs.getD i 0) < B) → B ≤ wv (xs.getD t 0) → WrongIs xs B (t : Int)

set_option maxRecDepth 100000 in
set_option maxHeartbeats 1000000 in
theorem wrong_any (s : ByteArray) (xs : List Int) (n : Nat) (B : Int) (w : World) (hs : Str s xs) (hn : xs.length = n) (hn1 : n ≤ 140737488355328) :
    Calls Tryz.prog 194 #[.string s, .int .u64 B] w fun e w' => (∃ r, e = .returned (.int .i64 r) ∧ WrongIs xs B r) ∧ w' = w := by
  have hsz : s.size = n := by rw [hs.size, hn]
  have HS := hid hs
  have HN := hid hn
  clear hs hn
  go_enter Tryz.func194, Tryz.ntmps194
  go_wp2_with fail
  go_loop [5, 8] (fun _ c => ∃ j : Nat, c = .int .i64 (j : Int) ∧ j ≤ n ∧ Hid (∀ i, i < j → wv (xs.getD i 0) < B)) (fun _ c => n - (intOf c).toNat)
  case atStart => exact ⟨0, rfl, Nat.zero_le _, fun i hi => by omega⟩
  case round =>
    obtain ⟨j, rfl, hj, I⟩ := hrel
    by_cases hlt : j < n
    · have hji : (j : Int) < (n : Int) := by omega
      obtain ⟨x, X⟩ : ∃ x, Hid (xs.getD j 0 = x) := ⟨_, rfl⟩
      have hx : ∀ h : j < s.size, ((s[j]'h).toNat : Int) = x := fun h => by rw [HS.out.at j h, X.out]
      have hxb := HS.out.atb j
      rw [X.out] at hxb
      obtain ⟨hx0, hx1⟩ := hxb
      obtain ⟨v, V⟩ : ∃ v, Hid (wv x = v) := ⟨_, rfl⟩
      have WO := hid (worth_any x w hx0 hx1)
      rw [V.out] at WO
      have hv0 : 0 ≤ v := by have := (wv_bd x).1; have := V.out; omega
      have hv1 : v ≤ 36 := by have := (wv_bd x).2; have := V.out; omega
      by_cases hd : v < B
      · go_wp2_with fail
        refine WO.out.mono ?_
        rintro e w' ⟨rfl, rfl⟩
        have I2 : Hid (∀ i, i < j + 1 → wv (xs.getD i 0) < B) := fun i hi => by
          by_cases e : i = j
          · subst e; rw [X.out, V.out]; exact hd
          · exact I.out i (by omega)
        clear I WO
        go_wp2_with fail
        go_round
        case rel => exact ⟨j + 1, by go_num, by omega, I2.out⟩
        case measure => simp [intOf]; omega
      · have F : Hid (WrongIs xs B (j : Int)) := .here j (by have := HN.out; omega) I.out (by rw [X.out, V.out]; omega)
        clear I
        go_wp2_with fail
        refine WO.out.mono ?_
        rintro e w' ⟨rfl, rfl⟩
        clear WO
        go_wp2_with fail
        go_ret
        exact ⟨⟨_, rfl, F.out⟩, rfl⟩
    · obtain rfl : j = n := by omega
      have F : Hid (WrongIs xs B (-1)) := .none (fun i hi => I.out i (by have := HN.out; omega))
      clear I
      go_wp2_with fail
      go_ret
      exact ⟨⟨_, rfl, F.out⟩, rfl⟩
end Go.Proofs.YtbmlkfkhmaahnaaGreatDoor

namespace Go.Proofs.YtbmlkfkhmaahnaaGreatDoor
open Go.RowKit Go.Deep

/-- The number of a row of decimal digits. -/
def dv (ds : List Int) : Int := Dn.tv 10 0 (ds.map (fun d => d - 48))
def Digs (ds : List Int) : Prop := ∀ d ∈ ds, 48 ≤ d ∧ d ≤ 57

theorem dv_append (xs ys : List Int) : dv (xs ++ ys) = dv xs * 10 ^ ys.length + dv ys := by
  unfold dv
  rw [List.map_append, Dn.tv_append, Dn.tv_acc, List.length_map]

theorem dv_cons (x : Int) (ys : List Int) : dv (x :: ys) = (x - 48) * 10 ^ ys.length + dv ys := by
  have := dv_append [x] ys
  simpa [dv, Dn.tv] using this

theorem dv_zeros : ∀ k, dv (List.replicate k 48) = 0
  | 0 => rfl
  | k + 1 => by
    rw [List.replicate_succ, dv_cons, dv_zeros k]
    simp

theorem dv_nines : ∀ k, dv (List.replicate k 57) = 10 ^ k - 1
  | 0 => rfl
  | k + 1 => by
    rw [List.replicate_succ, dv_cons, dv_nines k, List.length_replicate, Int.pow_succ]
    omega

theorem dv_bd {ds : List Int} (h : Digs ds) : 0 ≤ dv ds ∧ dv ds < 10 ^ ds.length := by
  have hm : ∀ d ∈ ds.map (fun d => d - 48), 0 ≤ d ∧ d < 10 := fun d hd => by
    obtain ⟨e, he, rfl⟩ := List.mem_map.1 hd
    have := h e he
    omega
  have h2 := Dn.tv_lt (show (0 : Int) < 10 by omega) _ hm
  rw [List.length_map] at h2
  exact ⟨Dn.tv_nonneg (by omega) 0 _ (Int.le_refl _) (fun d hd => (hm d hd).1), h2⟩

theorem wv_dig {x : Int} (h : 48 ≤ x ∧ x ≤ 57) : wv x = x - 48 := by rw [wv, if_pos h]

theorem digs_at {xs : List Int} (h : Digs xs) (i : Nat) (hi : i < xs.length) : 48 ≤ xs.getD i 0 ∧ xs.getD i 0 ≤ 57 := by
  have e : xs.getD i 0 = xs[i] := by simp [List.getD, hi]
  rw [e]
  exact h _ (List.getElem_mem hi)
end Go.Proofs.YtbmlkfkhmaahnaaGreatDoor

namespace Go.Proofs.YtbmlkfkhmaahnaaGreatDoor
open Go.RowKit Go.Deep
namespace Fx

/-- n digits of v. -/
def tx (n : Nat) (v : Int) : List Int := (Dn.dg 10 n v).map (fun d => d + 48)

theorem tx_len (n : Nat) (v : Int) : (tx n v).length = n := by simp [tx, Dn.dg_length]
theorem tx_digs (n : Nat) (v : Int) : Digs (tx n v) := by
  intro d hd
  obtain ⟨e, he, rfl⟩ := List.mem_map.1 hd
  have := Dn.dg_mem (B := 10) (by omega) n v e he
  omega
theorem tx_dv {n : Nat} {v : Int} (h0 : 0 ≤ v) (h1 : v < 10 ^ n) : dv (tx n v) = v := by
  unfold dv tx
  rw [List.map_map, show ((fun d : Int => d - 48) ∘ fun d => d + 48) = id from funext fun d => by simp, List.map_id]
  exact Dn.tv_dg (by omega) n v h0 h1
theorem eq_tx {ds : List Int} (h : Digs ds) : ds = tx ds.length (dv ds) := by
  have := Dn.dg_tv (B := 10) (by omega) ds.length (ds.map (fun d => d - 48)) (by simp) (fun d hd => by
    obtain ⟨e, he, rfl⟩ := List.mem_map.1 hd
    have := h e he
    omega)
  unfold tx dv
  rw [this, List.map_map, show ((fun d : Int => d + 48) ∘ fun d => d - 48) = id from funext fun d => by simp, List.map_id]
theorem digs_inj {a b : List Int} (ha : Digs a) (hb : Digs b) (hl : a.length = b.length) (hv : dv a = dv b) : a = b := by
  rw [eq_tx ha, eq_tx hb, hl, hv]

theorem p_pos (k : Nat) : (0 : Int) < 10 ^ k := Int.pow_pos (by omega)
theorem p_le {a b : Nat} (h : a ≤ b) : (10 : Int) ^ a ≤ 10 ^ b := by
  obtain ⟨c, rfl⟩ := Nat.exists_eq_add_of_le h
  rw [Int.pow_add]
  have h1 := p_pos a
  have h2 : (1 : Int) ≤ 10 ^ c := p_pos c
  have := Int.mul_le_mul_of_nonneg_left h2 (Int.le_of_lt h1)
  omega
theorem p_lt {a b : Nat} (h : (10 : Int) ^ a < 10 ^ b) : a < b := by
  rcases Nat.lt_or_ge a b with c | c
  · exact c
  · have := p_le c
    omega

theorem take_last {xs : List Int} {n : Nat} (hn : xs.length = n + 1) : xs = xs.take n ++ [xs.getD n 0] := by
  have h := List.take_append_drop n xs
  rw [List.drop_eq_getElem_cons (by omega), List.drop_of_length_le (by omega)] at h
  simpa [List.getD, show n < xs.length by omega] using h.symm
theorem dv_snoc (xs : List Int) (x : Int) : dv (xs ++ [x]) = dv xs * 10 + (x - 48) := by
  rw [dv_append, dv_cons]
  simp [dv, Dn.tv]
theorem digs_getD {xs : List Int} (h : Digs xs) {i : Nat} (hi : i < xs.length) : 48 ≤ xs.getD i 0 ∧ xs.getD i 0 ≤ 57 := digs_at h i hi
theorem dv_mod {xs : List Int} {n : Nat} (h : Digs xs) (hn : xs.length = n + 1) : dv xs % 10 = xs.getD n 0 - 48 := by
  have b := digs_getD h (show n < xs.length by omega)
  generalize hx : xs.getD n 0 = x at *
  have e := take_last hn
  rw [hx] at e
  rw [e, dv_snoc]
  omega
theorem head_low {xs : List Int} {n : Nat} (h : Digs xs) (hn : xs.length = n + 1) (hh : xs.getD 0 0 ≠ 48) : 10 ^ n ≤ dv xs := by
  match xs, hn with
  | x :: ys, hn =>
    have hl : ys.length = n := by simpa using hn
    have b := dv_bd (ds := ys) (fun d hd => h d (by simp [hd]))
    have hx := h x (by simp)
    have hx1 : 49 ≤ x := by simp at hh; omega
    rw [dv_cons, hl]
    have := Int.mul_le_mul_of_nonneg_right (show (1 : Int) ≤ x - 48 by omega) (Int.le_of_lt (p_pos n))
    omega

theorem len_eq {xs ys : List Int} (hx : Digs xs) (hy : Digs ys) (nx : xs ≠ []) (ny : ys ≠ []) (h1 : xs.getD 0 0 ≠ 48) (h2 : ys.getD 0 0 ≠ 48) (hv : dv xs = dv ys) : xs.length = ys.length := by
  obtain ⟨a, ha⟩ : ∃ a, xs.length = a + 1 := ⟨xs.length - 1, by have := List.length_pos_iff.2 nx; omega⟩
  obtain ⟨b, hb⟩ : ∃ b, ys.length = b + 1 := ⟨ys.length - 1, by have := List.length_pos_iff.2 ny; omega⟩
  have l1 := head_low hx ha h1
  have l2 := head_low hy hb h2
  have u1 := (dv_bd hx).2
  have u2 := (dv_bd hy).2
  have := p_lt (a := a) (b := ys.length) (by omega)
  have := p_lt (a := b) (b := xs.length) (by omega)
  omega

/-- A row of digits with none but needed ones. -/
structure Nml (xs : List Int) : Prop where
  digs : Digs xs
  ne : xs ≠ []
  head : xs.getD 0 0 ≠ 48
  last : xs.getD (xs.length - 1) 0 ≠ 48

theorem Nml.len {xs : List Int} (h : Nml xs) : ∃ n, xs.length = n + 1 := ⟨xs.length - 1, by have := List.length_pos_iff.2 h.ne; omega⟩
theorem Nml.mod {xs : List Int} (h : Nml xs) : dv xs % 10 ≠ 0 := by
  obtain ⟨n, hn⟩ := h.len
  have e := dv_mod h.digs hn
  have l := h.last
  rw [hn, Nat.add_sub_cancel] at l
  omega

theorem nml_le {xs ys : List Int} {a b : Nat} (hx : Nml xs) (_hy : Nml ys) (h : dv xs * 10 ^ a = dv ys * 10 ^ b) : b ≤ a := by
  rcases Nat.lt_or_ge a b with c | c
  · exfalso
    obtain ⟨d, rfl⟩ := Nat.exists_eq_add_of_lt c
    rw [show a + d + 1 = (d + 1) + a by omega, Int.pow_add, ← Int.mul_assoc] at h
    have e := Int.eq_of_mul_eq_mul_right (by have := p_pos a; omega) h
    rw [Int.pow_succ, ← Int.mul_assoc] at e
    have := hx.mod
    omega
  · exact c
theorem nml_one {xs ys : List Int} {a b : Nat} (hx : Nml xs) (hy : Nml ys) (h : dv xs * 10 ^ a = dv ys * 10 ^ b) : xs = ys ∧ a = b := by
  have e : a = b := Nat.le_antisymm (nml_le hy hx h.symm) (nml_le hx hy h)
  subst e
  have v := Int.eq_of_mul_eq_mul_right (by have := p_pos a; omega) h
  exact ⟨digs_inj hx.digs hy.digs (len_eq hx.digs hy.digs hx.ne hy.ne hx.head hy.head v) v, rfl⟩

/-- The zeros at the end taken off. -/
theorem nml_take {ys : List Int} {k : Nat} (hd : Digs ys) (hh : ys.getD 0 0 ≠ 48) (hk : k ≤ ys.length) (h0 : ∀ i, k ≤ i → i < ys.length → ys.getD i 0 = 48) (hl : 0 < k → ys.getD (k - 1) 0 ≠ 48) (hv : 0 < dv ys) : 0 < k ∧ Nml (ys.take k) ∧ dv (ys.take k) * 10 ^ (ys.length - k) = dv ys := by
  have e : ys.drop k = List.replicate (ys.length - k) 48 := by
    apply List.ext_getElem
    · simp
    · intro i h1 h2
      have h3 := h0 (k + i) (by omega) (by simp at h1; omega)
      simp at h1
      simpa [List.getD, show k + i < ys.length by omega] using h3
  have v : dv (ys.take k) * 10 ^ (ys.length - k) = dv ys := by
    conv => rhs; rw [← List.take_append_drop k ys, dv_append, e, dv_zeros]
    simp
  have kp : 0 < k := by
    rcases Nat.eq_zero_or_pos k with c | c
    · subst c
      rw [List.take_zero, show dv [] = 0 from rfl, Int.zero_mul] at v
      omega
    · exact c
  refine ⟨kp, ⟨fun d h => hd d (List.mem_of_mem_take h), ?_, ?_, ?_⟩, v⟩
  · intro c
    have e1 : (ys.take k).length = k := by rw [List.length_take]; omega
    rw [c, List.length_nil] at e1
    omega
  · simpa [List.getD, kp] using hh
  · have := hl kp
    have hm : min k ys.length = k := by omega
    rw [List.length_take, hm]
    simpa [List.getD, show k - 1 < k by omega] using this

theorem log_ex : ∀ (n : Nat), 0 < n → ∃ L : Nat, 10 ^ L ≤ n ∧ n < 10 ^ (L + 1) := by
  intro n
  induction n using Nat.strongRecOn with
  | _ n ih =>
    intro h
    rcases Nat.lt_or_ge n 10 with c | c
    · exact ⟨0, by simp; omega, by simp; omega⟩
    · obtain ⟨L, l1, l2⟩ := ih (n / 10) (by omega) (by omega)
      refine ⟨L + 1, ?_, ?_⟩
      · rw [Nat.pow_succ]; omega
      · rw [Nat.pow_succ]; omega

theorem nml_ex : ∀ (n : Nat), 0 < n → ∃ xs a, Nml xs ∧ dv xs * 10 ^ a = (n : Int) := by
  intro n
  induction n using Nat.strongRecOn with
  | _ n ih =>
    intro h
    rcases Nat.eq_zero_or_pos (n % 10) with c | c
    · obtain ⟨xs, a, h1, h2⟩ := ih (n / 10) (by omega) (by omega)
      refine ⟨xs, a + 1, h1, ?_⟩
      rw [Int.pow_succ, ← Int.mul_assoc, h2]
      omega
    · obtain ⟨L, l1, l2⟩ := log_ex n h
      have l1' : (10 : Int) ^ L ≤ (n : Int) := by have := Int.ofNat_le.2 l1; simpa using this
      have l2' : (n : Int) < (10 : Int) ^ (L + 1) := by have := Int.ofNat_lt.2 l2; simpa using this
      have hd := tx_digs (L + 1) (n : Int)
      have hl := tx_len (L + 1) (n : Int)
      have hv := tx_dv (n := L + 1) (v := (n : Int)) (by omega) l2'
      refine ⟨tx (L + 1) n, 0, ⟨hd, fun e => by rw [e] at hl; simp at hl, ?_, ?_⟩, by rw [hv]; simp⟩
      · match htx : tx (L + 1) (n : Int), hl with
        | x :: ys, hl =>
          rw [htx] at hv hd
          intro e
          simp at e
          have b := (dv_bd (ds := ys) (fun d h => hd d (by simp [h]))).2
          rw [dv_cons, e] at hv
          have : ys.length = L := by simpa using hl
          rw [this] at b
          omega
      · have := dv_mod hd hl
        rw [hl, Nat.add_sub_cancel]
        omega

def F5 : Int := 5 ^ 1074
theorem F5_pos : 0 < F5 := by unfold F5; exact Int.pow_pos (by omega)
theorem five_low : (10 : Nat) ^ 750 ≤ 5 ^ 1074 := by decide +kernel
theorem five_high : (2 : Nat) ^ 2098 * 5 ^ 1074 < 2 * 10 ^ 1382 := by decide +kernel
theorem F5_low : (10 : Int) ^ 750 ≤ F5 := by
  have := Int.ofNat_le.2 five_low
  unfold F5
  generalize 750 = a, 1074 = b at this ⊢
  rw [Int.natCast_pow, Int.natCast_pow] at this
  exact this
theorem F5_high : (2 : Int) ^ 2098 * F5 < 2 * 10 ^ 1382 := by
  have := Int.ofNat_lt.2 five_high
  unfold F5
  generalize 2098 = a, 1074 = b, 1382 = c at this ⊢
  rw [Int.natCast_mul, Int.natCast_mul, Int.natCast_pow, Int.natCast_pow, Int.natCast_pow] at this
  exact this

/-- xs and E: the exact digits of m * 2^e. -/
structure Ex (m e : Int) (xs : List Int) (E : Int) : Prop where
  lo : -1074 ≤ E
  zero : m = 0 → xs = [48] ∧ E = 0
  nml : 0 < m → Nml xs
  eq : 0 < m → dv xs * 10 ^ (E + 1074).toNat = m * 2 ^ (e + 1074).toNat * F5

theorem Ex.digs {m e : Int} {xs : List Int} {E : Int} (hm : 0 ≤ m) (h : Ex m e xs E) : Digs xs ∧ xs ≠ [] := by
  rcases (show m = 0 ∨ 0 < m by omega) with c | c
  · rw [(h.zero c).1]
    exact ⟨fun d hd => by simp at hd; omega, by simp⟩
  · exact ⟨(h.nml c).digs, (h.nml c).ne⟩

theorem Ex.one {m e : Int} {xs ys : List Int} {E F : Int} (hm : 0 ≤ m) (h : Ex m e xs E) (k : Ex m e ys F) : xs = ys ∧ E = F := by
  rcases (show m = 0 ∨ 0 < m by omega) with c | c
  · exact ⟨by rw [(h.zero c).1, (k.zero c).1], by rw [(h.zero c).2, (k.zero c).2]⟩
  · obtain ⟨e1, e2⟩ := nml_one (h.nml c) (k.nml c) (by rw [h.eq c, k.eq c])
    exact ⟨e1, by have := h.lo; have := k.lo; omega⟩

theorem ex_ex (m e : Int) (hm : 0 ≤ m) : ∃ xs E, Ex m e xs E := by
  rcases (show m = 0 ∨ 0 < m by omega) with c | c
  · exact ⟨[48], 0, by omega, fun _ => ⟨rfl, rfl⟩, fun h => by omega, fun h => by omega⟩
  · have hN : 0 < m * 2 ^ (e + 1074).toNat * F5 := Int.mul_pos (Int.mul_pos c (Int.pow_pos (by omega))) F5_pos
    obtain ⟨xs, a, h1, h2⟩ := nml_ex (m * 2 ^ (e + 1074).toNat * F5).toNat (by omega)
    refine ⟨xs, (a : Int) - 1074, by omega, fun h => by omega, fun _ => h1, fun _ => ?_⟩
    rw [show ((a : Int) - 1074 + 1074).toNat = a by omega, h2]
    omega

/-- Where the digits lie. -/
theorem Ex.room {m e : Int} {xs : List Int} {E : Int} (hm : 0 < m) (hm1 : m < 9007199254740992) (he : e ≤ 971) (h : Ex m e xs E) :
    -323 ≤ xs.length + E ∧ xs.length + E ≤ 309 ∧ ((xs.length : Int) + E = 309 → dv xs < 2 * 10 ^ (xs.length - 1)) := by
  obtain ⟨a, ha⟩ : ∃ a : Nat, (E + 1074).toNat = a := ⟨_, rfl⟩
  obtain ⟨k, hk⟩ : ∃ k : Nat, (e + 1074).toNat = k := ⟨_, rfl⟩
  have hk1 : k ≤ 2045 := by omega
  have q := h.eq hm
  rw [ha, hk] at q
  have p2 : (0 : Int) < 2 ^ k := Int.pow_pos (by omega)
  have f0 := F5_pos
  have low : (10 : Int) ^ 750 ≤ m * 2 ^ k * F5 := by
    have h1 : (1 : Int) ≤ m * 2 ^ k := Int.mul_pos hm p2
    have := Int.mul_le_mul_of_nonneg_right h1 (Int.le_of_lt f0)
    have := F5_low
    omega
  have high : m * 2 ^ k * F5 < 2 * 10 ^ 1382 := by
    have h1 : m * 2 ^ k ≤ 2 ^ 2098 := by
      have e1 : (2 : Int) ^ 2098 = 2 ^ 53 * (2 ^ (2045 - k) * 2 ^ k) := by rw [← Int.pow_add, ← Int.pow_add]; congr 1; omega
      rw [e1, ← Int.mul_assoc]
      refine Int.mul_le_mul_of_nonneg_right ?_ (Int.le_of_lt p2)
      have h3 : (1 : Int) ≤ 2 ^ (2045 - k) := Int.pow_pos (by omega)
      have h4 : (2 : Int) ^ 53 = 9007199254740992 := by decide
      rw [h4]
      generalize (2 : Int) ^ (2045 - k) = z at h3
      omega
    have := Int.mul_le_mul_of_nonneg_right h1 (Int.le_of_lt f0)
    have := F5_high
    omega
  obtain ⟨n, hn⟩ := (h.nml hm).len
  have b1 := head_low (h.nml hm).digs hn (h.nml hm).head
  have b2 := (dv_bd (h.nml hm).digs).2
  rw [← q] at low high
  have pa := p_pos a
  have c1 : (10 : Int) ^ (n + a) ≤ dv xs * 10 ^ a := by rw [Int.pow_add]; exact Int.mul_le_mul_of_nonneg_right b1 (Int.le_of_lt pa)
  have c2 : dv xs * 10 ^ a < 10 ^ (xs.length + a) := by rw [Int.pow_add]; exact Int.mul_lt_mul_of_pos_right b2 pa
  have d1 : n + a < 1383 := p_lt (by
    have : (10 : Int) ^ 1383 = 10 ^ 1382 * 10 := Int.pow_succ ..
    rw [this]
    have := p_pos 1382
    generalize (10 : Int) ^ 1382 = z at *
    omega)
  have d2 : 750 < xs.length + a := p_lt (by
    generalize (10 : Int) ^ 750 = z at *
    omega)
  have lo := h.lo
  refine ⟨by omega, by omega, fun c => ?_⟩
  have e1 : 1382 = n + a := by omega
  rw [e1, Int.pow_add, ← Int.mul_assoc] at high
  rw [hn, Nat.add_sub_cancel]
  exact Int.lt_of_mul_lt_mul_right high (Int.le_of_lt pa)

/-- The exact digits of m * 2^e, and their power of ten. -/
noncomputable def xd (m e : Int) : List Int := open Classical in if h : ∃ p : List Int × Int, Ex m e p.1 p.2 then (Classical.choose h).1 else []
noncomputable def ed (m e : Int) : Int := open Classical in if h : ∃ p : List Int × Int, Ex m e p.1 p.2 then (Classical.choose h).2 else 0
theorem ex_is {m e : Int} (hm : 0 ≤ m) : Ex m e (xd m e) (ed m e) := by
  obtain ⟨xs, E, h⟩ := ex_ex m e hm
  have k : ∃ p : List Int × Int, Ex m e p.1 p.2 := ⟨(xs, E), h⟩
  unfold xd ed
  rw [dif_pos k, dif_pos k]
  exact Classical.choose_spec k
theorem Ex.is {m e : Int} {xs : List Int} {E : Int} (hm : 0 ≤ m) (h : Ex m e xs E) : xs = xd m e ∧ E = ed m e := h.one hm (ex_is hm)

/-- What the digits of a whole number make. -/
theorem ex_of {m e : Int} {ys : List Int} {k : Nat} {F : Int} (hm : 0 < m) (hd : Digs ys) (hh : ys.getD 0 0 ≠ 48) (hk : k ≤ ys.length) (h0 : ∀ i, k ≤ i → i < ys.length → ys.getD i 0 = 48) (hl : 0 < k → ys.getD (k - 1) 0 ≠ 48)
    (hF : -1074 ≤ F) (hv : dv ys * 10 ^ (F + 1074).toNat = m * 2 ^ (e + 1074).toNat * F5) : Ex m e (ys.take k) (F + (ys.length - k)) ∧ 0 < k := by
  have vp : 0 < dv ys := by
    have hN : 0 < m * 2 ^ (e + 1074).toNat * F5 := Int.mul_pos (Int.mul_pos hm (Int.pow_pos (by omega))) F5_pos
    rw [← hv] at hN
    have := (dv_bd hd).1
    rcases (show dv ys = 0 ∨ 0 < dv ys by omega) with c | c
    · rw [c, Int.zero_mul] at hN; omega
    · exact c
  obtain ⟨kp, n, v⟩ := nml_take hd hh hk h0 hl vp
  refine ⟨⟨by omega, fun c => by omega, fun _ => n, fun _ => ?_⟩, kp⟩
  rw [← hv, ← v, show (F + ((ys.length : Int) - (k : Int)) + 1074).toNat = (ys.length - k) + (F + 1074).toNat by omega, Int.pow_add, Int.mul_assoc]
end Fx
end Go.Proofs.YtbmlkfkhmaahnaaGreatDoor

namespace Go.Proofs.YtbmlkfkhmaahnaaGreatDoor
open Go.RowKit Go.Deep

namespace Sh
theorem wrap_mod (x : Int) : IntKind.u64.wrap x = x % 18446744073709551616 := by rw [IntKind.wrap_u64]

/-- Digits that don't meet: 'or' is a sum. -/
theorem or_sum (hi c : Int) (s : Nat) (h0 : 0 ≤ hi) (hc0 : 0 ≤ c) (hc : c < 2 ^ s) (h1 : hi * 2 ^ s < 18446744073709551616) (h2 : c < 18446744073709551616) : bits .or .u64 (hi * 2 ^ s) c = hi * 2 ^ s + c := by
  obtain ⟨a, rfl⟩ := Int.eq_ofNat_of_zero_le h0
  obtain ⟨b, rfl⟩ := Int.eq_ofNat_of_zero_le hc0
  have hP : (2 : Int) ^ s = ((2 ^ s : Nat) : Int) := by simp
  rw [hP] at hc h1 ⊢
  have hb : b < 2 ^ s := by omega
  rw [← Int.natCast_mul] at h1 ⊢
  have h := bits_or_u64_nat (a * 2 ^ s) b (by omega) (by omega)
  rw [h, Nat.mul_comm a, ← Nat.two_pow_add_eq_or_of_lt hb a]
  omega

theorem split64 (r : Nat) (hr : r ≤ 63) : (2 : Int) ^ r * 2 ^ (64 - r) = 18446744073709551616 := by
  rw [← Nm.two_add, show r + (64 - r) = 64 by omega, Nm.two_64]

/-- One limb moved up by r binary digits, with what came up from below: the limb s, and what goes on. -/
theorem up (x sp : Int) (r : Nat) (hr : r ≤ 63) (x0 : 0 ≤ x) (x1 : x < 18446744073709551616) (s0 : 0 ≤ sp) (s1 : sp < 2 ^ r) :
    ∃ A s sp', IntKind.u64.wrap (x * 2 ^ r) = A ∧ bits .or .u64 A sp = s ∧ x / 2 ^ (64 - r) = sp' ∧ (0 ≤ s ∧ s < 18446744073709551616) ∧ (0 ≤ sp' ∧ sp' < 2 ^ r) ∧ Hid (s + 18446744073709551616 * sp' = x * 2 ^ r + sp) := by
  have hP := Nm.two_pos r
  have hQ := Nm.two_pos (64 - r)
  have hPQ := split64 r hr
  obtain ⟨P, hPe⟩ : ∃ P : Int, 2 ^ r = P := ⟨_, rfl⟩
  obtain ⟨Q, hQe⟩ : ∃ Q : Int, 2 ^ (64 - r) = Q := ⟨_, rfl⟩
  have d1 := Int.emod_add_mul_ediv x Q
  have d2 := Int.emod_nonneg x (show Q ≠ 0 by omega)
  have d3 := Int.emod_lt_of_pos x (show 0 < Q by omega)
  have a0 : 0 ≤ x / Q := Int.ediv_nonneg x0 (by omega)
  rw [hPe] at hP s1 hPQ
  rw [hQe] at hQ hPQ
  have a1 : x / Q < P := by
    rw [Int.ediv_lt_iff_lt_mul hQ, hPQ]
    exact x1
  have a4 : x * P = x % Q * P + 18446744073709551616 * (x / Q) := by
    have : (x % Q + Q * (x / Q)) * P = x * P := by rw [d1]
    rw [Int.add_mul, Int.mul_right_comm, Int.mul_comm Q P, hPQ] at this
    omega
  have a5 : (x % Q + 1) * P ≤ Q * P := Int.mul_le_mul_of_nonneg_right (by omega) (by omega)
  rw [Int.add_mul, Int.one_mul, Int.mul_comm Q P, hPQ] at a5
  have a6 : 0 ≤ x % Q * P := Int.mul_nonneg d2 (by omega)
  have hA : IntKind.u64.wrap (x * P) = x % Q * P := by rw [wrap_mod]; omega
  have hO := or_sum (x % Q) sp r d2 s0 (by rw [hPe]; exact s1) (by rw [hPe]; omega) (by omega)
  rw [hPe] at hO
  rw [hPe, hQe]
  exact ⟨_, _, _, hA, hO, rfl, by omega, ⟨a0, a1⟩, show _ = _ by omega⟩
end Sh
end Go.Proofs.YtbmlkfkhmaahnaaGreatDoor

namespace Go.Proofs.YtbmlkfkhmaahnaaGreatDoor
open Go.RowKit Go.Deep

theorem ret_two {p : Option Addr} {a b : Nat} (h : a = b) : Ending.returned (.tuple #[.slice p a a, .int .i64 0]) = .returned (.tuple #[.slice p b b, .int .i64 0]) := by rw [h]

theorem lshift_ok (p : Option Addr) (n cap : Nat) (zs : List Int) (k : Int) (w : World) (ha : Arg w p n cap zs) (tz : Nm.tsize zs ≤ 4096) (hk : 0 ≤ k) :
    Calls Tryz.prog 64 #[.slice p n cap, .int .i64 k] w fun e w' => e = .returned (.tuple #[.slice p (Nm.tsize zs) (Nm.tsize zs), .int .i64 0]) ∧ w' = w := by
  obtain ⟨a1, a2, a3, a4, a5⟩ := ha
  have HT := hid (limited_ok p n cap zs w a1 a2 (by omega) a4 tz)
  go_enter Tryz.func64, Tryz.ntmps64
  go_wp2_with fail
  refine HT.out.mono ?_
  rintro e w' ⟨rfl, rfl⟩
  go_wp2_with fail
  go_ret2
  exact ⟨rfl, rfl⟩

theorem lshift_neg (p : Option Addr) (n cap : Nat) (zs : List Int) (k : Int) (w : World) (ha : Arg w p n cap zs) (tz : Nm.tsize zs ≤ 4096) (hk : k < 0) :
    Calls Tryz.prog 64 #[.slice p n cap, .int .i64 k] w fun e w' => e = .returned (.tuple #[.slice none 0 0, .int .i64 1]) ∧ w' = w := by
  obtain ⟨a1, a2, a3, a4, a5⟩ := ha
  have HT := hid (limited_ok p n cap zs w a1 a2 (by omega) a4 tz)
  go_enter Tryz.func64, Tryz.ntmps64
  go_wp2_with fail
  refine HT.out.mono ?_
  rintro e w' ⟨rfl, rfl⟩
  go_wp2_with fail
  go_ret2
  exact ⟨rfl, rfl⟩

theorem bitLen_n (L : Nat) (p : Option Addr) (n cap : Nat) (zs : List Int) (w : World) (ha : Arg w p n cap zs) (hb : blen zs = (L : Int)) :
    Calls Tryz.prog 65 #[.slice p n cap] w fun e w' => e = .returned (.int .i64 (L : Int)) ∧ w' = w := by
  rw [← hb]
  exact bitLen_any p n cap zs w ha

theorem Arg.trim' {w : World} {p : Option Addr} {n cap : Nat} {zs : List Int} (h : Arg w p n cap zs) : Arg w p (Nm.tsize zs) (Nm.tsize zs) (Nm.trim zs) :=
  ⟨Nm.trim_length zs, Nat.le_refl _, by have := h.tl; have := h.2.1; have := h.2.2.1; omega, h.2.2.2.1.trim, h.2.2.2.2.trim⟩

theorem shl_neg (p : Option Addr) (n cap : Nat) (zs : List Int) (k : Int) (w : World) (ha : Arg w p n cap zs) (tz : Nm.tsize zs ≤ 4096) (hk : k < 0) :
    Calls Tryz.prog 46 #[.slice p n cap, .int .i64 k] w fun e w' => e = .returned (.tuple #[.slice none 0 0, .int .i64 1]) ∧ w' = w := by
  have HT := hid (lshift_neg p n cap zs k w ha tz hk)
  go_enter Tryz.func46, Tryz.ntmps46
  go_wp2_with fail
  refine HT.out.mono ?_
  rintro e w' ⟨rfl, rfl⟩
  go_wp2_with fail
  go_ret2
  exact ⟨rfl, rfl⟩

set_option maxRecDepth 100000 in
set_option maxHeartbeats 1000000 in
/-- What is too big anyway isn't worked out. -/
theorem shl_big (p : Option Addr) (n cap : Nat) (zs : List Int) (k : Int) (L : Nat) (w : World) (ha : Arg w p n cap zs) (tz : Nm.tsize zs ≤ 4096) (hk : 0 ≤ k) (hk1 : k ≤ 9223372036854775807) (hz : 0 < Nm.tsize zs) (hL : blen (Nm.trim zs) = (L : Int)) (hb : 262144 < (L : Int) + k) :
    Calls Tryz.prog 46 #[.slice p n cap, .int .i64 k] w fun e w' => e = .returned (.tuple #[.slice none 0 0, .int .i64 2]) ∧ w' = w := by
  have HT := hid (lshift_ok p n cap zs k w ha tz hk)
  have HB := hid (bitLen_n L p _ _ (Nm.trim zs) w ha.trim' hL)
  have hz' : ((Nm.tsize zs : Int) == 0) = false := by rw [beq_eq_false_iff_ne]; omega
  have hb' : 262144 - k < (L : Int) := by omega
  clear hL ha hb
  go_enter Tryz.func46, Tryz.ntmps46
  go_wp2_with fail
  refine HT.out.mono ?_
  rintro e w' ⟨rfl, rfl⟩
  go_wp2_with fail
  refine HB.out.mono ?_
  rintro e w' ⟨rfl, rfl⟩
  go_wp2_with fail
  go_ret2
  exact ⟨rfl, rfl⟩

theorem shl_zero (p : Option Addr) (n cap : Nat) (zs : List Int) (k : Int) (w : World) (ha : Arg w p n cap zs) (hk : 0 ≤ k) (hz : Nm.tsize zs = 0) :
    Calls Tryz.prog 46 #[.slice p n cap, .int .i64 k] w fun e w' => e = .returned (.tuple #[.slice none 0 0, .int .i64 0]) ∧ w' = w := by
  have HT := lshift_ok p n cap zs k w ha (by omega) hk
  rw [hz] at HT
  have H := hid HT
  clear HT hz ha
  go_enter Tryz.func46, Tryz.ntmps46
  go_wp2_with fail
  refine H.out.mono ?_
  rintro e w' ⟨rfl, rfl⟩
  go_wp2_with fail
  go_ret2
  exact ⟨rfl, rfl⟩

set_option maxRecDepth 100000 in
set_option maxHeartbeats 1000000 in
theorem shl_ok (p : Option Addr) (n cap : Nat) (zs : List Int) (kk : Int) (k : Nat) (L : Nat) (w : World) (ha : Arg w p n cap zs) (tz : Nm.tsize zs ≤ 4096) (hkk : kk = (k : Int)) (hz : 0 < Nm.tsize zs) (hL : blen (Nm.trim zs) = (L : Int)) (hb : L + k ≤ 262144) :
    Calls Tryz.prog 46 #[.slice p n cap, .int .i64 kk] w fun e w' => ∃ r os, e = .returned (.tuple #[.slice r (List.length os) (List.length os), .int .i64 0]) ∧ Ans w.heap.size w' r os (Nm.val zs * 2 ^ k) ∧ Below w.heap.size w w' := by
  have hk0 : 0 ≤ kk := by omega
  have T1 := lshift_ok p n cap zs kk w ha tz hk0
  have B1 := bitLen_n L p _ _ (Nm.trim zs) w ha.trim' hL
  obtain ⟨N, HN⟩ : ∃ N, Hid (Nm.tsize zs = N) := ⟨_, rfl⟩
  rw [HN.out] at T1 B1
  have HT := hid T1
  have HB := hid B1
  have hN0 : 0 < N := by rw [← HN.out]; exact hz
  have hN1 : N ≤ 4096 := by rw [← HN.out]; exact tz
  have hz' : ((N : Int) == 0) = false := by rw [beq_eq_false_iff_ne]; omega
  have hb1 : ¬ 262144 - kk < (L : Int) := by omega
  have hkb : kk ≤ 262144 := by omega
  obtain ⟨sk, hsk⟩ : ∃ sk, k / 64 = sk := ⟨_, rfl⟩
  obtain ⟨r, hr⟩ : ∃ r, k % 64 = r := ⟨_, rfl⟩
  have r1 : kk / 64 = (sk : Int) := by omega
  have r2 : kk % 64 = (r : Int) := by omega
  have hr63 : r ≤ 63 := by omega
  have hskb : sk ≤ 4096 := by omega
  have KE : Hid (k = 64 * sk + r) := by show _ = _; omega
  have L1 := hid ((Nm.trim_length zs).trans HN.out)
  have A5 := hid ha.2.2.2.2.trim
  obtain ⟨b, off, rfl, hbw, HC⟩ := ha.2.2.2.1.trim.at (by rw [L1.out]; exact hN0)
  have V := hid (Nm.val_trim zs)
  clear T1 B1 ha tz hz hL hkk hsk hr
  have hmk := make64 (sk + N + 1) (by omega) w
  have em : ((sk + N + 1 : Nat) : Int) = (sk : Int) + (N : Int) + 1 := by omega
  rw [em] at hmk
  clear em
  have ho : Own (w.alloc (.cells (madeCells #[.int .u64 0] (sk + N + 1)) 22)) w.heap.size (List.replicate (sk + N + 1) 0) := by
    rw [made_zero]; exact Own.alloc w _
  have hb0 : Below w.heap.size w (w.alloc (.cells (madeCells #[.int .u64 0] (sk + N + 1)) 22)) := (Below.refl _ _).alloc (Nat.le_refl _) _
  obtain ⟨W0, hW0⟩ : ∃ W0, w.alloc (.cells (madeCells #[.int .u64 0] (sk + N + 1)) 22) = W0 := ⟨_, rfl⟩
  have HB0 : Hid (Below w.heap.size w W0) := by rw [← hW0]; exact hb0
  have I0 : MaInv w.heap.size (sk + N + 1) W0 (Nm.pw sk * (Nm.val ((Nm.trim zs).take 0) * 2 ^ r)) (sk + 0) 0 (List.replicate (sk + N + 1) 0) W0 := by
    rw [← hW0]
    exact ⟨⟨ho, by simp, Nm.Limbs.replicate _, by simp [Nm.val_replicate, Nm.val], Below.refl _ _, rfl⟩, by omega, fun i _ => getD_replicate _ _⟩
  have P0 := Nm.two_pos r
  have HP0 := hid P0
  clear ho hb0 P0
  rw [hW0] at hmk
  clear hW0
  go_enter Tryz.func46, Tryz.ntmps46
  go_wp2_with fail
  refine HT.out.mono ?_
  rintro e w' ⟨rfl, rfl⟩
  go_wp2_with fail
  refine HB.out.mono ?_
  rintro e w' ⟨rfl, rfl⟩
  go_wp2_with fail
  go_loopw [10, 43] (fun a i wr => ∃ (j : Nat) (sp : Int) (os : List Int), j ≤ N ∧ i = .int .i64 j ∧ a = .int .u64 sp ∧ Hid (sp < 2 ^ r) ∧ MaInv w'.heap.size (sk + N + 1) W0 (Nm.pw sk * (Nm.val ((Nm.trim zs).take j) * 2 ^ r)) (sk + j) sp os wr) (fun _ i _ => N - (intOf i).toNat)
  case atStart => exact ⟨0, 0, _, Nat.zero_le _, rfl, rfl, HP0.out, I0⟩
  case round =>
    clear I0 hmk
    obtain ⟨j, sp, os, hj, rfl, rfl, SP, I⟩ := hrel
    by_cases hlt : j < N
    · obtain ⟨x, hx, X⟩ : ∃ x, wr.cell? ⟨b, off + j, none⟩ = some (.int .u64 x) ∧ Hid (x = (Nm.trim zs).getD j 0) :=
        ⟨_, ((HB0.out.trans I.1.2.2.2.2.1).cell (p := ⟨b, off + j, none⟩) hbw).trans (HC.out j (by rw [L1.out]; exact hlt)), rfl⟩
      have hx0 := A5.out.at j
      rw [← X.out] at hx0
      obtain ⟨hx0, hx1⟩ := hx0
      obtain ⟨y, hyc⟩ : ∃ y, wr.cell? ⟨w'.heap.size, sk + j, none⟩ = some (.int .u64 y) := ⟨_, I.1.1.cell (sk + j) (by have := I.1.2.1; omega)⟩
      have hfr := I.1.1.free (sk + j)
      obtain ⟨hs0, hs1⟩ := I.2.1
      obtain ⟨A, s, sp', u1, u2, u3, us, usp, E⟩ := Sh.up x sp r hr63 hx0 hx1 hs0 SP.out
      have usp1 := hid usp
      have hP64 : (2 : Int) ^ r ≤ 18446744073709551616 := by rw [← Nm.two_64]; exact Nm.two_mono (by omega)
      have I2 := I.step (by omega) (x := x * 2 ^ r) (s := s) (c' := sp') us ⟨usp.1, by omega⟩ E.out
      have T2 : Nm.pw sk * (Nm.val ((Nm.trim zs).take j) * 2 ^ r) + Nm.pw (sk + j) * (x * 2 ^ r) = Nm.pw sk * (Nm.val ((Nm.trim zs).take (j + 1)) * 2 ^ r) := by
        rw [Nm.val_take_succ _ j (by rw [L1.out]; exact hlt), ← X.out, Nm.pw_add, Int.add_mul, Int.mul_add, Int.mul_assoc, Int.mul_assoc]
      rw [T2] at I2
      clear I T2 hP64 us usp E
      go_wp2
      go_roundw
      case rel => exact ⟨j + 1, sp', _, by omega, by go_num, rfl, usp1.out.2, I2⟩
      case measure => simp [intOf]; omega
    · have hjN : j = N := by omega
      subst hjN
      rw [List.take_of_length_le (by rw [L1.out]; omega)] at I
      obtain ⟨⟨i1, i2, i3, i4, i5, i6⟩, i7, i8⟩ := I
      have O1 := hid (i1.set (sk + j) sp)
      have O2 : Hid ((os.set (sk + j) sp).length = sk + j + 1) := by rw [Hid]; simpa using i2
      have O3 := hid (i3.set (sk + j) i7.1 i7.2)
      have O4 : Hid (Nm.val (os.set (sk + j) sp) = Nm.val zs * 2 ^ k) := by
        rw [Hid, Nm.val_set _ _ _ (by omega), i8 (sk + j) (Nat.le_refl _), Int.sub_zero, i4, V.out, Nm.pw_two, Int.mul_left_comm, ← Nm.two_add, ← KE.out]
      have O5 := hid (HB0.out.trans (i5.setCell (p := ⟨w'.heap.size, sk + j, none⟩) (Nat.le_refl _) (.int .u64 sp)))
      obtain ⟨y, hy⟩ : ∃ y, wr.cell? ⟨w'.heap.size, sk + j, none⟩ = some (.int .u64 y) := ⟨_, i1.cell (sk + j) (by omega)⟩
      have hfr := i1.free (sk + j)
      clear i1 i2 i3 i4 i5 i6 i7 i8
      go_wp2_with fail
      refine (trimmed_any _ (sk + j + 1) (sk + j + 1) (os.set (sk + j) sp) _ O2.out (Nat.le_refl _) (by omega) O1.out.lies).mono ?_
      rintro e w3 ⟨rfl, rfl⟩
      go_wp2_with fail
      go_ret2
      refine ⟨some ⟨w'.heap.size, 0, none⟩, Nm.trim (os.set (sk + j) sp), ret_two (Nm.trim_length _).symm, ⟨O1.out.lies.trim, O3.out.trim, ?_, ?_, ?_⟩, O5.out⟩
      · rw [Nm.trim_trim, Nm.trim_length]
      · rw [Nm.val_trim, O4.out]
      · intro a h
        cases h
        exact Nat.le_refl _
end Go.Proofs.YtbmlkfkhmaahnaaGreatDoor

namespace Go.Proofs.YtbmlkfkhmaahnaaGreatDoor
open Go.RowKit Go.Deep

theorem fblen_trim (zs : List Int) : blen (Nm.trim zs) = blen zs := by
  unfold blen
  rw [Nm.trim_trim]
  by_cases h : Nm.tsize zs = 0
  · rw [if_pos h, if_pos h]
  · rw [if_neg h, if_neg h]
    have e : (Nm.trim zs).getD (Nm.tsize zs - 1) 0 = zs.getD (Nm.tsize zs - 1) 0 := by rw [Nm.trim, Nm.getD_take, if_pos (by omega)]
    rw [e]

theorem fpw_4096 : Nm.pw 4096 = 2 ^ 262144 := Nm.pw_two 4096

theorem ftwo_lt {a b : Nat} (h : (2 : Int) ^ a < 2 ^ b) : a < b := by
  rcases Nat.lt_or_ge a b with h1 | h1
  · exact h1
  · have := Nm.two_mono h1
    omega

/-- So many digits as the number times 2^k. -/
theorem FBLen.up {v : Int} {L : Nat} (k : Nat) (h : Nm.BLen v L) (hv : 0 < v) : Nm.BLen (v * 2 ^ k) (L + k) := by
  have hp := Nm.two_pos k
  have h1 := h.2.2 hv
  refine ⟨?_, fun h0 => ?_, fun _ => ⟨by omega, ?_⟩⟩
  · rw [Nm.two_add]
    exact Int.mul_lt_mul_of_pos_right h.1 hp
  · rcases Int.mul_eq_zero.1 h0 with h2 | h2 <;> omega
  · rw [show L + k - 1 = L - 1 + k by omega, Nm.two_add]
    exact Int.mul_le_mul_of_nonneg_right h1.2 (by omega)

theorem ftsize_pos {zs : List Int} (hz : Nm.Limbs zs) (hv : 0 < Nm.val zs) : 0 < Nm.tsize zs := by
  rcases Nat.eq_zero_or_pos (Nm.tsize zs) with h | h
  · have := (Nm.tsize_zero_iff hz).1 h
    omega
  · exact h

theorem fshl_any (p : Option Addr) (n cap : Nat) (zs : List Int) (kk : Int) (k : Nat) (w : World) (ha : Arg w p n cap zs) (tz : Nm.tsize zs ≤ 4096) (hkk : kk = (k : Int)) (hb : Nm.val zs * 2 ^ k < Nm.pw 4096) :
    Calls Tryz.prog 46 #[.slice p n cap, .int .i64 kk] w fun e w' => ∃ r os, e = .returned (.tuple #[.slice r (List.length os) (List.length os), .int .i64 0]) ∧ Ans w.heap.size w' r os (Nm.val zs * 2 ^ k) ∧ Below w.heap.size w w' := by
  have hv0 := (Nm.val_bd zs ha.2.2.2.2).1
  by_cases hz : Nm.tsize zs = 0
  · have hv := (Nm.tsize_zero_iff ha.2.2.2.2).1 hz
    refine (shl_zero p n cap zs kk w ha (by omega) hz).mono ?_
    rintro e w' ⟨rfl, rfl⟩
    exact ⟨none, [], rfl, ⟨Lies.nil _ _, Nm.Limbs.nil, rfl, by rw [hv, Int.zero_mul]; rfl, fun a h => by cases h⟩, Below.refl _ _⟩
  · obtain ⟨L, hL, BL, _, _⟩ := blen_is zs ha.2.2.2.2
    rw [← fblen_trim] at hL
    have hv : 0 < Nm.val zs := by
      rcases (show Nm.val zs = 0 ∨ 0 < Nm.val zs by omega) with h | h
      · exact absurd ((Nm.tsize_zero_iff ha.2.2.2.2).2 h) hz
      · exact h
    have hu := (FBLen.up k BL hv).2.2 (Int.mul_pos hv (Nm.two_pos k))
    rw [fpw_4096] at hb
    have hlt := ftwo_lt (show (2 : Int) ^ (L + k - 1) < 2 ^ 262144 by omega)
    exact shl_ok p n cap zs kk k L w ha tz hkk (by omega) hL (by omega)

end Go.Proofs.YtbmlkfkhmaahnaaGreatDoor

namespace Go.Proofs.YtbmlkfkhmaahnaaGreatDoor
open Go.RowKit Go.Deep

theorem info64r : (Tryz.prog.info? 88).map (fun i => (i.zero, i.size, i.bytes)) = some (some (.slice none 0 0), 1, 24) := by kernel_rfl

/-- The list of headers, behind another one is appended: in its block, or in a new one at the heap's end. -/
theorem pushRow (base n : Nat) (mv : Value) (xs : List Value) (v : Value) (w : World) (hn : n ≤ 1000) (hv : v.oneCell' = true) (hb : base ≤ w.heap.size) (ho : w.ownsRow base 88 1 mv n xs) :
    ∃ mv' w', (Builtin.append_ #[161, 161] 161 #[mv, .slice (some ⟨w.heap.size, 0, none⟩) 1 1]).run Tryz.prog (w.alloc (.cells #[v] 88)) = .ok mv' w' ∧ w'.ownsRow base 88 1 mv' (n + 1) (xs ++ [v]) ∧ Below base w w' ∧ w.heap.size ≤ w'.heap.size ∧
      (∀ j, j < w.heap.size → some j ≠ mv.ownBlock → w'.heap[j]? = w.heap[j]?) ∧ (∀ k, mv'.ownBlock = some k → mv.ownBlock = some k ∨ w.heap.size ≤ k) := by
  obtain ⟨i, hi, hz⟩ := Option.map_eq_some_iff.1 info64r
  simp only [Prod.mk.injEq] at hz
  obtain ⟨z1, z2, z3⟩ := hz
  have bm : Below w.heap.size w (w.alloc (.cells #[v] 88)) := (Below.refl _ _).alloc (Nat.le_refl _) _
  have hs : (w.alloc (.cells #[v] 88)).heap.size = w.heap.size + 1 := World.size_alloc _ _
  have ho' := ho.alloc (.cells #[v] 88)
  have hcell : (w.alloc (.cells #[v] 88)).cell? ⟨w.heap.size, 0, none⟩ = some v := by
    have : (w.alloc (.cells #[v] 88)).heap[w.heap.size]? = some (.cells #[v] 88 (0, 0)) := by
      show (w.heap.push _)[w.heap.size]? = _
      rw [Array.getElem?_push, if_pos rfl]
    simp only [World.cell?, this]
    rfl
  have hnews : ∀ j u, [v][j]? = some u → (w.alloc (.cells #[v] 88)).cell? ((⟨w.heap.size, 0, none⟩ : Addr).add j) = some u := fun j u hu => by
    cases j with
    | zero =>
      simp at hu
      subst hu
      rw [Go.WideShapes.add_plain]
      exact hcell
    | succ j => simp at hu
  have h1v : ∀ u ∈ [v], u.oneCell' = true := fun u hu => by simp at hu; subst hu; exact hv
  obtain ⟨v', w', hr, h1, h2, _⟩ := run_append_own (P := Tryz.prog) (w.alloc (.cells #[v] 88)) base 161 161 88 i (.slice none 0 0) 1 24 Tryz.underlying161 hi z1 z2 z3 rfl (by omega) mv n xs ho'
    ⟨w.heap.size, 0, none⟩ 1 1 [v] rfl hnews h1v (by simp only [maxLen]; omega) (by omega) (by rw [hs]; omega)
  refine ⟨v', w', hr, h1, ?_, by have := h2.size; omega, fun j hj hne => ?_, ?_⟩
  · have hb2 : Below base (w.alloc (.cells #[v] 88)) w' := by
      refine ⟨h2.os, h2.tape, h2.output, h2.size, fun j hj => h2.block j (by rw [hs]; omega) ?_⟩
      intro hk
      have := (ho'.lt j hk.symm).1
      omega
    exact (bm.mono hb).trans hb2
  · rw [h2.block j (by rw [hs]; omega) hne]
    exact bm.block j hj
  · intro k hk
    rcases ho'.2 with ⟨rfl, h0⟩ | ⟨g, cap, cur, rfl, _, hcur, hnc, hcm, hcs, htk⟩
    · right
      subst h0
      have hr2 := run_append_nil (P := Tryz.prog) (w.alloc (.cells #[v] 88)) 161 161 88 i (.slice none 0 0) Tryz.underlying161 hi z1 ⟨w.heap.size, 0, none⟩ 1 1 [v] (by rw [z2]; rfl) hnews (by omega) (by omega) (by rw [z3]; omega)
      rw [hr] at hr2
      simp only [Result.ok.injEq] at hr2
      obtain ⟨rfl, _⟩ := hr2
      simp only [Value.ownBlock, Option.some.injEq] at hk
      omega
    · by_cases hroom : n + 1 ≤ cap
      · left
        have hr2 := run_append_room (P := Tryz.prog) (w.alloc (.cells #[v] 88)) 161 161 88 i Tryz.underlying161 hi g n cap cur hcur ⟨w.heap.size, 0, none⟩ 1 1 [v] (by rw [z2]; rfl) hnews h1v hroom (by rw [z2, hcs]; simp; omega)
        rw [hr] at hr2
        simp only [Result.ok.injEq] at hr2
        obtain ⟨rfl, _⟩ := hr2
        simpa [Value.ownBlock] using hk
      · right
        have holds : ∀ j u, xs[j]? = some u → (w.alloc (.cells #[v] 88)).cell? ((⟨g, 0, none⟩ : Addr).add j) = some u := ho'.cells (g := g) rfl
        have hr2 := run_append_grow (P := Tryz.prog) (w.alloc (.cells #[v] 88)) 161 161 88 i (.slice none 0 0) Tryz.underlying161 hi z1 ⟨g, 0, none⟩ n cap xs (by rw [z2]; exact ho.1) holds ⟨w.heap.size, 0, none⟩ 1 1 [v] (by rw [z2]; rfl) hnews (by omega) (by omega) (growslice_fits (by omega) (by rw [z3]; omega))
        rw [hr] at hr2
        simp only [Result.ok.injEq] at hr2
        obtain ⟨rfl, _⟩ := hr2
        simp only [Value.ownBlock, Option.some.injEq] at hk
        omega

/-- A row: a trimmed list of the number V, in another block than the headers. -/
def RowIn (w : World) (mv : Value) (e : Option Addr × List Int) (V : Int) : Prop :=
  Lies w e.1 e.2 ∧ Nm.Limbs e.2 ∧ Nm.tsize e.2 = e.2.length ∧ Nm.val e.2 = V ∧ ∀ a, e.1 = some a → a.block < w.heap.size ∧ some a.block ≠ mv.ownBlock

def rowV (e : Option Addr × List Int) : Value := .slice e.1 e.2.length e.2.length

theorem RowIn.below {w w' : World} {mv : Value} {e : Option Addr × List Int} {V : Int} (h : RowIn w mv e V) (hb : Below w.heap.size w w') : RowIn w' mv e V :=
  ⟨h.1.below hb (Nat.le_refl _), h.2.1, h.2.2.1, h.2.2.2.1, fun a ha => ⟨Nat.lt_of_lt_of_le (h.2.2.2.2 a ha).1 hb.size, (h.2.2.2.2 a ha).2⟩⟩

theorem RowIn.pushed {w w' : World} {mv mv' : Value} {e : Option Addr × List Int} {V : Int} (h : RowIn w mv e V) (hz : w.heap.size ≤ w'.heap.size) (hb : ∀ j, j < w.heap.size → some j ≠ mv.ownBlock → w'.heap[j]? = w.heap[j]?) (hk : ∀ k, mv'.ownBlock = some k → mv.ownBlock = some k ∨ w.heap.size ≤ k) : RowIn w' mv' e V := by
  obtain ⟨h1, h2, h3, h4, h5⟩ := h
  refine ⟨?_, h2, h3, h4, fun a ha => ⟨Nat.lt_of_lt_of_le (h5 a ha).1 hz, fun hc => ?_⟩⟩
  · rcases h1 with h1 | ⟨b, off, hp, h1⟩
    · exact .inl h1
    · refine .inr ⟨b, off, hp, fun i hi => ?_⟩
      have h6 := h5 _ hp
      have := hb b h6.1 h6.2
      rw [← h1 i hi]
      simp only [World.cell?, this]
  · have h6 := h5 a ha
    rcases hk a.block hc.symm with c | c
    · exact h6.2 c.symm
    · omega

theorem RowIn.arg {w : World} {mv : Value} {e : Option Addr × List Int} {V : Int} (h : RowIn w mv e V) (hl : e.2.length ≤ 17592186044416) : Arg w e.1 e.2.length e.2.length e.2 := ⟨rfl, Nat.le_refl _, hl, h.1, h.2.1⟩

/-- An answer that is newer than the headers is such a row. -/
theorem Ans.row {B base n : Nat} {w w' : World} {r : Option Addr} {os : List Int} {V : Int} {mv : Value} {xs : List Value} (h : Ans B w' r os V) (hB : B = w.heap.size) (ho : w.ownsRow base 88 1 mv n xs) (h0 : 0 < V) : RowIn w' mv (r, os) V := by
  refine ⟨h.1, h.2.1, h.2.2.1, h.2.2.2.1, fun a ha => ⟨?_, fun hc => ?_⟩⟩
  · have hne : 0 < os.length := by
      rcases Nat.eq_zero_or_pos os.length with c | c
      · have := h.2.2.2.1
        rw [List.eq_nil_of_length_eq_zero c] at this
        simp [Nm.val] at this
        omega
      · exact c
    exact h.1.lt hne a ha
  · have h1 := h.2.2.2.2 a ha
    have h2 := ho.lt a.block hc.symm
    omega
end Go.Proofs.YtbmlkfkhmaahnaaGreatDoor

namespace Go.Proofs.YtbmlkfkhmaahnaaGreatDoor
open Go.RowKit Go.Deep

/-- Behind j limbs of a: the block holds the product of these and b. -/
def ProdInv (g k : Nat) (w : World) (ls bs : List Int) (j : Nat) (os : List Int) (wr : World) : Prop :=
  Own wr g os ∧ os.length = k ∧ Nm.Limbs os ∧ Nm.val os = Nm.val (ls.take j) * Nm.val bs ∧ Below g w wr

theorem ProdInv.step {g k : Nat} {w : World} {ls bs : List Int} {j : Nat} {os : List Int} {wr w' : World} {n : Nat} (hn : bs.length = n) (ha : Nm.Limbs ls) (hb : Nm.Limbs bs) (h : ProdInv g k w ls bs j os wr) (hj : j < ls.length) (hk : j + n < k) {c x : Int} {us : List Int}
    (hx : x = ls.getD j 0) (hm : MulInv g k (j + n) wr os (Nm.val os + Nm.pw j * (Nm.val bs * x)) (j + n) c us w') :
    ProdInv g k w ls bs (j + 1) (us.set (j + n) c) (w'.setCell ⟨g, j + n, none⟩ (.int .u64 c)) := by
  subst hn
  obtain ⟨h1, h2, h3, h4, h5⟩ := h
  obtain ⟨⟨m1, m2, m3, m4, m5, m6⟩, m7, m8⟩ := hm
  have hv : Nm.val os < Nm.pw (j + bs.length) := by
    rw [h4, Nm.pw_add]
    have e1 := Nm.val_bd _ (ha.take j)
    rw [List.length_take, Nat.min_eq_left (by omega)] at e1
    have e2 := Nm.val_bd _ hb
    have e3 : Nm.val (ls.take j) * Nm.val bs ≤ Nm.pw j * Nm.val bs := Int.mul_le_mul_of_nonneg_right (by omega) e2.1
    have e4 : Nm.pw j * (Nm.val bs + 1) ≤ Nm.pw j * Nm.pw bs.length := Int.mul_le_mul_of_nonneg_left (by omega) (by have := Nm.pw_pos j; omega)
    have e5 := Nm.pw_pos j
    rw [Int.mul_add, Int.mul_one] at e4
    omega
  have h0 : us.getD (j + bs.length) 0 = 0 := by rw [m8 _ (Nat.le_refl _)]; exact Nm.zero_of_lt h3 hv _ (Nat.le_refl _)
  refine ⟨m1.set _ _, by simpa using m2, m3.set _ m7.1 m7.2, ?_, h5.trans (m5.setCell (Nat.le_refl _) _)⟩
  rw [Nm.val_set _ _ _ (by omega), h0, Int.sub_zero, m4, h4, hx, Nm.val_take_succ ls j hj, Int.add_mul, Int.mul_assoc, Int.mul_comm (ls.getD j 0)]

theorem prod_bound {zs ys : List Int} (hz : Nm.Limbs zs) (hy : Nm.Limbs ys) (h : Nm.val zs * Nm.val ys < Nm.pw 4096) (h1 : 0 < Nm.tsize zs) (h2 : 0 < Nm.tsize ys) : Nm.tsize zs + Nm.tsize ys ≤ 4097 := by
  have e1 := Nm.val_ge_top hz h1
  have e2 := Nm.val_ge_top hy h2
  have e3 : Nm.pw (Nm.tsize zs - 1) * Nm.pw (Nm.tsize ys - 1) ≤ Nm.val zs * Nm.val ys := Int.mul_le_mul e1 e2 (Int.le_of_lt (Nm.pw_pos _)) (by have := (Nm.val_bd zs hz).1; omega)
  rw [← Nm.pw_add] at e3
  rcases Nat.lt_or_ge (Nm.tsize zs - 1 + (Nm.tsize ys - 1)) 4096 with e | e
  · omega
  · have := Nm.pw_mono e
    omega

set_option maxRecDepth 100000 in
set_option maxHeartbeats 1000000 in
theorem mul_ok (p q : Option Addr) (n cap m cap' : Nat) (zs ys : List Int) (w : World) (ha : Arg w p n cap zs) (hb : Arg w q m cap' ys) (tz : Nm.tsize zs ≤ 4096) (ty : Nm.tsize ys ≤ 4096) (hs : Nm.val zs * Nm.val ys < Nm.pw 4096) :
    Calls Tryz.prog 48 #[.slice p n cap, .slice q m cap'] w fun e w' => ∃ r os, e = .returned (.tuple #[.slice r (List.length os) (List.length os), .int .i64 0]) ∧ Ans w.heap.size w' r os (Nm.val zs * Nm.val ys) ∧ Below w.heap.size w w' := by
  obtain ⟨a1, a2, a3, a4, a5⟩ := ha
  obtain ⟨b1, b2, b3, b4, b5⟩ := hb
  have HS : Hid (Nm.val zs * Nm.val ys < Nm.pw 4096) := hs
  clear hs
  have nil : Nm.val zs * Nm.val ys = 0 → Ans w.heap.size w none [] (Nm.val zs * Nm.val ys) := fun h => ⟨Lies.nil _ _, Nm.Limbs.nil, rfl, by simp [Nm.val, h], fun a h => by cases h⟩
  by_cases h1 : Nm.tsize zs = 0
  · have h1' : ((Nm.tsize zs : Int) == 0) = true := by simp [h1]
    have NIL := hid (nil (by rw [(Nm.tsize_zero_iff a5).1 h1, Int.zero_mul]))
    clear nil h1
    go_enter Tryz.func48, Tryz.ntmps48
    go_wp2_with fail
    refine (pair_ok p q n cap m cap' zs ys _ a1 a2 (by omega) a4 tz b1 b2 (by omega) b4 ty).mono ?_
    rintro e w' ⟨rfl, rfl⟩
    go_wp2_with fail
    go_ret2
    exact ⟨none, [], rfl, NIL.out, Below.refl _ _⟩
  have h1' : ((Nm.tsize zs : Int) == 0) = false := by simp [h1]
  by_cases h2 : Nm.tsize ys = 0
  · have h2' : ((Nm.tsize ys : Int) == 0) = true := by simp [h2]
    have NIL := hid (nil (by rw [(Nm.tsize_zero_iff b5).1 h2, Int.mul_zero]))
    clear nil h1 h2
    go_enter Tryz.func48, Tryz.ntmps48
    go_wp2_with fail
    refine (pair_ok p q n cap m cap' zs ys _ a1 a2 (by omega) a4 tz b1 b2 (by omega) b4 ty).mono ?_
    rintro e w' ⟨rfl, rfl⟩
    go_wp2_with fail
    go_ret2
    exact ⟨none, [], rfl, NIL.out, Below.refl _ _⟩
  have h2' : ((Nm.tsize ys : Int) == 0) = false := by simp [h2]
  clear nil
  have hsum := prod_bound a5 b5 HS.out (by omega) (by omega)
  have hsum' : (Nm.tsize zs : Int) + (Nm.tsize ys : Int) ≤ 4097 := by omega
  have hmk := make64 (Nm.tsize zs + Nm.tsize ys) (by omega) w
  have em : ((Nm.tsize zs + Nm.tsize ys : Nat) : Int) = (Nm.tsize zs : Int) + (Nm.tsize ys : Int) := by omega
  rw [em] at hmk
  clear em
  have ho : Own (w.alloc (.cells (madeCells #[.int .u64 0] (Nm.tsize zs + Nm.tsize ys)) 22)) w.heap.size (List.replicate (Nm.tsize zs + Nm.tsize ys) 0) := by
    rw [made_zero]; exact Own.alloc w _
  have hb0 : Below w.heap.size w (w.alloc (.cells (madeCells #[.int .u64 0] (Nm.tsize zs + Nm.tsize ys)) 22)) := (Below.refl _ _).alloc (Nat.le_refl _) _
  have I0 : ProdInv w.heap.size (Nm.tsize zs + Nm.tsize ys) w (Nm.trim zs) (Nm.trim ys) 0 (List.replicate (Nm.tsize zs + Nm.tsize ys) 0) (w.alloc (.cells (madeCells #[.int .u64 0] (Nm.tsize zs + Nm.tsize ys)) 22)) :=
    ⟨ho, by simp, Nm.Limbs.replicate _, by simp [Nm.val_replicate, Nm.val], hb0⟩
  clear ho hb0
  have hsum2 : decide (4096 < (Nm.tsize zs : Int) + (Nm.tsize ys : Int) - 1) = false := by simp; omega
  have A4 := hid a4.trim
  have B4 := hid b4.trim
  obtain ⟨b, off, rfl, hcell⟩ : ∃ b off, p = some ⟨b, off, none⟩ ∧ Hid (∀ i, i < Nm.tsize zs → w.cell? ⟨b, off + i, none⟩ = some (.int .u64 ((Nm.trim zs).getD i 0))) := by
    have hlen := Nm.trim_length zs
    rcases A4.out with h | ⟨b, off, hp, h⟩
    · exfalso
      rw [h] at hlen
      simp at hlen
      omega
    · exact ⟨b, off, hp, fun i hi => h i (by rw [hlen]; exact hi)⟩
  have hbg : b < w.heap.size := cell_lt (hcell.out 0 (by omega))
  have A5 := hid a5.trim
  have B5 := hid b5.trim
  go_enter Tryz.func48, Tryz.ntmps48
  go_wp2_with fail
  refine (pair_ok (some ⟨b, off, none⟩) q n cap m cap' zs ys _ a1 a2 (by omega) a4 tz b1 b2 (by omega) b4 ty).mono ?_
  rintro e w' ⟨rfl, rfl⟩
  clear a4 b4
  go_wp2_with fail
  go_loopw [43] (fun i wr => ∃ (j : Nat) (os : List Int), j ≤ Nm.tsize zs ∧ i = .int .i64 j ∧ ProdInv w'.heap.size (Nm.tsize zs + Nm.tsize ys) w' (Nm.trim zs) (Nm.trim ys) j os wr) (fun i _ => Nm.tsize zs - (intOf i).toNat)
  case atStart => exact ⟨0, _, Nat.zero_le _, rfl, I0⟩
  case round =>
    clear I0 hmk
    obtain ⟨j, os, hj, rfl, I⟩ := hrel
    by_cases hlt : j < Nm.tsize zs
    · obtain ⟨x, hx, X⟩ : ∃ x, wr.cell? ⟨b, off + j, none⟩ = some (.int .u64 x) ∧ Hid (x = (Nm.trim zs).getD j 0) := ⟨_, (I.2.2.2.2.cell (p := ⟨b, off + j, none⟩) hbg).trans (hcell.out j hlt), rfl⟩
      have hx0 := A5.out.at j
      rw [show (Nm.trim zs).getD j 0 = x from X.out.symm] at hx0
      obtain ⟨hx0, hx1⟩ := hx0
      go_wp2_with fail
      refine (addTimes_any w'.heap.size (Nm.tsize zs + Nm.tsize ys) j (Nm.tsize ys) _ os q _ (Nm.trim ys) x _ I.2.1 (by omega) I.1 I.2.2.1 (Nm.trim_length ys) (by omega) (B4.out.below I.2.2.2.2 (Nat.le_refl _)) B5.out (fun h0 => B4.out.lt h0) hx0 hx1).mono ?_
      rintro e w2 ⟨c, us, rfl, M⟩
      have I2 := I.step (Nm.trim_length ys) A5.out B5.out (by rw [Nm.trim_length]; exact hlt) (by omega) X.out M
      obtain ⟨y, hy⟩ : ∃ y, w2.cell? ⟨w'.heap.size, j + Nm.tsize ys, none⟩ = some (.int .u64 y) := ⟨_, M.1.1.cell _ (by have := M.1.2.1; omega)⟩
      have hfr := M.1.1.free (j + Nm.tsize ys)
      clear M
      go_wp2
      go_roundw
      case rel => exact ⟨j + 1, _, by omega, by go_num, I2⟩
      case measure => simp [intOf]; omega
    · have hjn : j = Nm.tsize zs := by omega
      subst hjn
      have E := I.2.2.2.1
      rw [List.take_of_length_le (by rw [Nm.trim_length]; omega), Nm.val_trim, Nm.val_trim] at E
      have EE := hid E
      clear E
      go_wp2_with fail
      refine (limited_own w'.heap.size (Nm.tsize zs + Nm.tsize ys) os _ I.2.1 (by omega) I.1 I.2.2.1 w'.heap.size (Nat.le_refl _) (by rw [EE.out]; exact HS.out)).mono ?_
      rintro e w3 ⟨r, xs, rfl, hans, rfl⟩
      rw [EE.out] at hans
      have HA := hid hans
      clear hans
      have HB := hid I.2.2.2.2
      clear I
      go_wp2_with fail
      go_ret2
      exact ⟨r, xs, rfl, HA.out, HB.out⟩
end Go.Proofs.YtbmlkfkhmaahnaaGreatDoor

namespace Go.Proofs.YtbmlkfkhmaahnaaGreatDoor
open Go.RowKit Go.Deep

set_option maxRecDepth 100000 in
set_option maxHeartbeats 1000000 in
theorem mul_over (p q : Option Addr) (n cap m cap' : Nat) (zs ys : List Int) (w : World) (ha : Arg w p n cap zs) (hb : Arg w q m cap' ys) (tz : Nm.tsize zs ≤ 4096) (ty : Nm.tsize ys ≤ 4096) (hs : Nm.pw 4096 ≤ Nm.val zs * Nm.val ys) :
    Calls Tryz.prog 48 #[.slice p n cap, .slice q m cap'] w fun e w' => e = .returned (.tuple #[.slice none 0 0, .int .i64 2]) ∧ Below w.heap.size w w' := by
  obtain ⟨a1, a2, a3, a4, a5⟩ := ha
  obtain ⟨b1, b2, b3, b4, b5⟩ := hb
  have HS := hid hs
  clear hs
  have hp := Nm.pw_pos 4096
  have h1 : Nm.tsize zs ≠ 0 := fun h => by
    have e := (Nm.tsize_zero_iff a5).1 h
    have := HS.out
    rw [e, Int.zero_mul] at this
    omega
  have h2 : Nm.tsize ys ≠ 0 := fun h => by
    have e := (Nm.tsize_zero_iff b5).1 h
    have := HS.out
    rw [e, Int.mul_zero] at this
    omega
  have h1' : ((Nm.tsize zs : Int) == 0) = false := by simp [h1]
  have h2' : ((Nm.tsize ys : Int) == 0) = false := by simp [h2]
  clear hp
  by_cases hearly : 4097 < Nm.tsize zs + Nm.tsize ys
  · have he : (4096 : Int) < (Nm.tsize zs : Int) + (Nm.tsize ys : Int) - 1 := by omega
    go_enter Tryz.func48, Tryz.ntmps48
    go_wp2_with fail
    refine (pair_ok p q n cap m cap' zs ys _ a1 a2 (by omega) a4 tz b1 b2 (by omega) b4 ty).mono ?_
    rintro e w' ⟨rfl, rfl⟩
    go_wp2_with fail
    go_ret2
    exact ⟨rfl, Below.refl _ _⟩
  have hsum' : (Nm.tsize zs : Int) + (Nm.tsize ys : Int) ≤ 4097 := by omega
  have hmk := make64 (Nm.tsize zs + Nm.tsize ys) (by omega) w
  have em : ((Nm.tsize zs + Nm.tsize ys : Nat) : Int) = (Nm.tsize zs : Int) + (Nm.tsize ys : Int) := by omega
  rw [em] at hmk
  clear em
  have ho : Own (w.alloc (.cells (madeCells #[.int .u64 0] (Nm.tsize zs + Nm.tsize ys)) 22)) w.heap.size (List.replicate (Nm.tsize zs + Nm.tsize ys) 0) := by
    rw [made_zero]; exact Own.alloc w _
  have hb0 : Below w.heap.size w (w.alloc (.cells (madeCells #[.int .u64 0] (Nm.tsize zs + Nm.tsize ys)) 22)) := (Below.refl _ _).alloc (Nat.le_refl _) _
  have I0 : ProdInv w.heap.size (Nm.tsize zs + Nm.tsize ys) w (Nm.trim zs) (Nm.trim ys) 0 (List.replicate (Nm.tsize zs + Nm.tsize ys) 0) (w.alloc (.cells (madeCells #[.int .u64 0] (Nm.tsize zs + Nm.tsize ys)) 22)) :=
    ⟨ho, by simp, Nm.Limbs.replicate _, by simp [Nm.val_replicate, Nm.val], hb0⟩
  clear ho hb0
  have hsum2 : decide (4096 < (Nm.tsize zs : Int) + (Nm.tsize ys : Int) - 1) = false := by simp; omega
  have A4 := hid a4.trim
  have B4 := hid b4.trim
  obtain ⟨b, off, rfl, hcell⟩ : ∃ b off, p = some ⟨b, off, none⟩ ∧ Hid (∀ i, i < Nm.tsize zs → w.cell? ⟨b, off + i, none⟩ = some (.int .u64 ((Nm.trim zs).getD i 0))) := by
    have hlen := Nm.trim_length zs
    rcases A4.out with h | ⟨b, off, hp, h⟩
    · exfalso
      rw [h] at hlen
      simp at hlen
      omega
    · exact ⟨b, off, hp, fun i hi => h i (by rw [hlen]; exact hi)⟩
  have hbg : b < w.heap.size := cell_lt (hcell.out 0 (by omega))
  have A5 := hid a5.trim
  have B5 := hid b5.trim
  go_enter Tryz.func48, Tryz.ntmps48
  go_wp2_with fail
  refine (pair_ok (some ⟨b, off, none⟩) q n cap m cap' zs ys _ a1 a2 (by omega) a4 tz b1 b2 (by omega) b4 ty).mono ?_
  rintro e w' ⟨rfl, rfl⟩
  clear a4 b4
  go_wp2_with fail
  go_loopw [43] (fun i wr => ∃ (j : Nat) (os : List Int), j ≤ Nm.tsize zs ∧ i = .int .i64 j ∧ ProdInv w'.heap.size (Nm.tsize zs + Nm.tsize ys) w' (Nm.trim zs) (Nm.trim ys) j os wr) (fun i _ => Nm.tsize zs - (intOf i).toNat)
  case atStart => exact ⟨0, _, Nat.zero_le _, rfl, I0⟩
  case round =>
    clear I0 hmk
    obtain ⟨j, os, hj, rfl, I⟩ := hrel
    by_cases hlt : j < Nm.tsize zs
    · obtain ⟨x, hx, X⟩ : ∃ x, wr.cell? ⟨b, off + j, none⟩ = some (.int .u64 x) ∧ Hid (x = (Nm.trim zs).getD j 0) := ⟨_, (I.2.2.2.2.cell (p := ⟨b, off + j, none⟩) hbg).trans (hcell.out j hlt), rfl⟩
      have hx0 := A5.out.at j
      rw [show (Nm.trim zs).getD j 0 = x from X.out.symm] at hx0
      obtain ⟨hx0, hx1⟩ := hx0
      go_wp2_with fail
      refine (addTimes_any w'.heap.size (Nm.tsize zs + Nm.tsize ys) j (Nm.tsize ys) _ os q _ (Nm.trim ys) x _ I.2.1 (by omega) I.1 I.2.2.1 (Nm.trim_length ys) (by omega) (B4.out.below I.2.2.2.2 (Nat.le_refl _)) B5.out (fun h0 => B4.out.lt h0) hx0 hx1).mono ?_
      rintro e w2 ⟨c, us, rfl, M⟩
      have I2 := I.step (Nm.trim_length ys) A5.out B5.out (by rw [Nm.trim_length]; exact hlt) (by omega) X.out M
      obtain ⟨y, hy⟩ : ∃ y, w2.cell? ⟨w'.heap.size, j + Nm.tsize ys, none⟩ = some (.int .u64 y) := ⟨_, M.1.1.cell _ (by have := M.1.2.1; omega)⟩
      have hfr := M.1.1.free (j + Nm.tsize ys)
      clear M
      go_wp2
      go_roundw
      case rel => exact ⟨j + 1, _, by omega, by go_num, I2⟩
      case measure => simp [intOf]; omega
    · have hjn : j = Nm.tsize zs := by omega
      subst hjn
      have E := I.2.2.2.1
      rw [List.take_of_length_le (by rw [Nm.trim_length]; omega), Nm.val_trim, Nm.val_trim] at E
      have EE := hid E
      clear E
      go_wp2_with fail
      refine (limited_own_big w'.heap.size (Nm.tsize zs + Nm.tsize ys) os _ I.2.1 (by omega) I.1 I.2.2.1 (by rw [EE.out]; exact HS.out)).mono ?_
      rintro e w3 ⟨rfl, rfl⟩
      have HB := hid I.2.2.2.2
      clear I
      go_wp2_with fail
      go_ret2
      exact ⟨rfl, HB.out⟩
end Go.Proofs.YtbmlkfkhmaahnaaGreatDoor

namespace Go.Proofs.YtbmlkfkhmaahnaaGreatDoor
open Go.RowKit Go.Deep

/-- A number, or that it is too big. -/
def Gives (T : Int) (w : World) (e : Ending) (w' : World) : Prop :=
  ((T < Nm.pw 4096 ∧ ∃ r os, e = .returned (.tuple #[.slice r (List.length os) (List.length os), .int .i64 0]) ∧ Ans w.heap.size w' r os T) ∨ (Nm.pw 4096 ≤ T ∧ e = .returned (.tuple #[.slice none 0 0, .int .i64 2]))) ∧ Below w.heap.size w w'

theorem Ans.argT {B : Nat} {w : World} {p : Option Addr} {ys : List Int} {n : Int} (h : Ans B w p ys n) (hn : n < Nm.pw 4096) : Arg w p ys.length ys.length ys :=
  h.arg (by have := h.small hn; omega)

theorem Ans.tsT {B : Nat} {w : World} {p : Option Addr} {ys : List Int} {n : Int} (h : Ans B w p ys n) (hn : n < Nm.pw 4096) : Nm.tsize ys ≤ 4096 := by
  rw [h.2.2.1]
  exact h.small hn

theorem Ans.upT {B B' : Nat} {w : World} {p : Option Addr} {ys : List Int} {n : Int} (h : Ans B w p ys n) (hB : B' ≤ B) : Ans B' w p ys n :=
  ⟨h.1, h.2.1, h.2.2.1, h.2.2.2.1, fun a ha => Nat.le_trans hB (h.2.2.2.2 a ha)⟩

theorem mul_gives (p q : Option Addr) (n cap m cap' : Nat) (zs ys : List Int) (T : Int) (w : World) (ha : Arg w p n cap zs) (hb : Arg w q m cap' ys) (tz : Nm.tsize zs ≤ 4096) (ty : Nm.tsize ys ≤ 4096) (hT : Nm.val zs * Nm.val ys = T) :
    Calls Tryz.prog 48 #[.slice p n cap, .slice q m cap'] w fun e w' => Gives T w e w' := by
  by_cases h : T < Nm.pw 4096
  · refine (mul_ok p q n cap m cap' zs ys w ha hb tz ty (by rw [hT]; exact h)).mono ?_
    rintro e w' ⟨r, os, rfl, A, hb⟩
    rw [hT] at A
    exact ⟨.inl ⟨h, r, os, rfl, A⟩, hb⟩
  · refine (mul_over p q n cap m cap' zs ys w ha hb tz ty (by rw [hT]; exact Int.not_lt.1 h)).mono ?_
    rintro e w' ⟨rfl, hb⟩
    exact ⟨.inr ⟨Int.not_lt.1 h, rfl⟩, hb⟩

theorem limbs_isT (p : Option Addr) (n cap : Nat) (zs : List Int) (N : Nat) (w : World) (ha : Arg w p n cap zs) (hN : Nm.tsize zs = N) :
    Calls Tryz.prog 96 #[.slice p n cap] w fun e w' => e = .returned (.int .i64 (N : Int)) ∧ w' = w := by
  rw [← hN]
  exact limbs_any p n cap zs w ha

theorem bitLen_isT (L : Nat) (p : Option Addr) (n cap : Nat) (zs : List Int) (w : World) (ha : Arg w p n cap zs) (hb : blen zs = (L : Int)) :
    Calls Tryz.prog 65 #[.slice p n cap] w fun e w' => e = .returned (.int .i64 (L : Int)) ∧ w' = w := by
  rw [← hb]
  exact bitLen_any p n cap zs w ha
end Go.Proofs.YtbmlkfkhmaahnaaGreatDoor

namespace Go.Proofs.YtbmlkfkhmaahnaaGreatDoor
open Go.RowKit Go.Deep

structure ShutL (p : Prop) : Prop where
  out : p

theorem wpList_append_l {ty : TypeId} {ops : Array Oper} {rest : List Oper} {o : Oper} {a : Act} {Q : Exit → Act → World → Prop} (hgd : o.guard = none) (s x : Operand)
    (ho : o.op = .call { callee := .builtin .append, args := #[s, x], argTypes := #[ty, ty] }) {v y v' : Value} {w w' : World} (hr : (Builtin.append_ #[ty, ty] o.type #[v, y]).run Tryz.prog w = .ok v' w') (hs : a.eval s = v) (hx : a.eval x = y)
    (h : wpList Tryz.prog ops Q rest (a.put o.dst v') w') : wpList Tryz.prog ops Q (o :: rest) a w := by
  refine wpList_plain hgd fun K hK => ?_
  unfold Oper.wp execOp
  simp only [ho, resolve, invoke, builtin, Sem.run_bind, Sem.run_pure, Result.andThen_ok, List.map_toArray, List.map_cons, List.map_nil, hs, hx, hr]
  exact hK _ _ h

/-- The rows b, b^2, b^4 .. that are at most A. -/
structure RowsIn (base : Nat) (b A : Int) (mv : Value) (l : List (Option Addr × List Int)) (w : World) : Prop where
  own : w.ownsRow base 88 1 mv l.length (l.map rowV)
  row : ∀ i e, l[i]? = some e → RowIn w mv e (b ^ (2 ^ i)) ∧ b ^ (2 ^ i) ≤ A

theorem RowsIn.below {base : Nat} {b A : Int} {mv : Value} {l : List (Option Addr × List Int)} {w w' : World} (h : RowsIn base b A mv l w) (hb : Below w.heap.size w w') : RowsIn base b A mv l w' :=
  ⟨h.own.kept (row := none) ⟨hb.os, hb.tape, hb.output, hb.size, fun j hj _ => hb.block j hj⟩ (by cases h : Value.ownBlock mv <;> simp), fun i e he => ⟨(h.row i e he).1.below hb, (h.row i e he).2⟩⟩

theorem pw_big : Nm.pw 4096 = 2 ^ 262144 := by rw [Nm.pw_two 4096, show 64 * 4096 = 262144 from rfl]

/-- The next row, or the error that says that it is too long. -/
inductive SqNext (b : Int) (k : Nat) (mv : Value) (r : Option Addr) (us : List Int) (w : World) : Int → Prop
  | go : b ^ (2 ^ k) < Nm.pw 4096 → RowIn w mv (r, us) (b ^ (2 ^ k)) → SqNext b k mv r us w 0
  | stop : Nm.pw 4096 ≤ b ^ (2 ^ k) → SqNext b k mv r us w 2

theorem RowsIn.few {base : Nat} {b A : Int} {mv : Value} {l : List (Option Addr × List Int)} {w : World} (h : RowsIn base b A mv l w) (hb : 2 ≤ b) (hA : A < Nm.pw 4096) : l.length ≤ 18 := by
  rcases Nat.eq_zero_or_pos l.length with c | c
  · omega
  · have he : l[l.length - 1]? = some l[l.length - 1] := List.getElem?_eq_getElem (by omega)
    have := Ln.few hb (h.row _ _ he).2 (by rw [← pw_big]; exact hA)
    omega

set_option maxRecDepth 100000 in
set_option maxHeartbeats 4000000 in
theorem nsquares_any (p q : Option Addr) (m cap' : Nat) (os za : List Int) (b A : Int) (B : Nat) (w : World) (hp : Ans B w p os b) (hb0 : 2 ≤ b) (hb1 : b < 18446744073709551616) (ha : Arg w q m cap' za) (hA : Nm.val za = A) (ts : Nm.tsize za ≤ 4096) :
    Calls Tryz.prog 124 #[.slice p (List.length os) (List.length os), .slice q m cap'] w fun e w' => ∃ mv l, e = .returned mv ∧ Hid (RowsIn w.heap.size b A mv l w' ∧ A < b ^ (2 ^ l.length) ∧ l.length ≤ 18 ∧ Below w.heap.size w w') := by
  have hAs : ShutL (A < Nm.pw 4096) := ⟨by rw [← hA]; exact (Nm.tsize_le_iff ha.2.2.2.2 4096).1 ts⟩
  have HV := hid hA
  have HA := hid ha
  have HB := hid hb0
  have P0 : Hid (RowIn w (.slice none 0 0) (p, os) (b ^ (2 ^ 0))) := by
    show RowIn _ _ _ _
    rw [Nat.pow_zero, Int.pow_succ, Int.pow_zero, Int.one_mul]
    refine ⟨hp.1, hp.2.1, hp.2.2.1, hp.2.2.2.1, fun a ha => ⟨hp.1.lt ?_ a ha, by simp [Value.ownBlock]⟩⟩
    rcases Nat.eq_zero_or_pos os.length with c | c
    · have := hp.2.2.2.1
      rw [List.eq_nil_of_length_eq_zero c] at this
      simp [Nm.val] at this
      omega
    · exact c
  have S0 : ShutL (b ^ (2 ^ 0) < Nm.pw 4096) := by
    refine ⟨?_⟩
    rw [Nat.pow_zero, Int.pow_succ, Int.pow_zero, Int.one_mul]
    have h := Nm.pw_mono (show 1 ≤ 4096 by omega)
    have e : Nm.pw 1 = 18446744073709551616 := by simp [Nm.pw]
    rw [e] at h
    exact Int.lt_of_lt_of_le hb1 h
  clear hp hb0 hb1 ha hA ts
  go_enter Tryz.func124, Tryz.ntmps124
  go_wp2_with fail
  go_loopg [0, 5, 6] 20 (fun x a c e wr => ∃ (mv : Value) (l : List (Option Addr × List Int)) (r : Option Addr) (us : List Int) (E : Int), a = .slice r (List.length us) (List.length us) ∧ c = mv ∧ e = .int .i64 E ∧ Hid (x + l.length = 20) ∧ Hid (RowsIn w.heap.size b A mv l wr) ∧ Hid (Below w.heap.size w wr) ∧ SqNext b l.length mv r us wr E)
  case atStart => exact ⟨.slice none 0 0, [], p, os, 0, rfl, rfl, rfl, rfl, ⟨World.ownsRow_nil _ _ _ _, fun i e h => by simp at h⟩, Below.refl _ _, .go S0.out P0.out⟩
  case round =>
    clear P0 S0
    obtain ⟨mv, l, r, us, E, rfl, hmv, rfl, GK, RI, D, W⟩ := hrel
    have hmv := hmv.symm
    subst hmv
    have L18 := hid (RI.out.few HB.out hAs.out)
    have W0 : (E = 0 ∧ b ^ (2 ^ l.length) < Nm.pw 4096 ∧ RowIn wr mv (r, us) (b ^ (2 ^ l.length))) ∨ (E = 2 ∧ Nm.pw 4096 ≤ b ^ (2 ^ l.length)) := by
      cases W with
      | go h1 h2 => exact .inl ⟨rfl, h1, h2⟩
      | stop h => exact .inr ⟨rfl, h⟩
    clear W
    rcases W0 with ⟨hE, hs, hr⟩ | ⟨hE, hs⟩
    · subst hE
      have HS : ShutL (b ^ (2 ^ l.length) < Nm.pw 4096) := ⟨hs⟩
      have HR := hid hr
      have lus : Hid (us.length ≤ 4096) := by
        show _ ≤ _
        have h1 := (Nm.tsize_le_iff hr.2.1 4096).2 (by rw [hr.2.2.2.1]; exact hs)
        have h2 := hr.2.2.1
        simp only at h1 h2
        omega
      have HAr := hid (HA.out.below D.out (Nat.le_refl _))
      obtain ⟨c, hc0⟩ : ∃ c, cmpI (b ^ (2 ^ l.length)) A = c := ⟨_, rfl⟩
      have HC := hid hc0
      clear hc0
      have CM := hid (cmp_is c r q _ _ m cap' us za wr (hr.arg (by have := lus.out; simp only; omega)) HAr.out (by rw [show Nm.val us = b ^ (2 ^ l.length) from hr.2.2.2.1, HV.out]; exact HC.out))
      clear hs hr HAr
      by_cases hgt : A < b ^ (2 ^ l.length)
      · have hc : c = 1 := by rw [← HC.out]; exact cmpI_gt hgt
        have HG := hid hgt
        subst hc
        clear hgt
        go_wp2_with fail
        refine CM.out.mono ?_
        rintro e w1 ⟨rfl, d1⟩
        have F : Hid (RowsIn w.heap.size b A mv l w1 ∧ A < b ^ (2 ^ l.length) ∧ l.length ≤ 18 ∧ Below w.heap.size w w1) := ⟨RI.out.below d1, HG.out, L18.out, chain D.out d1 (Nat.le_refl _)⟩
        clear d1
        go_wp2_with fail
        go_ret
        exact ⟨mv, l, rfl, F⟩
      · have hcle : c ≤ 0 := by
          rw [← HC.out]
          rcases (show b ^ (2 ^ l.length) = A ∨ b ^ (2 ^ l.length) < A by omega) with h | h
          · rw [cmpI_eq h]; omega
          · rw [cmpI_lt h]; omega
        have HLE : Hid (b ^ (2 ^ l.length) ≤ A) := by show _ ≤ _; omega
        clear hgt
        go_wp2_with fail
        refine CM.out.mono ?_
        rintro e w1 ⟨rfl, d1⟩
        have RI1 := RI.out.below d1
        have HR1 := HR.out.below d1
        have D1 := hid (chain D.out d1 (Nat.le_refl _))
        obtain ⟨mv', w2, ap, j1, j2, j3, j4, j5⟩ := pushRow w.heap.size l.length mv (l.map rowV) (rowV (r, us)) w1 (by have := L18.out; omega) rfl D1.out.size RI1.own
        have AP : Hid ((Builtin.append_ #[161, 161] 161 #[mv, .slice (some ⟨w1.heap.size, 0, none⟩) 1 1]).run Tryz.prog (w1.alloc (.cells #[.slice r (List.length us) (List.length us)] 88)) = .ok mv' w2) := ap
        have D2 := hid (D1.out.trans j2)
        have HR2 := hid (HR1.pushed j3 j4 j5)
        have RI2 : Hid (RowsIn w.heap.size b A mv' (l ++ [(r, us)]) w2) := by
          refine ⟨by simpa using j1, fun i e he => ?_⟩
          by_cases hi : i < l.length
          · rw [List.getElem?_append_left hi] at he
            exact ⟨(RI1.row i e he).1.pushed j3 j4 j5, (RI1.row i e he).2⟩
          · have hlt := (List.getElem?_eq_some_iff.1 he).1
            simp only [List.length_append, List.length_cons, List.length_nil] at hlt
            have hi2 : i = l.length := by omega
            subst hi2
            rw [List.getElem?_append_right (by omega), Nat.sub_self] at he
            simp at he
            subst he
            exact ⟨HR1.pushed j3 j4 j5, HLE.out⟩
        have MU := hid (mul_gives r r _ _ _ _ us us (b ^ (2 ^ (l.length + 1))) w2 (HR2.out.arg (by have := lus.out; simp only; omega)) (HR2.out.arg (by have := lus.out; simp only; omega)) (by rw [show Nm.tsize us = us.length from HR2.out.2.2.1]; exact lus.out) (by rw [show Nm.tsize us = us.length from HR2.out.2.2.1]; exact lus.out) (by rw [show Nm.val us = b ^ (2 ^ l.length) from HR2.out.2.2.2.1]; exact Ln.square b l.length))
        have BP := hid (show 0 < b ^ (2 ^ (l.length + 1)) from Int.pow_pos (by have := HB.out; omega))
        clear ap j1 j2 j3 j4 j5 RI1 HR1 d1 CM RI D HR
        go_wp2_with (at_builtin; refine wpList_append_l rfl _ _ rfl AP.out (by rfl) (by rfl) ?_; clear AP)
        refine MU.out.mono ?_
        rintro e w3 ⟨h | h, d3⟩
        · obtain ⟨h1, r3, us3, rfl, A3⟩ := h
          have N3 : SqNext b (l.length + 1) mv' r3 us3 w3 0 := .go h1 (A3.row rfl RI2.out.own BP.out)
          have RI3 := hid (RI2.out.below d3)
          have D3 := hid (chain D2.out d3 (Nat.le_refl _))
          clear h1 A3 d3 MU
          go_wp2_with fail
          go_roundg (19 - l.length)
          case measure => have := GK.out; have := L18.out; omega
          case rel => exact ⟨mv', l ++ [(r, us)], r3, us3, 0, rfl, rfl, rfl, by show _ = _; have := L18.out; rw [List.length_append]; simp only [List.length_cons, List.length_nil]; omega, RI3.out, D3.out, by rw [List.length_append]; exact N3⟩
        · obtain ⟨h1, rfl⟩ := h
          have N3 : SqNext b (l.length + 1) mv' none [] w3 2 := .stop h1
          have RI3 := hid (RI2.out.below d3)
          have D3 := hid (chain D2.out d3 (Nat.le_refl _))
          clear h1 d3 MU
          go_wp2_with fail
          go_roundg (19 - l.length)
          case measure => have := GK.out; have := L18.out; omega
          case rel => exact ⟨mv', l ++ [(r, us)], none, [], 2, rfl, rfl, rfl, by show _ = _; have := L18.out; rw [List.length_append]; simp only [List.length_cons, List.length_nil]; omega, RI3.out, D3.out, by rw [List.length_append]; exact N3⟩
    · subst hE
      have F : Hid (RowsIn w.heap.size b A mv l wr ∧ A < b ^ (2 ^ l.length) ∧ l.length ≤ 18 ∧ Below w.heap.size w wr) := ⟨RI.out, Int.lt_of_lt_of_le hAs.out hs, L18.out, D.out⟩
      clear hs
      go_wp2_with fail
      go_ret
      exact ⟨mv, rfl, l, F⟩
end Go.Proofs.YtbmlkfkhmaahnaaGreatDoor

namespace Go.Proofs.YtbmlkfkhmaahnaaGreatDoor
open Go.RowKit Go.Deep

structure ShutG (p : Prop) : Prop where
  out : p

/-- So many digits a limb holds. -/
theorem few64 {B : Int} {W : Nat} (hB : 2 ≤ B) (h : B ^ W < 18446744073709551616) : W ≤ 63 := by
  have := Ln.small (A := B ^ W) (L := 64) hB (Int.le_refl _) (by rw [show (2 : Int) ^ 64 = 18446744073709551616 by decide]; exact h)
  omega

set_option maxRecDepth 100000 in
set_option maxHeartbeats 1000000 in
theorem group_any (B : Int) (w : World) (h2 : 2 ≤ B) (h36 : B ≤ 36) :
    Calls Tryz.prog 123 #[.int .u64 B] w fun e w' => (∃ (W : Nat) (P : Int), e = .returned (.tuple #[.int .u64 P, .int .i64 (W : Int)]) ∧ P = B ^ W ∧ 1 ≤ W ∧ W ≤ 63 ∧ P < 18446744073709551616) ∧ w' = w := by
  have hB0 : (B == 0) = false := by rw [beq_eq_false_iff_ne]; omega
  go_enter Tryz.func123, Tryz.ntmps123
  go_wp2_with fail
  go_loop [4, 5] (fun p c => ∃ (P : Int) (W : Nat), p = .int .u64 P ∧ c = .int .i64 (W : Int) ∧ 1 ≤ P ∧ P ≤ 18446744073709551615 ∧ Hid (P = B ^ W ∧ 1 ≤ W ∧ W ≤ 63)) (fun _ c => 64 - (intOf c).toNat)
  case atStart => exact ⟨B, 1, rfl, rfl, by omega, by omega, by rw [Int.pow_succ, Int.pow_zero, Int.one_mul], by omega, by omega⟩
  case round =>
    obtain ⟨P, W, rfl, rfl, hP1, hP2, F⟩ := hrel
    have hW : (W : Int) ≤ 63 := by have := F.out.2.2; omega
    by_cases hle : P ≤ 18446744073709551615 / B
    · have hm : P * B ≤ 18446744073709551615 := (Int.le_ediv_iff_mul_le (by omega)).1 hle
      have hm0 : 0 ≤ P * B := Int.mul_nonneg (by omega) (by omega)
      have hm1 : 1 ≤ P * B := by have := Int.mul_le_mul (a := 1) (b := 1) hP1 (show 1 ≤ B by omega) (by omega) (by omega); omega
      have q1 : IntKind.u64.wrap (P * B) = P * B := by rw [IntKind.wrap_u64]; omega
      have W2 : Hid (W + 1 ≤ 63) := few64 h2 (by rw [Int.pow_succ, ← F.out.1]; omega)
      have HM := hid hm
      have HM1 := hid hm1
      clear hm hm0 hm1
      go_wp2_with fail
      go_round
      case rel => exact ⟨P * B, W + 1, rfl, by go_num, HM1.out, HM.out, by rw [Int.pow_succ, ← F.out.1], by omega, W2.out⟩
      case measure => simp [intOf]; have := F.out.2; omega
    · go_wp2_with fail
      go_ret2
      exact ⟨⟨W, P, rfl, F.out.1, F.out.2.1, F.out.2.2, by omega⟩, rfl⟩
end Go.Proofs.YtbmlkfkhmaahnaaGreatDoor

namespace Go.Proofs.YtbmlkfkhmaahnaaGreatDoor
open Go.RowKit Go.Deep

/-- j zeros stand at the head, and then another digit. -/
structure Lead (ds : List Int) (j : Nat) : Prop where
  zero : ∀ i, i < j → ds.getD i 0 = 0
  next : ds.getD j 0 ≠ 0

theorem Lead.strip : ∀ {ds : List Int} {j : Nat}, Lead ds j → Dn.strip ds = ds.drop j
  | [], j, h => absurd (by simp) h.next
  | d :: ds, 0, h => by
    have := h.next
    simp at this
    simp [Dn.strip, this]
  | d :: ds, j + 1, h => by
    have h0 := h.zero 0 (by omega)
    simp at h0
    subst h0
    have ih : Lead ds j := ⟨fun i hi => by have := h.zero (i + 1) (by omega); simpa using this, by have := h.next; simpa using this⟩
    have := Lead.strip ih
    simp only [Dn.strip, List.dropWhile_cons, decide_true, if_true, List.drop_succ_cons] at this ⊢
    exact this

theorem Lead.lt {ds : List Int} {j : Nat} (h : Lead ds j) : j < ds.length := by
  rcases Nat.lt_or_ge j ds.length with c | c
  · exact c
  · exact absurd (by simp [List.getD, List.getElem?_eq_none c]) h.next

theorem Lead.ex : ∀ {ds : List Int}, Dn.strip ds ≠ [] → ∃ j, Lead ds j
  | [], h => absurd rfl h
  | d :: ds, h => by
    by_cases c : d = 0
    · subst c
      have : Dn.strip ds ≠ [] := by simpa [Dn.strip] using h
      obtain ⟨j, hj⟩ := Lead.ex this
      refine ⟨j + 1, fun i hi => ?_, by simpa using hj.next⟩
      cases i with
      | zero => simp
      | succ i => simpa using hj.zero i (by omega)
    · exact ⟨0, fun i hi => by omega, by simpa using c⟩

set_option maxRecDepth 100000 in
set_option maxHeartbeats 1000000 in
theorem btrim1_any (g n J : Nat) (ds : List Int) (w : World) (hd : OwnB w g ds) (hn : ds.length = n) (hJ : Lead ds J) :
    Calls Tryz.prog 140 #[.slice (some ⟨g, 0, none⟩) n n, .int .u8 0] w fun e w' => e = .returned (.slice (some ⟨g, J, none⟩) (n - J) (n - J)) ∧ w' = w := by
  have HJ := hid hJ
  have HL : Hid (J < n) := by show _ < _; have := hJ.lt; omega
  have HO := hid hd
  have HN := hid hn
  clear hd hn hJ
  go_enter Tryz.func140, Tryz.ntmps140
  go_wp2_with fail
  go_loop [0] (fun s => ∃ j m : Nat, s = .slice (some ⟨g, j, none⟩) m m ∧ j ≤ J ∧ Hid (j + m = n)) (fun s => match s with | .slice _ m _ => m | _ => 0)
  case atStart => exact ⟨0, n, rfl, Nat.zero_le _, by show _ = _; omega⟩
  case round =>
    obtain ⟨j, m, rfl, hj, E⟩ := hrel
    have hm : 0 < m := by have := E.out; have := HL.out; omega
    have hmi : (0 : Int) < (m : Int) := by omega
    have hmz : ((m : Int) == 0) = false := by rw [beq_eq_false_iff_ne]; omega
    have hm1 : 1 ≤ m := by omega
    obtain ⟨x, hx, X⟩ : ∃ x, w.cell? ⟨g, j, none⟩ = some (.int .u8 x) ∧ Hid (x = ds.getD j 0) := ⟨_, HO.out.cell j (by have := E.out; have := HN.out; omega), rfl⟩
    by_cases hlt : j < J
    · have hx0 : x = 0 := by rw [X.out]; exact HJ.out.zero j hlt
      subst hx0
      go_wp2_with fail
      go_round
      case rel => exact ⟨j + 1, m - 1, by rw [if_neg (by have := E.out; have := HL.out; omega)], by omega, by show _ = _; have := E.out; omega⟩
      case measure => simp; omega
    · obtain rfl : j = J := by omega
      have hx0 : (x == 0) = false := by rw [beq_eq_false_iff_ne, X.out]; exact HJ.out.next
      obtain rfl : m = n - j := by have := E.out; omega
      go_wp2_with fail
      go_ret
      exact ⟨rfl, rfl⟩

set_option maxRecDepth 100000 in
theorem btrim_any (g n J : Nat) (ds : List Int) (w : World) (hd : OwnB w g ds) (hn : ds.length = n) (hJ : Lead ds J) :
    Calls Tryz.prog 126 #[.slice (some ⟨g, 0, none⟩) n n, .string ⟨#[0]⟩] w fun e w' => e = .returned (.slice (some ⟨g, J, none⟩) (n - J) (n - J)) ∧ w' = w := by
  have T := hid (btrim1_any g n J ds w hd hn hJ)
  have hz : ((n : Int) == 0) = false := by rw [beq_eq_false_iff_ne]; have := hJ.lt; omega
  clear hd hn hJ
  go_enter Tryz.func126, Tryz.ntmps126
  go_wp2_with fail
  refine T.out.mono ?_
  rintro e w' ⟨rfl, rfl⟩
  go_wp2_with fail
  go_ret
  exact ⟨rfl, rfl⟩
end Go.Proofs.YtbmlkfkhmaahnaaGreatDoor
