/-
  law20: CharsSwaps.
-/
import Derived.Test.YtgliefdefklfeaaDoorChD
import Derived.Test.YtgliefdefklfeaaDoorChR2
namespace Go.Proofs.YtgliefdefklfeaaDoor
open Go Go.RowKit Go.Deep Go.Shelf

namespace Ch
theorem jn_app (sep : L8) (xs ys : List ByteArray) (h : xs ≠ []) : jn sep (xs ++ ys) = jn sep xs ++ ja sep ys := by
  cases xs with
  | nil => exact absurd rfl h
  | cons x r => rw [List.cons_append, jn_cons, jn_cons, ja_app, List.append_assoc]
theorem jn_take_le (sep : L8) (xs : List ByteArray) (m : Nat) : (jn sep (xs.take (m + 1))).length ≤ (jn sep xs).length := by
  cases xs with
  | nil => exact Nat.le_refl _
  | cons x r =>
    conv => rhs; rw [← List.take_append_drop (m + 1) (x :: r), jn_app sep _ _ (by simp), List.length_append]
    omega
theorem jn_drop_le (sep : L8) (xs : List ByteArray) (k : Nat) : (jn sep (xs.drop k)).length ≤ (jn sep xs).length := by
  rcases Nat.eq_zero_or_pos k with rfl | hk
  · simp
  · cases xs with
    | nil => simp
    | cons x r =>
      by_cases hd : (x :: r).drop k = []
      · rw [hd]; exact Nat.zero_le _
      · conv => rhs; rw [← List.take_append_drop k (x :: r), jn_app sep _ _ (by cases k with
          | zero => omega
          | succ k => simp), List.length_append, jn_ja sep _ hd, List.length_append]
        omega
theorem jn_size' (sep : L8) (xs : List ByteArray) (i : Nat) : (xs.getD i ByteArray.empty).size ≤ (jn sep xs).length := by
  by_cases h : i < xs.length
  · have h1 := jt_len_mono sep xs (show i + 1 ≤ xs.length by omega)
    rw [jt, List.length_append, List.length_append, size_len] at h1
    rw [jn]
    omega
  · rw [show xs.getD i ByteArray.empty = ByteArray.empty by simp [List.getD, List.getElem?_eq_none (show xs.length ≤ i by omega)]]
    exact Nat.zero_le _
theorem tx_app (a b : L8) : tx a ++ tx b = tx (a ++ b) := by
  apply ByteArray.ext
  simp [tx]
theorem swapClosed : rT [98, 97, 110, 97, 110, 97] [97, 110] [60, 62] (-1) = ⟨#[98, 60, 62, 60, 62, 97]⟩ ∧ rC [98, 97, 110, 97, 110, 97] [97, 110] [60, 62] (-1) = 2 ∧ rE [98, 97, 110, 97, 110, 97] [97, 110] [60, 62] (-1) = 0 := by decide +kernel
theorem count_le_size {s old : ByteArray} (h : 1 ≤ old.size) : Lib.count s.data.toList old.data.toList ≤ s.size := by
  have h1 := cn_room old.data.toList (Lib.count s.data.toList old.data.toList) s.data.toList (by rw [cn, if_neg (sep_ne h)]; exact Nat.le_refl _)
  rw [size_len, size_len] at h1
  have h2 : Lib.count s.data.toList old.data.toList * 1 ≤ Lib.count s.data.toList old.data.toList * old.size := Nat.mul_le_mul_left _ h
  omega
end Ch

/-- The facts of the main way. -/
structure SwF (s old new : ByteArray) (xs : List ByteArray) (n : Nat) (R : Ch.L8) : Prop where
  hxs : Ch.cut s old = xs
  hlen : xs.length = n + 1
  hn : n = Lib.count s.data.toList old.data.toList
  hns : n ≤ 1048576
  hR : R = Lib.replaceK old.data.toList new.data.toList n s.data.toList
  hRj : Ch.jn new.data.toList xs = R
  hRl : R.length ≤ 2097152
  hsj : Ch.jn old.data.toList xs = s.data.toList
  hs1 : s.size ≤ 1048576
  ho1 : 1 ≤ old.size
  hn1 : new.size ≤ 1048576
  hob : old.size ≤ 140737488355328

theorem SwF.mk' {s old new : ByteArray} (h1 : 1 ≤ old.size) (hs : s.size ≤ 1048576) (hn : new.size ≤ 1048576) (hob : old.size ≤ 140737488355328) (hm : s.size * new.size ≤ 1048576) :
    SwF s old new (Ch.cut s old) (Lib.count s.data.toList old.data.toList) (Lib.replaceK old.data.toList new.data.toList (Lib.count s.data.toList old.data.toList) s.data.toList) := by
  have c1 := Ch.count_le_size (s := s) h1
  refine ⟨rfl, Ch.cut_len s old h1, rfl, by omega, rfl, Ch.cut_replace s old _ h1, ?_, Ch.cut_join s old h1, hs, h1, hn, hob⟩
  have h2 := Ch.replaceK_len old.data.toList new.data.toList (Ch.sep_ne h1) _ s.data.toList (Nat.le_refl _)
  rw [Ch.size_len, Ch.size_len, Ch.size_len] at h2
  have h3 : Lib.count s.data.toList old.data.toList * new.size ≤ s.size * new.size := Nat.mul_le_mul_right _ c1
  omega

theorem SwF.join {s old new : ByteArray} {xs : List ByteArray} {n : Nat} {R : Ch.L8} (F : SwF s old new xs n R) (wx : World) (a : Option Addr) (ca : Nat) (ht : TR wx a xs) :
    Calls Tryd.prog 10 #[.slice a (n + 1) ca, .string new] wx fun e w' => e = .returned (.tuple #[.string (Ch.tx R), .int .i64 0]) ∧ Below wx.heap.size wx w' := by
  have hl : (Ch.jn new.data.toList xs).length ≤ 16777216 := by rw [F.hRj]; have := F.hRl; omega
  have q := cjoin_any a ca xs new wx ht (by rw [F.hlen]; have := F.hns; omega) (fun i => by have := Ch.jn_size' new.data.toList xs i; omega) (by have := F.hn1; omega)
  rw [F.hlen] at q
  refine q.mono ?_
  rintro e w' ⟨rfl, b⟩
  exact ⟨by rw [Ch.jS, Ch.jE, if_pos hl, if_pos hl, F.hRj], b⟩
theorem SwF.head {s old new : ByteArray} {xs : List ByteArray} {n : Nat} {R : Ch.L8} (F : SwF s old new xs n R) (k : Nat) (hk : k ≤ n) (wx : World) (a : Option Addr) (ca : Nat) (ht : TR wx a xs) :
    Calls Tryd.prog 10 #[.slice a (k + 1) ca, .string new] wx fun e w' => e = .returned (.tuple #[.string (Ch.tx (Ch.jn new.data.toList (xs.take (k + 1)))), .int .i64 0]) ∧ Below wx.heap.size wx w' := by
  have h1 := Ch.jn_take_le new.data.toList xs k
  have hl : (Ch.jn new.data.toList (xs.take (k + 1))).length ≤ 16777216 := by rw [F.hRj] at h1; have := F.hRl; omega
  have e1 : (xs.take (k + 1)).length = k + 1 := by rw [List.length_take, F.hlen]; omega
  have q := cjoin_any a ca (xs.take (k + 1)) new wx (ht.take _) (by rw [e1]; have := F.hns; omega) (fun i => by have := Ch.jn_size' new.data.toList (xs.take (k + 1)) i; omega) (by have := F.hn1; omega)
  rw [e1] at q
  refine q.mono ?_
  rintro e w' ⟨rfl, b⟩
  exact ⟨by rw [Ch.jS, Ch.jE, if_pos hl, if_pos hl], b⟩
theorem SwF.tail {s old new : ByteArray} {xs : List ByteArray} {n : Nat} {R : Ch.L8} (F : SwF s old new xs n R) (k : Nat) (hk : k ≤ n) (wx : World) (b off : Nat) (ca : Nat) (ht : TR wx (some ⟨b, off, none⟩) xs) :
    Calls Tryd.prog 10 #[.slice (some ⟨b, off + k, none⟩) (n + 1 - k) ca, .string old] wx fun e w' => e = .returned (.tuple #[.string (Ch.tx (Ch.jn old.data.toList (xs.drop k))), .int .i64 0]) ∧ Below wx.heap.size wx w' := by
  have h1 := Ch.jn_drop_le old.data.toList xs k
  have hl : (Ch.jn old.data.toList (xs.drop k)).length ≤ 16777216 := by rw [F.hsj, Ch.size_len] at h1; have := F.hs1; omega
  have e1 : (xs.drop k).length = n + 1 - k := by rw [List.length_drop, F.hlen]
  have q := cjoin_any (some ⟨b, off + k, none⟩) ca (xs.drop k) old wx (ht.drop k) (by rw [e1]; have := F.hns; omega) (fun i => by have := Ch.jn_size' old.data.toList (xs.drop k) i; omega) F.hob
  rw [e1] at q
  refine q.mono ?_
  rintro e w' ⟨rfl, b⟩
  exact ⟨by rw [Ch.jS, Ch.jE, if_pos hl, if_pos hl], b⟩
theorem SwF.repl {s old new : ByteArray} {xs : List ByteArray} {n : Nat} {R : Ch.L8} (F : SwF s old new xs n R) (wx : World) (hx : ML wx) :
    Calls Tryd.prog 14 #[.string s, .string old, .string new, .int .i64 (-1)] wx fun e w' => e = .returned (.tuple #[.string (Ch.tx R), .int .i64 (n : Int), .int .i64 0]) ∧ Below wx.heap.size wx w' := by
  have hN : Ch.rn s.data.toList old.data.toList (-1) = n := by rw [Ch.rn, if_pos (by decide), Ch.cn, if_neg (Ch.sep_ne F.ho1), F.hn]
  have hK : Ch.rk old.data.toList new.data.toList n s.data.toList = R := by rw [Ch.rk, if_neg (Ch.sep_ne F.ho1), F.hR]
  have hl : R.length ≤ 16777216 := by have := F.hRl; omega
  refine (creplace_any s old new (-1) wx hx (by have := F.hs1; omega) (by have := F.hn1; omega) F.hob (by decide) (by decide)).mono ?_
  rintro e w' ⟨rfl, b⟩
  exact ⟨by rw [Ch.rT, Ch.rC, Ch.rE, hN, hK, if_pos hl, if_pos hl, if_pos hl], b⟩
theorem SwF.same {s old new : ByteArray} {xs : List ByteArray} {n : Nat} {R : Ch.L8} (F : SwF s old new xs n R) (wx : World) (hx : ML wx) :
    Calls Tryd.prog 14 #[.string s, .string old, .string old, .int .i64 (-1)] wx fun e w' => e = .returned (.tuple #[.string s, .int .i64 (n : Int), .int .i64 0]) ∧ Below wx.heap.size wx w' := by
  have hN : Ch.rn s.data.toList old.data.toList (-1) = n := by rw [Ch.rn, if_pos (by decide), Ch.cn, if_neg (Ch.sep_ne F.ho1), F.hn]
  have hK : Ch.rk old.data.toList old.data.toList n s.data.toList = s.data.toList := by rw [Ch.rk, if_neg (Ch.sep_ne F.ho1), Ch.replaceK_self _ (Ch.sep_ne F.ho1)]
  have hl : s.data.toList.length ≤ 16777216 := by rw [Ch.size_len]; have := F.hs1; omega
  have hroom : Ch.rn s.data.toList old.data.toList (-1) * old.size ≤ 16777217 * 137438953472 := by
    have h1 := Ch.cn_room old.data.toList _ s.data.toList (Ch.rn_le s.data.toList old.data.toList (-1))
    rw [Ch.size_len, Ch.size_len] at h1
    have := F.hs1
    omega
  refine (creplace_gen s old old (-1) wx hx (by have := F.hs1; omega) F.hob F.hob hroom (by decide) (by decide)).mono ?_
  rintro e w' ⟨rfl, b⟩
  exact ⟨by rw [Ch.rT, Ch.rC, Ch.rE, hN, hK, if_pos hl, if_pos hl, if_pos hl, Ch.tx_self], b⟩
theorem SwF.part {s old new : ByteArray} {xs : List ByteArray} {n : Nat} {R : Ch.L8} (F : SwF s old new xs n R) (k : Nat) (hk : k ≤ n) (wx : World) (hx : ML wx) :
    Calls Tryd.prog 14 #[.string s, .string old, .string new, .int .i64 (k : Int)] wx fun e w' => e = .returned (.tuple #[.string (Ch.tx (Ch.jn new.data.toList (xs.take (k + 1)) ++ (Ch.jn old.data.toList (xs.drop k)).drop (xs.getD k ByteArray.empty).size)), .int .i64 (k : Int), .int .i64 0]) ∧ Below wx.heap.size wx w' := by
  have hN : Ch.rn s.data.toList old.data.toList (k : Int) = k := by
    rw [Ch.rn, if_neg (by omega), Ch.cn, if_neg (Ch.sep_ne F.ho1), ← F.hn, Int.toNat_natCast]
    omega
  have hP : xs = (Lib.splitK old.data.toList 0 (Lib.count s.data.toList old.data.toList) s.data.toList).map Ch.tx := by rw [← Ch.cut_data, Ch.map_tx, F.hxs]
  obtain ⟨_, hK⟩ := Ch.part_replace old.data.toList new.data.toList (Ch.sep_ne F.ho1) k s.data.toList (by rw [← F.hn]; exact hk) xs hP
  have hK2 : Ch.rk old.data.toList new.data.toList k s.data.toList = Ch.jn new.data.toList (xs.take (k + 1)) ++ (Ch.jn old.data.toList (xs.drop k)).drop (xs.getD k ByteArray.empty).size := by rw [Ch.rk, if_neg (Ch.sep_ne F.ho1), hK]
  have h1 := Ch.jn_take_le new.data.toList xs k
  have h2 := Ch.jn_drop_le old.data.toList xs k
  rw [F.hRj] at h1
  rw [F.hsj, Ch.size_len] at h2
  have hl : (Ch.jn new.data.toList (xs.take (k + 1)) ++ (Ch.jn old.data.toList (xs.drop k)).drop (xs.getD k ByteArray.empty).size).length ≤ 16777216 := by
    rw [List.length_append, List.length_drop]
    have := F.hRl
    have := F.hs1
    omega
  refine (creplace_any s old new (k : Int) wx hx (by have := F.hs1; omega) (by have := F.hn1; omega) F.hob (by omega) (by have := F.hns; omega)).mono ?_
  rintro e w' ⟨rfl, b⟩
  exact ⟨by rw [Ch.rT, Ch.rC, Ch.rE, hN, hK2, if_pos hl, if_pos hl, if_pos hl], b⟩
end Go.Proofs.YtgliefdefklfeaaDoor
