/-
  Texts put together: NDigit, NDv, NRaise, NTrim, NLimb, JSpec, JMem, FRep.
-/
import Derived.Test.YtigmhnlcmhpepaaGreatDoorWAD
import Derived.Deep.LoopGhost
import Derived.Deep.RegionWith
import Derived.Deep.CutRange
import Derived.Deep.RegionHeld3
import Derived.Deep.CutBlock
import Derived.OwnWalk
namespace Go.Proofs.YtigmhnlcmhpepaaGreatDoor
open Go.RowKit Go.Deep

/-- What a byte counts as a digit; 36 if it is none. -/
def wv (x : Int) : Int := if 48 ≤ x ∧ x ≤ 57 then x - 48 else if 97 ≤ x ∧ x ≤ 122 then x - 97 + 10 else if 65 ≤ x ∧ x ≤ 90 then x - 65 + 10 else 36

theorem wv_bd (x : Int) : 0 ≤ wv x ∧ wv x ≤ 36 := by
  unfold wv
  split
  · omega
  · split
    · omega
    · split <;> omega

theorem dret_u64 {a b : Int} (h : a = b) : Ending.returned (.int .u64 a) = .returned (.int .u64 b) := by rw [h]

set_option maxRecDepth 100000 in
theorem worth_any (x : Int) (w : World) (h0 : 0 ≤ x) (h1 : x < 256) :
    Calls Tryz.prog 243 #[.int .u8 x] w fun e w' => e = .returned (.int .u64 (wv x)) ∧ w' = w := by
  by_cases a1 : 48 ≤ x ∧ x ≤ 57
  · have E : Hid (x - 48 = wv x) := by show _ = _; rw [wv, if_pos a1]
    obtain ⟨a1, a2⟩ := a1
    go_enter Tryz.func243, Tryz.ntmps243
    go_wp2
    go_ret
    exact ⟨dret_u64 E.out, rfl⟩
  by_cases a2 : 97 ≤ x ∧ x ≤ 122
  · have E : Hid (x - 97 + 10 = wv x) := by show _ = _; rw [wv, if_neg a1, if_pos a2]
    obtain ⟨a3, a4⟩ := a2
    clear a1
    go_enter Tryz.func243, Tryz.ntmps243
    go_wp2
    go_ret
    exact ⟨dret_u64 E.out, rfl⟩
  by_cases a3 : 65 ≤ x ∧ x ≤ 90
  · have E : Hid (x - 65 + 10 = wv x) := by show _ = _; rw [wv, if_neg a1, if_neg a2, if_pos a3]
    obtain ⟨a5, a6⟩ := a3
    clear a1 a2
    go_enter Tryz.func243, Tryz.ntmps243
    go_wp2
    go_ret
    exact ⟨dret_u64 E.out, rfl⟩
  · have E : Hid (36 = wv x) := by show _ = _; rw [wv, if_neg a1, if_neg a2, if_neg a3]
    rcases (show x < 48 ∨ (57 < x ∧ x < 65) ∨ (90 < x ∧ x < 97) ∨ 122 < x by omega) with h | ⟨h, k⟩ | ⟨h, k⟩ | h <;> clear a1 a2 a3
    · go_enter Tryz.func243, Tryz.ntmps243
      go_wp2
      go_ret
      exact ⟨dret_u64 E.out, rfl⟩
    · go_enter Tryz.func243, Tryz.ntmps243
      go_wp2
      go_ret
      exact ⟨dret_u64 E.out, rfl⟩
    · go_enter Tryz.func243, Tryz.ntmps243
      go_wp2
      go_ret
      exact ⟨dret_u64 E.out, rfl⟩
    · go_enter Tryz.func243, Tryz.ntmps243
      go_wp2
      go_ret
      exact ⟨dret_u64 E.out, rfl⟩

/-- What wrong tells. -/
inductive WrongIs (xs : List Int) (B : Int) : Int → Prop
  | none : (∀ i, i < xs.length → wv (xs.getD i 0) < B) → WrongIs xs B (-1)
  | here (t : Nat) : t < xs.length → (∀ i, i < t → wv (xs.getD i 0) < B) → B ≤ wv (xs.getD t 0) → WrongIs xs B (t : Int)

set_option maxRecDepth 100000 in
set_option maxHeartbeats 1000000 in
theorem wrong_any (s : ByteArray) (xs : List Int) (n : Nat) (B : Int) (w : World) (hs : Str s xs) (hn : xs.length = n) (hn1 : n ≤ 140737488355328) :
    Calls Tryz.prog 226 #[.string s, .int .u64 B] w fun e w' => (∃ r, e = .returned (.int .i64 r) ∧ WrongIs xs B r) ∧ w' = w := by
  have hsz : s.size = n := by rw [hs.size, hn]
  have HS := hid hs
  have HN := hid hn
  clear hs hn
  go_enter Tryz.func226, Tryz.ntmps226
  go_wp2_with fail
  go_loop [5, 8] (fun _ c => ∃ j : Nat, c = .int .i64 (j : Int) ∧ j ≤ n ∧ Hid (∀ i, i < j → wv (xs.getD i 0) < B)) (fun _ c => n - (intOf c).toNat)
  case atStart => exact ⟨0, rfl, Nat.zero_le _, fun i hi => by omega⟩
  case round =>
    obtain ⟨j, rfl, hj, I⟩ := hrel
    by_cases hlt : j < n
    · have hji : (j : Int) < (n : Int) := by omega
      obtain ⟨x, X⟩ : ∃ x, Hid (xs.getD j 0 = x) := ⟨_, rfl⟩
      have hx : ∀ h : j < s.size, ((s[j]'h).toNat : Int) = x := fun h => by rw [HS.out.at j h, X.out]
      have hxb := HS.out.atb j
      rw [X.out] at hxb
      obtain ⟨hx0, hx1⟩ := hxb
      obtain ⟨v, V⟩ : ∃ v, Hid (wv x = v) := ⟨_, rfl⟩
      have WO := hid (worth_any x w hx0 hx1)
      rw [V.out] at WO
      have hv0 : 0 ≤ v := by have := (wv_bd x).1; have := V.out; omega
      have hv1 : v ≤ 36 := by have := (wv_bd x).2; have := V.out; omega
      by_cases hd : v < B
      · go_wp2_with fail
        refine WO.out.mono ?_
        rintro e w' ⟨rfl, rfl⟩
        have I2 : Hid (∀ i, i < j + 1 → wv (xs.getD i 0) < B) := fun i hi => by
          by_cases e : i = j
          · subst e; rw [X.out, V.out]; exact hd
          · exact I.out i (by omega)
        clear I WO
        go_wp2_with fail
        go_round
        case rel => exact ⟨j + 1, by go_num, by omega, I2.out⟩
        case measure => simp [intOf]; omega
      · have F : Hid (WrongIs xs B (j : Int)) := .here j (by have := HN.out; omega) I.out (by rw [X.out, V.out]; omega)
        clear I
        go_wp2_with fail
        refine WO.out.mono ?_
        rintro e w' ⟨rfl, rfl⟩
        clear WO
        go_wp2_with fail
        go_ret
        exact ⟨⟨_, rfl, F.out⟩, rfl⟩
    · obtain rfl : j = n := by omega
      have F : Hid (WrongIs xs B (-1)) := .none (fun i hi => I.out i (by have := HN.out; omega))
      clear I
      go_wp2_with fail
      go_ret
      exact ⟨⟨_, rfl, F.out⟩, rfl⟩
end Go.Proofs.YtigmhnlcmhpepaaGreatDoor

namespace Go.Proofs.YtigmhnlcmhpepaaGreatDoor
open Go.RowKit Go.Deep

/-- The number of a row of decimal digits. -/
def dv (ds : List Int) : Int := Dn.tv 10 0 (ds.map (fun d => d - 48))
def Digs (ds : List Int) : Prop := ∀ d ∈ ds, 48 ≤ d ∧ d ≤ 57

theorem dv_append (xs ys : List Int) : dv (xs ++ ys) = dv xs * 10 ^ ys.length + dv ys := by
  unfold dv
  rw [List.map_append, Dn.tv_append, Dn.tv_acc, List.length_map]

theorem dv_cons (x : Int) (ys : List Int) : dv (x :: ys) = (x - 48) * 10 ^ ys.length + dv ys := by
  have := dv_append [x] ys
  simpa [dv, Dn.tv] using this

theorem dv_zeros : ∀ k, dv (List.replicate k 48) = 0
  | 0 => rfl
  | k + 1 => by
    rw [List.replicate_succ, dv_cons, dv_zeros k]
    simp

theorem dv_nines : ∀ k, dv (List.replicate k 57) = 10 ^ k - 1
  | 0 => rfl
  | k + 1 => by
    rw [List.replicate_succ, dv_cons, dv_nines k, List.length_replicate, Int.pow_succ]
    omega

theorem dv_bd {ds : List Int} (h : Digs ds) : 0 ≤ dv ds ∧ dv ds < 10 ^ ds.length := by
  have hm : ∀ d ∈ ds.map (fun d => d - 48), 0 ≤ d ∧ d < 10 := fun d hd => by
    obtain ⟨e, he, rfl⟩ := List.mem_map.1 hd
    have := h e he
    omega
  have h2 := Dn.tv_lt (show (0 : Int) < 10 by omega) _ hm
  rw [List.length_map] at h2
  exact ⟨Dn.tv_nonneg (by omega) 0 _ (Int.le_refl _) (fun d hd => (hm d hd).1), h2⟩

theorem wv_dig {x : Int} (h : 48 ≤ x ∧ x ≤ 57) : wv x = x - 48 := by rw [wv, if_pos h]

theorem digs_at {xs : List Int} (h : Digs xs) (i : Nat) (hi : i < xs.length) : 48 ≤ xs.getD i 0 ∧ xs.getD i 0 ≤ 57 := by
  have e : xs.getD i 0 = xs[i] := by simp [List.getD, hi]
  rw [e]
  exact h _ (List.getElem_mem hi)
end Go.Proofs.YtigmhnlcmhpepaaGreatDoor

namespace Go.Proofs.YtigmhnlcmhpepaaGreatDoor
open Go.RowKit Go.Deep

/-- A block of bytes of our own; a mark may stand behind its end. -/
def OwnF (w : World) (g : Nat) (zs : List Int) : Prop := ∃ lo hi, w.heap[g]? = some (.cells (zs.map (Value.int .u8)).toArray 5 (lo, hi)) ∧ zs.length ≤ lo

theorem OwnF.cell {w : World} {g : Nat} {zs : List Int} (h : OwnF w g zs) (i : Nat) (hi : i < zs.length) : w.cell? ⟨g, i, none⟩ = some (.int .u8 (zs.getD i 0)) := by
  obtain ⟨lo, k, h, _⟩ := h
  simp [World.cell?, h, List.getD, hi]

theorem OwnF.free {w : World} {g : Nat} {zs : List Int} (h : OwnF w g zs) (i : Nat) (hi : i < zs.length) : w.frozen? ⟨g, i, none⟩ = false := by
  obtain ⟨lo, k, h, hl⟩ := h
  simp [World.frozen?, h]
  omega

theorem OwnF.lt {w : World} {g : Nat} {zs : List Int} (h : OwnF w g zs) : g < w.heap.size := by
  obtain ⟨lo, k, h, _⟩ := h
  rcases Nat.lt_or_ge g w.heap.size with hl | hl
  · exact hl
  · simp [Array.getElem?_eq_none hl] at h

theorem OwnF.set {w : World} {g : Nat} {zs : List Int} (h : OwnF w g zs) (i : Nat) (s : Int) : OwnF (w.setCell ⟨g, i, none⟩ (.int .u8 s)) g (zs.set i s) := by
  have hl := h.lt
  obtain ⟨lo, k, h, hz⟩ := h
  exact ⟨lo, k, by simp [World.setCell, Array.getElem?_modify, h, List.map_set], by simpa using hz⟩

theorem OwnF.below {w w' : World} {B g : Nat} {zs : List Int} (h : OwnF w g zs) (hb : Below B w w') (hg : g < B) : OwnF w' g zs := by
  obtain ⟨lo, k, h, hz⟩ := h
  exact ⟨lo, k, by rw [hb.block g hg, h], hz⟩

/-- One unit of the last place more, and whether it was carried out. -/
def Raised (ds ds' : List Int) (c : Bool) : Prop := Digs ds' ∧ ds'.length = ds.length ∧ dv ds' + (if c then 10 ^ ds.length else 0) = dv ds + 1

theorem tail57 {es : List Int} {n j : Nat} (hn : n ≤ es.length) (hj : j ≤ n) (h : ∀ i, j ≤ i → i < n → es.getD i 0 = 57) : es.take n = es.take j ++ List.replicate (n - j) 57 := by
  apply List.ext_getElem?
  intro i
  by_cases h1 : i < j
  · rw [List.getElem?_append_left (by simp; omega), List.getElem?_take, List.getElem?_take, if_pos (by omega), if_pos h1]
  · by_cases h2 : i < n
    · have := h i (by omega) h2
      rw [List.getElem?_append_right (by simp; omega), List.getElem?_take, if_pos h2, List.getElem?_replicate, if_pos (by simp; omega)]
      rw [List.getElem?_eq_getElem (by omega)] at *
      simp [List.getD, List.getElem?_eq_getElem (show i < es.length by omega)] at this
      rw [this]
    · rw [List.getElem?_eq_none (by simp; omega), List.getElem?_eq_none (by simp; omega)]

theorem put_take (es : List Int) (o n : Nat) (xs : List Int) (h : o + xs.length = n) (hn : n ≤ es.length) : (put es o xs).take n = es.take o ++ xs := by
  unfold put
  rw [List.take_append_of_le_length (by simp; omega), List.take_of_length_le (by simp; omega)]

theorem raised_all {es : List Int} {n : Nat} (hn : n ≤ es.length) (h : ∀ i, 0 ≤ i → i < n → es.getD i 0 = 57) : Raised (es.take n) ((put es 0 (List.replicate n 48)).take n) true := by
  rw [put_take es 0 n _ (by simp) hn, tail57 hn (Nat.zero_le _) h]
  simp only [List.take_zero, List.nil_append, Nat.sub_zero]
  refine ⟨fun d hd => ?_, by simp, ?_⟩
  · have := List.eq_of_mem_replicate hd
    omega
  · rw [dv_zeros, dv_nines]
    simp

theorem raised_at {es : List Int} {n u : Nat} {x : Int} (hn : n ≤ es.length) (hu : u < n) (hx : es.getD u 0 = x) (hx1 : x ≠ 57) (hd : Digs (es.take n)) (h : ∀ i, u + 1 ≤ i → i < n → es.getD i 0 = 57) : Raised (es.take n) ((put es u ((x + 1) :: List.replicate (n - (u + 1)) 48)).take n) false := by
  have e1 : es.take (u + 1) = es.take u ++ [x] := by
    rw [List.take_add_one, ← hx]
    simp [List.getD, List.getElem?_eq_getElem (show u < es.length by omega)]
  have e2 := tail57 hn (by omega) h
  rw [e1] at e2
  have hxd := hd x (by rw [e2]; simp)
  rw [put_take es u n _ (by simp; omega) hn]
  refine ⟨fun d hm => ?_, by simp; omega, ?_⟩
  · rw [List.mem_append, List.mem_cons] at hm
    rcases hm with hm | hm | hm
    · exact hd d (by rw [e2]; simp [hm])
    · omega
    · have := List.eq_of_mem_replicate hm
      omega
  · rw [e2, dv_append, dv_cons, dv_zeros, List.append_assoc, dv_append, List.singleton_append, dv_cons, dv_nines]
    simp only [List.length_cons, List.length_replicate]
    rw [show (x + 1 - 48) = (x - 48) + 1 by omega, Int.add_mul]
    simp
    omega

def RaiseTold (g : Nat) (es : List Int) (n : Nat) (w : World) (e : Ending) (w' : World) : Prop :=
  ∃ c es', e = .returned (.bool c) ∧ OwnF w' g es' ∧ es'.length = es.length ∧ Raised (es.take n) (es'.take n) c ∧ Only g w w'

set_option maxRecDepth 100000 in
set_option maxHeartbeats 2000000 in
theorem raise_any (g n cap : Nat) (es : List Int) (w : World) (ho : OwnF w g es) (hn : n ≤ es.length) (hs : n ≤ 140737488351232) (hd : Digs (es.take n)) :
    Calls Tryz.prog 228 #[.slice (some ⟨g, 0, none⟩) n cap] w fun e w' => RaiseTold g es n w e w' := by
  have HO := hid ho
  have HN := hid hn
  have HD := hid hd
  have hsi : (n : Int) ≤ 140737488351232 := by omega
  clear ho hn hd
  go_enter Tryz.func228, Tryz.ntmps228
  go_wp2_with fail
  go_loopg [3] n (fun j i wr => i = .int .i64 ((j : Int) - 1) ∧ j ≤ n ∧ Hid (OwnF wr g (put es j (List.replicate (n - j) 48)) ∧ (∀ i, j ≤ i → i < n → es.getD i 0 = 57) ∧ Only g w wr))
  case atStart => exact ⟨rfl, Nat.le_refl _, by rw [Nat.sub_self]; simpa [put_nil] using HO.out, fun i h1 h2 => by omega, Only.refl _ _⟩
  case round =>
    obtain ⟨rfl, hj, I⟩ := hrel
    cases gk with
    | zero =>
      have F : Hid (RaiseTold g es n w (.returned (.bool true)) wr) := by
        refine ⟨true, _, rfl, I.out.1, ?_, ?_, I.out.2.2⟩
        · rw [put_length _ _ _ (by simp; have := HN.out; omega)]
        · exact raised_all HN.out I.out.2.1
      clear I
      go_wp2_with fail
      go_ret
      exact F.out
    | succ u =>
      rw [show ((u + 1 : Nat) : Int) - 1 = (u : Int) by omega]
      have hu : (u : Int) < (n : Int) := by omega
      have hl : (put es (u + 1) (List.replicate (n - (u + 1)) 48)).length = es.length := put_length _ _ _ (by simp; have := HN.out; omega)
      obtain ⟨x, X⟩ : ∃ x, Hid (es.getD u 0 = x) := ⟨_, rfl⟩
      have hx : wr.cell? ⟨g, u, none⟩ = some (.int .u8 x) := by
        rw [I.out.1.cell u (by rw [hl]; have := HN.out; omega), ← X.out]
        simp [put, List.getD, List.getElem?_append_left (show u < (es.take (u + 1)).length by simp; have := HN.out; omega)]
      have hf := I.out.1.free u (by rw [hl]; have := HN.out; omega)
      have hxd : 48 ≤ x ∧ x ≤ 57 := by
        have hlt : u < (es.take n).length := by simp; have := HN.out; omega
        have := HD.out _ (List.getElem_mem hlt)
        rw [← X.out]
        simpa [List.getD, List.getElem?_eq_getElem (show u < es.length by have := HN.out; omega)] using this
      obtain ⟨hx0, hx1⟩ := hxd
      by_cases h9 : x = 57
      · have F : Hid (OwnF (wr.setCell ⟨g, u, none⟩ (.int .u8 48)) g (put es u (List.replicate (n - u) 48)) ∧ (∀ i, u ≤ i → i < n → es.getD i 0 = 57) ∧ Only g w (wr.setCell ⟨g, u, none⟩ (.int .u8 48))) := by
          refine ⟨?_, fun i h1 h2 => ?_, I.out.2.2.trans (Only.set _ _)⟩
          · have := I.out.1.set u 48
            rw [put_head _ _ _ _ (by simp; have := HN.out; omega), ← List.replicate_succ, show n - (u + 1) + 1 = n - u by omega] at this
            exact this
          · by_cases e : i = u
            · subst e; rw [X.out]; exact h9
            · exact I.out.2.1 i (by omega) h2
        subst h9
        clear I hl
        go_wp2_with fail
        go_roundg u
        case measure => omega
        case rel => exact ⟨by go_num, by omega, F.out⟩
      · have h9' : (x == 57) = false := by rw [beq_eq_false_iff_ne]; exact h9
        have F : Hid (RaiseTold g es n w (.returned (.bool false)) (wr.setCell ⟨g, u, none⟩ (.int .u8 (x + 1)))) := by
          have o := I.out.1.set u (x + 1)
          rw [put_head _ _ _ _ (by simp; have := HN.out; omega)] at o
          refine ⟨false, _, rfl, o, ?_, ?_, I.out.2.2.trans (Only.set _ _)⟩
          · rw [put_length _ _ _ (by simp; have := HN.out; omega)]
          · exact raised_at HN.out (by omega) X.out h9 HD.out I.out.2.1
        clear I hl
        go_wp2_with fail
        go_ret
        exact F.out
end Go.Proofs.YtigmhnlcmhpepaaGreatDoor

namespace Go.Proofs.YtigmhnlcmhpepaaGreatDoor
open Go.RowKit Go.Deep

/-- s' is s without some zeros at its end, and ends with none. -/
def TailTold (xs : List Int) (e : Ending) : Prop := ∃ s' k, e = .returned (.string s') ∧ Str s' (xs.take k) ∧ k ≤ xs.length ∧ (∀ i, k ≤ i → i < xs.length → xs.getD i 0 = 48)

set_option maxRecDepth 100000 in
set_option maxHeartbeats 1000000 in
theorem rtrim_any (s : ByteArray) (xs : List Int) (w : World) (hs : Str s xs) (hn1 : xs.length ≤ 140737488355328) :
    Calls Tryz.prog 126 #[.string s, .int .u8 48] w fun e w' => TailTold xs e ∧ w' = w := by
  have HS := hid hs
  have HN := hid hn1
  clear hs hn1
  go_enter Tryz.func126, Tryz.ntmps126
  go_wp2_with fail
  go_loop [0] (fun c => ∃ s' m, c = .string s' ∧ Hid (Str s' (xs.take m) ∧ m ≤ xs.length ∧ s'.size = m ∧ (∀ i, m ≤ i → i < xs.length → xs.getD i 0 = 48))) (fun c => match c with | .string s' => s'.size | _ => 0)
  case atStart => exact ⟨s, xs.length, rfl, by rw [List.take_length]; exact HS.out, Nat.le_refl _, HS.out.size, fun i h1 h2 => by omega⟩
  case round =>
    obtain ⟨s', m, rfl, I⟩ := hrel
    have hsz : s'.size = m := I.out.2.2.1
    have hmb : (m : Int) ≤ 140737488355328 := by have := HN.out; have := I.out.2.1; omega
    by_cases h0 : m = 0
    · subst h0
      have F : Hid (TailTold xs (.returned (.string s'))) := ⟨s', 0, rfl, I.out.1, Nat.zero_le _, I.out.2.2.2⟩
      clear I
      go_wp2_with fail
      go_ret
      exact ⟨F.out, rfl⟩
    · obtain ⟨u, hu⟩ : ∃ u, m = u + 1 := ⟨m - 1, by omega⟩
      have hmi : (0 : Int) < (m : Int) := by omega
      have hmu : (m : Int) - 1 = (u : Int) := by omega
      have hum : (u : Int) < (m : Int) := by omega
      obtain ⟨x, X⟩ : ∃ x, Hid (xs.getD u 0 = x) := ⟨_, rfl⟩
      have hx : ∀ h : u < s'.size, ((s'[u]'h).toNat : Int) = x := fun h => by
        rw [I.out.1.at u h, ← X.out]
        simp [List.getD, show u < m by omega]
      have HU := hid hu
      by_cases hd : x = 48
      · subst hd
        have F : Hid (Str (s'.extract 0 u) (xs.take u) ∧ u ≤ xs.length ∧ (s'.extract 0 u).size = u ∧ (∀ i, u ≤ i → i < xs.length → xs.getD i 0 = 48)) := by
          have e := I.out.1.extract 0 u
          rw [List.drop_zero, Nat.sub_zero, List.take_take, show min u m = u by omega] at e
          refine ⟨e, by have := I.out.2.1; omega, by rw [e.size]; have := I.out.2.1; simp; omega, fun i h1 h2 => ?_⟩
          by_cases c : i = u
          · subst c; exact X.out
          · exact I.out.2.2.2 i (by omega) h2
        have SZ : Hid ((s'.extract 0 u).size < s'.size) := by show _ < _; rw [F.out.2.2.1, hsz]; omega
        clear I hu h0
        go_wp2_with fail
        go_round
        case rel => exact ⟨_, _, rfl, F.out⟩
        case measure => exact SZ.out
      · have hd2 : (x == 48) = false := by rw [beq_eq_false_iff_ne]; exact hd
        have F : Hid (TailTold xs (.returned (.string s'))) := ⟨s', m, rfl, I.out.1, I.out.2.1, I.out.2.2.2⟩
        clear I hu h0
        go_wp2_with fail
        go_ret
        exact ⟨F.out, rfl⟩

/-- Whether anything but zeros stands there. -/
def TrimTold (xs : List Int) (e : Ending) : Prop := ∃ s', e = .returned (.string s') ∧ (s'.toList = [] ↔ ∀ i, i < xs.length → xs.getD i 0 = 48)

theorem str_nil {s : ByteArray} {xs : List Int} (h : Str s xs) : s.toList = [] ↔ xs = [] := by
  rw [ByteArray.toList_eq]
  constructor
  · intro c
    rw [← h, c]
    rfl
  · intro c
    unfold Str at h
    rw [c] at h
    simpa using h

theorem trim_told {xs : List Int} {k : Nat} (h2 : k ≤ xs.length) (h3 : ∀ i, k ≤ i → i < xs.length → xs.getD i 0 = 48) {e : Ending} (h : STold (xs.take k) e) : TrimTold xs e := by
  obtain ⟨s', j, rfl, ⟨b1, b2, b3⟩, b4⟩ := h
  refine ⟨s', rfl, ?_⟩
  rw [str_nil b1]
  have hl : (xs.take k).length = k := by simp; omega
  have hg : ∀ i, i < k → (xs.take k).getD i 0 = xs.getD i 0 := fun i hi => by simp [List.getD, hi]
  rw [hl] at b2
  constructor
  · intro c
    have hj : k ≤ j := by
      have := congrArg List.length c
      simp at this
      omega
    intro i hi
    by_cases c1 : i < k
    · rw [← hg i c1]
      exact b3 i (by omega)
    · exact h3 i (by omega) hi
  · intro c
    apply List.drop_of_length_le
    rw [hl]
    rcases Nat.lt_or_ge j k with c1 | c1
    · exact absurd (by rw [hg j c1]; exact c j (by omega)) (b4 (by rw [hl]; exact c1))
    · exact c1

set_option maxRecDepth 100000 in
set_option maxHeartbeats 1000000 in
theorem trim0_any (s : ByteArray) (xs : List Int) (w : World) (hs : Str s xs) (hn1 : xs.length ≤ 140737488355328) :
    Calls Tryz.prog 244 #[.string s, .string ⟨#[48]⟩] w fun e w' => TrimTold xs e ∧ Below w.heap.size w w' := by
  by_cases h : xs = []
  · have F : Hid (TrimTold xs (.returned (.string s))) := ⟨s, rfl, by rw [str_nil hs, h]; simp⟩
    have hs0 : s = ⟨#[]⟩ := hs.inj (by rw [h]; rfl)
    subst hs0
    clear hs hn1 h
    go_enter Tryz.func244, Tryz.ntmps244
    go_wp2_with fail
    go_ret
    exact ⟨F.out, Below.refl _ _⟩
  · have e1 : s.toList ≠ [] := fun c => h ((str_nil hs).1 c)
    have e2 : (s.toList == []) = false := by rw [beq_eq_false_iff_ne]; exact e1
    have e3 : s.toList.isEmpty = false := by rw [List.isEmpty_eq_false_iff]; exact e1
    have R := hid (rtrim_any s xs w.drew hs hn1)
    have L : Hid (∀ (s1 : ByteArray) (k : Nat), Str s1 (xs.take k) → Calls Tryz.prog 122 #[.string s1, .int .u8 48] w.drew fun e w' => STold (xs.take k) e ∧ w' = w.drew) := fun s1 k h1 => strim1_any s1 (xs.take k) w.drew h1 (by simp; omega)
    clear hs hn1 h
    go_enter Tryz.func244, Tryz.ntmps244
    go_upto_region 4 with fail
    go_region_with (first | (go_at_call 126; refine R.out.mono ?_; rintro e w1 ⟨⟨s1, k, rfl, k1, k2, k3⟩, rfl⟩; have L1 := hid (L.out s1 k k1); have K2 := hid k2; have K3 := hid k3; clear k1 k2 k3) | (go_at_call 122; refine L1.out.mono ?_; rintro e w1 ⟨t1, rfl⟩; have F := hid (trim_told K2.out K3.out t1); obtain ⟨s2, j2, rfl, -⟩ := t1))
    all_goals (go_wp2_with fail; go_ret; exact ⟨F.out, below_drewN (Below.refl _ _) 1⟩)
end Go.Proofs.YtigmhnlcmhpepaaGreatDoor

namespace Go.Proofs.YtigmhnlcmhpepaaGreatDoor
open Go.RowKit Go.Deep

end Go.Proofs.YtigmhnlcmhpepaaGreatDoor

namespace Go.Proofs.YtigmhnlcmhpepaaGreatDoor
open Go Go.RowKit Go.Deep Go.Shelf

/-- A text as the walk tells it. -/
theorem str_is {s : ByteArray} {xs : List Int} (h : Str s xs) : s = strOfNums xs := h.inj (Str.of_nums (fun _ hx => h.mem hx))

theorem bit_and (F k : Int) (h0 : 0 ≤ F) (h1 : F ≤ 31) (hk : k = 1 ∨ k = 2 ∨ k = 4 ∨ k = 8 ∨ k = 16) : (bits .and .i64 F k = 0 ∧ Wh.bit F k = false) ∨ (bits .and .i64 F k ≠ 0 ∧ Wh.bit F k = true) := by
  have key : ∀ t : Fin 32, ∀ j ∈ [(1 : Int), 2, 4, 8, 16], (bits .and .i64 (t.val : Int) j = 0 ∧ Wh.bit (t.val : Int) j = false) ∨ (bits .and .i64 (t.val : Int) j ≠ 0 ∧ Wh.bit (t.val : Int) j = true) := by decide
  have := key ⟨F.toNat, by omega⟩ k (by simp; omega)
  simp only at this
  rw [show ((F.toNat : Nat) : Int) = F by omega] at this
  exact this

set_option maxRecDepth 100000 in
theorem has_any (V F W P k : Int) (w : World) (h0 : 0 ≤ F) (h1 : F ≤ 31) (hk : k = 1 ∨ k = 2 ∨ k = 4 ∨ k = 8 ∨ k = 16) :
    Calls Tryz.prog 139 #[.agg #[.int .u8 V, .int .i64 F, .int .i64 W, .int .i64 P], .int .i64 k] w fun e w' => e = .returned (.bool (Wh.bit F k)) ∧ Below w.heap.size w w' := by
  have B := hid (alloc_b w (.cells #[.int .u8 V, .int .i64 F, .int .i64 W, .int .i64 P] 141))
  rcases bit_and F k h0 h1 hk with ⟨e, q⟩ | ⟨e, q⟩
  · rw [q]
    clear h0 h1 hk q
    go_enter Tryz.func139, Tryz.ntmps139
    go_wp2_with fail
    go_ret
    exact ⟨rfl, B.out⟩
  · rw [q]
    have e2 : (bits .and .i64 F k != 0) = true := by simpa using e
    clear h0 h1 hk q e
    go_enter Tryz.func139, Tryz.ntmps139
    go_wp2_with fail
    go_ret
    exact ⟨rfl, B.out⟩

set_option maxRecDepth 100000 in
theorem check_any (V F W P : Int) (w : World) :
    Calls Tryz.prog 138 #[.agg #[.int .u8 V, .int .i64 F, .int .i64 W, .int .i64 P]] w fun e w' => e = .returned (.int .i64 (Wh.chk F W P)) ∧ Below w.heap.size w w' := by
  have B := hid (alloc_b w (.cells #[.int .u8 V, .int .i64 F, .int .i64 W, .int .i64 P] 141))
  by_cases h : F < 0 ∨ 31 < F ∨ W < 0 ∨ P < -1
  · rw [show Wh.chk F W P = 1 from if_pos h]
    by_cases h1 : F < 0
    · clear h
      go_enter Tryz.func138, Tryz.ntmps138
      go_wp2_with fail
      go_ret
      exact ⟨rfl, B.out⟩
    · by_cases h2 : 31 < F
      · clear h
        go_enter Tryz.func138, Tryz.ntmps138
        go_wp2_with fail
        go_ret
        exact ⟨rfl, B.out⟩
      · by_cases h3 : W < 0
        · clear h
          go_enter Tryz.func138, Tryz.ntmps138
          go_wp2_with fail
          go_ret
          exact ⟨rfl, B.out⟩
        · have h4 : P < -1 := by omega
          clear h
          go_enter Tryz.func138, Tryz.ntmps138
          go_wp2_with fail
          go_ret
          exact ⟨rfl, B.out⟩
  · have h1 : ¬ F < 0 := by omega
    have h2 : ¬ 31 < F := by omega
    have h3 : ¬ W < 0 := by omega
    have h4 : ¬ P < -1 := by omega
    by_cases k : 4096 < W ∨ 4096 < P
    · rw [show Wh.chk F W P = 6 by rw [Wh.chk, if_neg h, if_pos k]]
      by_cases k1 : 4096 < W
      · clear h k
        go_enter Tryz.func138, Tryz.ntmps138
        go_wp2_with fail
        go_ret
        exact ⟨rfl, B.out⟩
      · have k2 : 4096 < P := by omega
        clear h k
        go_enter Tryz.func138, Tryz.ntmps138
        go_wp2_with fail
        go_ret
        exact ⟨rfl, B.out⟩
    · rw [show Wh.chk F W P = 0 by rw [Wh.chk, if_neg h, if_neg k]]
      have k1 : ¬ 4096 < W := by omega
      have k2 : ¬ 4096 < P := by omega
      clear h k
      go_enter Tryz.func138, Tryz.ntmps138
      go_wp2_with fail
      go_ret
      exact ⟨rfl, B.out⟩

set_option maxRecDepth 100000 in
theorem checkVerb_any (V F W P : Int) (s : ByteArray) (ok : Bool) (w : World) (hv : (Lib.indexByte s.data.toList V.toNat.toUInt8 < 0 ∧ ok = false) ∨ (0 ≤ Lib.indexByte s.data.toList V.toNat.toUInt8 ∧ ok = true)) :
    Calls Tryz.prog 113 #[.agg #[.int .u8 V, .int .i64 F, .int .i64 W, .int .i64 P], .string s] w fun e w' => e = .returned (.int .i64 (if ok = true then Wh.chk F W P else 140)) ∧ Below w.heap.size w w' := by
  have B := hid (alloc_b w (.cells #[.int .u8 V, .int .i64 F, .int .i64 W, .int .i64 P] 141))
  have IX := hid (fun w => Any.strings_IndexByte idxLays s V w)
  generalize Lib.indexByte s.data.toList V.toNat.toUInt8 = x at *
  rcases hv with ⟨h, rfl⟩ | ⟨h, rfl⟩
  · rw [if_neg Bool.false_ne_true]
    go_enter Tryz.func113, Tryz.ntmps113
    go_wp2_with (go_at_call 91; refine (IX.out _).mono ?_; rintro e w2 ⟨rfl, rfl⟩)
    go_ret
    exact ⟨rfl, B.out⟩
  · rw [if_pos rfl]
    have h' : ¬ x < 0 := by omega
    have CK := hid (fun w => check_any V F W P w)
    generalize Wh.chk F W P = E at *
    go_enter Tryz.func113, Tryz.ntmps113
    go_wp2_with (go_at_call 91; refine (IX.out _).mono ?_; rintro e w2 ⟨rfl, rfl⟩)
    refine (CK.out _).mono ?_
    rintro e w1 ⟨rfl, b1⟩
    have B1 := hid (below_on B.out b1)
    clear b1
    go_wp2_with fail
    go_ret
    exact ⟨rfl, B1.out⟩

set_option maxRecDepth 100000 in
theorem vb_di (V : Int) (h0 : 0 ≤ V) (h1 : V < 256) : (Lib.indexByte (⟨#[100, 105]⟩ : ByteArray).data.toList V.toNat.toUInt8 < 0 ∧ decide (V = 100 ∨ V = 105) = false) ∨ (0 ≤ Lib.indexByte (⟨#[100, 105]⟩ : ByteArray).data.toList V.toNat.toUInt8 ∧ decide (V = 100 ∨ V = 105) = true) := by
  have key : ∀ t : Fin 256, (Lib.indexByte [100, 105] (t.val : Int).toNat.toUInt8 < 0 ∧ decide ((t.val : Int) = 100 ∨ (t.val : Int) = 105) = false) ∨ (0 ≤ Lib.indexByte [100, 105] (t.val : Int).toNat.toUInt8 ∧ decide ((t.val : Int) = 100 ∨ (t.val : Int) = 105) = true) := by decide
  have := key ⟨V.toNat, by omega⟩
  simp only at this
  rw [show ((V.toNat : Nat) : Int) = V by omega] at this
  exact this
end Go.Proofs.YtigmhnlcmhpepaaGreatDoor

namespace Go.Proofs.YtigmhnlcmhpepaaGreatDoor
open Go Go.RowKit Go.Deep Go.Shelf

theorem ret_str {a b : ByteArray} (h : a = b) : Ending.returned (.string a) = .returned (.string b) := by rw [h]
theorem str_cells {s : ByteArray} {xs : List Int} (h : Str s xs) : Lib.strCells s = xs.map (Value.int .u8) := by
  rw [← h, List.map_map]; rfl
def IsB (B b : Nat) (zs : List Int) (w : World) : Prop := Lib.IsBuilder 186 5 B b (zs.map (Value.int .u8)) w
theorem IsB.below {B b : Nat} {zs : List Int} {w w' : World} (h : IsB B b zs w) (k : Below w.heap.size w w') : IsB B b zs w' := by
  have key : ∀ p, Lib.BuilderAt 186 5 B b p (zs.map (Value.int .u8)) w → Lib.BuilderAt 186 5 B b p (zs.map (Value.int .u8)) w' := by
    rintro p ⟨h1, v, h2, h3, h4⟩
    have hl : b < w.heap.size := by
      rcases Nat.lt_or_ge b w.heap.size with c | c
      · exact c
      · simp [Array.getElem?_eq_none c] at h2
    exact ⟨h1, v, by rw [k.block b hl]; exact h2, World.ownsRow.kept (row := none) h3 ⟨k.os, k.tape, k.output, k.size, fun j hj _ => k.block j hj⟩ (by cases h : Value.ownBlock v <;> simp), h4⟩
  rcases h with h | h
  · exact .inl (key _ h)
  · exact .inr (key _ h)
theorem bwrite_any (B b : Nat) (zs xs : List Int) (s : ByteArray) (w : World) (h : IsB B b zs w) (hs : Str s xs) (hl : zs.length + xs.length ≤ 140737488355328) (hB : B ≤ w.heap.size) : Calls Tryz.prog 110 #[.pointer (some ⟨b, 0, none⟩), .string s] w fun e w' => e = .returned (.tuple #[.int .i64 s.size, .nilIface]) ∧ IsB B b (zs ++ xs) w' ∧ Below B w w' := by
  have q := Any.Builder_WriteString jwsLays jExtra B b (zs.map (Value.int .u8)) s w h (by have := hs.size; rw [List.length_map]; omega) hB
  rw [str_cells hs, ← List.map_append] at q
  refine q.mono ?_
  rintro e w' ⟨rfl, h1, h2⟩
  exact ⟨rfl, .inr h1, h2⟩
theorem bstr_any (B b : Nat) (zs : List Int) (w : World) (h : IsB B b zs w) (hz : ∀ x ∈ zs, 0 ≤ x ∧ x < 256) (hB : B ≤ w.heap.size) : Calls Tryz.prog 111 #[.pointer (some ⟨b, 0, none⟩)] w fun e w' => e = .returned (.string (strOfNums zs)) ∧ Below B w w' := by
  have S := Str.of_nums hz
  have e1 : zs.map (Value.int .u8) = Lib.byteCells (strOfNums zs).data.toList := by rw [← str_cells S]; rfl
  have h' : Lib.IsBuilder 186 5 B b (Lib.byteCells (strOfNums zs).data.toList) w := by rw [← e1]; exact h
  have q := Any.Builder_String_any { repLays with } jExtra B b (strOfNums zs).data.toList w h' hB
  have e2 : (⟨(strOfNums zs).data.toList.toArray⟩ : ByteArray) = strOfNums zs := by simp
  rw [e2] at q
  exact q
theorem bgrow_any (B b n : Nat) (w : World) (hB : B ≤ b) (hbk : w.heap[b]? = some (.cells #[.pointer none, .slice none 0 0] 186 (0, 0))) (hBw : B ≤ w.heap.size) (hn : n ≤ 281474976710656) : Calls Tryz.prog 140 #[.pointer (some ⟨b, 0, none⟩), .int .i64 n] w fun e w' => e = .returned (.tuple #[]) ∧ IsB B b [] w' ∧ Below B w w' := by
  refine (Any.Builder_Grow_fresh { repLays with } jExtra B b n w hB hbk hBw hn).mono ?_
  rintro e w' ⟨rfl, h1, h2⟩
  exact ⟨rfl, .inr h1, h2⟩

theorem rep_str (c : UInt8) (k : Nat) : Str ⟨(Lib.repeatL (#[c] : Array UInt8).toList k).toArray⟩ (List.replicate k (c.toNat : Int)) := by
  unfold Str
  simp only
  induction k with
  | zero => rfl
  | succ k ih =>
    rw [Lib.repeatL, List.replicate_succ]
    simpa using ih
theorem jrep (c : UInt8) (n : Nat) (w : World) (hn : n ≤ 100000) : Calls Tryz.prog 141 #[.string ⟨#[c]⟩, .int .i64 (n : Int)] w fun e w' => e = .returned (.string (strOfNums (Wh.rep (c.toNat : Int) (n : Int)))) ∧ Below w.heap.size w w' := by
  refine (Any.strings_Repeat repLays jExtra ⟨#[c]⟩ n w (by omega) (by have : (⟨#[c]⟩ : ByteArray).size = 1 := rfl; rw [this]; omega)).mono ?_
  rintro e w' ⟨rfl, hB⟩
  refine ⟨?_, hB⟩
  rw [Wh.rep, Int.toNat_natCast, ← str_is (rep_str c n)]
theorem jrep32 (n : Nat) (w : World) (hn : n ≤ 100000) : Calls Tryz.prog 141 #[.string ⟨#[32]⟩, .int .i64 (n : Int)] w fun e w' => e = .returned (.string (strOfNums (Wh.rep 32 (n : Int)))) ∧ Below w.heap.size w w' := jrep 32 n w hn
theorem jrep48 (n : Nat) (w : World) (hn : n ≤ 100000) : Calls Tryz.prog 141 #[.string ⟨#[48]⟩, .int .i64 (n : Int)] w fun e w' => e = .returned (.string (strOfNums (Wh.rep 48 (n : Int)))) ∧ Below w.heap.size w w' := jrep 48 n w hn

/-- A Builder of our own among what is new. -/
structure PS (w0 : World) (bb : Nat) (zs : List Int) (wk : World) : Prop where
  bel : Below w0.heap.size w0 wk
  isb : IsB bb bb zs wk
  sz : bb ≤ wk.heap.size
  lo : w0.heap.size ≤ bb
theorem PS.on {w0 wk w' : World} {bb : Nat} {zs : List Int} (h : PS w0 bb zs wk) (k : Below wk.heap.size wk w') : PS w0 bb zs w' :=
  ⟨below_on h.bel k, h.isb.below k, Nat.le_trans h.sz k.size, h.lo⟩
theorem PS.write {w0 wk : World} {bb : Nat} {zs : List Int} (h : PS w0 bb zs wk) (xs : List Int) (hx : Wh.By xs) (hl : zs.length + xs.length ≤ 140737488355328) :
    Calls Tryz.prog 110 #[.pointer (some ⟨bb, 0, none⟩), .string (strOfNums xs)] wk fun e w' => e = .returned (.tuple #[.int .i64 (strOfNums xs).size, .nilIface]) ∧ PS w0 bb (zs ++ xs) w' := by
  refine (bwrite_any bb bb zs xs _ wk h.isb (Str.of_nums hx) hl h.sz).mono ?_
  rintro e w' ⟨rfl, i, b⟩
  exact ⟨rfl, h.bel.trans (b.mono h.lo), i, Nat.le_trans h.sz b.size, h.lo⟩
theorem PS.str {w0 wk : World} {bb : Nat} {zs : List Int} (h : PS w0 bb zs wk) (hz : Wh.By zs) :
    Calls Tryz.prog 111 #[.pointer (some ⟨bb, 0, none⟩)] wk fun e w' => e = .returned (.string (strOfNums zs)) ∧ Below w0.heap.size w0 w' := by
  refine (bstr_any bb bb zs wk h.isb hz h.sz).mono ?_
  rintro e w' ⟨rfl, b⟩
  exact ⟨rfl, h.bel.trans (b.mono h.lo)⟩
theorem PS.grow {w0 w1 : World} (n : Nat) (h : Below w0.heap.size w0 w1) (hn : n ≤ 281474976710656) :
    Calls Tryz.prog 140 #[.pointer (some ⟨w1.heap.size, 0, none⟩), .int .i64 (n : Int)] (w1.alloc (.cells #[.pointer none, .slice none 0 0] 186)) fun e w' => e = .returned (.tuple #[]) ∧ PS w0 w1.heap.size [] w' := by
  have A := alloc_b w1 (.cells #[.pointer none, .slice none 0 0] 186)
  refine (bgrow_any w1.heap.size w1.heap.size n _ (Nat.le_refl _) (heap_alloc_new w1 _) A.size hn).mono ?_
  rintro e w' ⟨rfl, i, b⟩
  exact ⟨rfl, below_on h A |>.trans (b.mono h.size), i, Nat.le_trans A.size b.size, h.size⟩
end Go.Proofs.YtigmhnlcmhpepaaGreatDoor

namespace Go.Proofs.YtigmhnlcmhpepaaGreatDoor
open Go.RowKit Go.Deep Go.Shelf
theorem frepeat_any (c : Nat) (w : World) (hc : c ≤ 100000) :
    Calls Tryz.prog 141 #[.string ⟨#[48]⟩, .int .i64 (c : Int)] w fun e w' => ∃ s, e = .returned (.string s) ∧ Str s (List.replicate c 48) ∧ Below w.heap.size w w' := by
  refine (jrep48 c w hc).mono ?_
  rintro e w' ⟨rfl, hB⟩
  exact ⟨_, rfl, by have q := Str.of_nums (Wh.By.rep (c := 48) (n := (c : Int)) (by omega)); rw [Wh.rep, Int.toNat_natCast] at q ⊢; exact q, hB⟩
end Go.Proofs.YtigmhnlcmhpepaaGreatDoor
