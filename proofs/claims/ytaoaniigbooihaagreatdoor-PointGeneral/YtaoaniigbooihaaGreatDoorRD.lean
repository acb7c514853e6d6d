/-
  Texts put together: NRaise, VTrimL, NSTrim, NTrim, NUpward, NClone, NLimb, NRound, FKp, JPadN.
-/
import Derived.Test.YtaoaniigbooihaaGreatDoorNDv
import Derived.Deep.LoopGhost
import Derived.Test.YtaoaniigbooihaaGreatDoorVStr
import Derived.Test.YtaoaniigbooihaaGreatDoorNStr
import Derived.Test.YtaoaniigbooihaaGreatDoorWalk5a
import Derived.Deep.RegionWith
import Derived.Deep.CutRange
import Derived.Shelf.Pu.Clone
import Derived.Test.YtaoaniigbooihaaGreatDoorNDigit
import Derived.Test.YtaoaniigbooihaaGreatDoorRB
import Derived.Test.YtaoaniigbooihaaGreatDoorSmallA
import Derived.OwnWalk
import Derived.Test.YtaoaniigbooihaaGreatDoorFNum
namespace Go.Proofs.YtaoaniigbooihaaGreatDoor
open Go.RowKit Go.Deep

/-- A block of bytes of our own; a mark may stand behind its end. -/
def OwnF (w : World) (g : Nat) (zs : List Int) : Prop := ∃ lo hi, w.heap[g]? = some (.cells (zs.map (Value.int .u8)).toArray 5 (lo, hi)) ∧ zs.length ≤ lo

theorem OwnF.cell {w : World} {g : Nat} {zs : List Int} (h : OwnF w g zs) (i : Nat) (hi : i < zs.length) : w.cell? ⟨g, i, none⟩ = some (.int .u8 (zs.getD i 0)) := by
  obtain ⟨lo, k, h, _⟩ := h
  simp [World.cell?, h, List.getD, hi]

theorem OwnF.free {w : World} {g : Nat} {zs : List Int} (h : OwnF w g zs) (i : Nat) (hi : i < zs.length) : w.frozen? ⟨g, i, none⟩ = false := by
  obtain ⟨lo, k, h, hl⟩ := h
  simp [World.frozen?, h]
  omega

theorem OwnF.lt {w : World} {g : Nat} {zs : List Int} (h : OwnF w g zs) : g < w.heap.size := by
  obtain ⟨lo, k, h, _⟩ := h
  rcases Nat.lt_or_ge g w.heap.size with hl | hl
  · exact hl
  · simp [Array.getElem?_eq_none hl] at h

theorem OwnF.set {w : World} {g : Nat} {zs : List Int} (h : OwnF w g zs) (i : Nat) (s : Int) : OwnF (w.setCell ⟨g, i, none⟩ (.int .u8 s)) g (zs.set i s) := by
  have hl := h.lt
  obtain ⟨lo, k, h, hz⟩ := h
  exact ⟨lo, k, by simp [World.setCell, Array.getElem?_modify, h, List.map_set], by simpa using hz⟩

theorem OwnF.below {w w' : World} {B g : Nat} {zs : List Int} (h : OwnF w g zs) (hb : Below B w w') (hg : g < B) : OwnF w' g zs := by
  obtain ⟨lo, k, h, hz⟩ := h
  exact ⟨lo, k, by rw [hb.block g hg, h], hz⟩

/-- One unit of the last place more, and whether it was carried out. -/
def Raised (ds ds' : List Int) (c : Bool) : Prop := Digs ds' ∧ ds'.length = ds.length ∧ dv ds' + (if c then 10 ^ ds.length else 0) = dv ds + 1

theorem tail57 {es : List Int} {n j : Nat} (hn : n ≤ es.length) (hj : j ≤ n) (h : ∀ i, j ≤ i → i < n → es.getD i 0 = 57) : es.take n = es.take j ++ List.replicate (n - j) 57 := by
  apply List.ext_getElem?
  intro i
  by_cases h1 : i < j
  · rw [List.getElem?_append_left (by simp; omega), List.getElem?_take, List.getElem?_take, if_pos (by omega), if_pos h1]
  · by_cases h2 : i < n
    · have := h i (by omega) h2
      rw [List.getElem?_append_right (by simp; omega), List.getElem?_take, if_pos h2, List.getElem?_replicate, if_pos (by simp; omega)]
      rw [List.getElem?_eq_getElem (by omega)] at *
      simp [List.getD, List.getElem?_eq_getElem (show i < es.length by omega)] at this
      rw [this]
    · rw [List.getElem?_eq_none (by simp; omega), List.getElem?_eq_none (by simp; omega)]

theorem put_take (es : List Int) (o n : Nat) (xs : List Int) (h : o + xs.length = n) (hn : n ≤ es.length) : (put es o xs).take n = es.take o ++ xs := by
  unfold put
  rw [List.take_append_of_le_length (by simp; omega), List.take_of_length_le (by simp; omega)]

theorem raised_all {es : List Int} {n : Nat} (hn : n ≤ es.length) (h : ∀ i, 0 ≤ i → i < n → es.getD i 0 = 57) : Raised (es.take n) ((put es 0 (List.replicate n 48)).take n) true := by
  rw [put_take es 0 n _ (by simp) hn, tail57 hn (Nat.zero_le _) h]
  simp only [List.take_zero, List.nil_append, Nat.sub_zero]
  refine ⟨fun d hd => ?_, by simp, ?_⟩
  · have := List.eq_of_mem_replicate hd
    omega
  · rw [dv_zeros, dv_nines]
    simp

theorem raised_at {es : List Int} {n u : Nat} {x : Int} (hn : n ≤ es.length) (hu : u < n) (hx : es.getD u 0 = x) (hx1 : x ≠ 57) (hd : Digs (es.take n)) (h : ∀ i, u + 1 ≤ i → i < n → es.getD i 0 = 57) : Raised (es.take n) ((put es u ((x + 1) :: List.replicate (n - (u + 1)) 48)).take n) false := by
  have e1 : es.take (u + 1) = es.take u ++ [x] := by
    rw [List.take_add_one, ← hx]
    simp [List.getD, List.getElem?_eq_getElem (show u < es.length by omega)]
  have e2 := tail57 hn (by omega) h
  rw [e1] at e2
  have hxd := hd x (by rw [e2]; simp)
  rw [put_take es u n _ (by simp; omega) hn]
  refine ⟨fun d hm => ?_, by simp; omega, ?_⟩
  · rw [List.mem_append, List.mem_cons] at hm
    rcases hm with hm | hm | hm
    · exact hd d (by rw [e2]; simp [hm])
    · omega
    · have := List.eq_of_mem_replicate hm
      omega
  · rw [e2, dv_append, dv_cons, dv_zeros, List.append_assoc, dv_append, List.singleton_append, dv_cons, dv_nines]
    simp only [List.length_cons, List.length_replicate]
    rw [show (x + 1 - 48) = (x - 48) + 1 by omega, Int.add_mul]
    simp
    omega

def RaiseTold (g : Nat) (es : List Int) (n : Nat) (w : World) (e : Ending) (w' : World) : Prop :=
  ∃ c es', e = .returned (.bool c) ∧ OwnF w' g es' ∧ es'.length = es.length ∧ Raised (es.take n) (es'.take n) c ∧ Only g w w'

set_option maxRecDepth 100000 in
set_option maxHeartbeats 2000000 in
theorem raise_any (g n cap : Nat) (es : List Int) (w : World) (ho : OwnF w g es) (hn : n ≤ es.length) (hs : n ≤ 140737488351232) (hd : Digs (es.take n)) :
    Calls Tryz.prog 111 #[.slice (some ⟨g, 0, none⟩) n cap] w fun e w' => RaiseTold g es n w e w' := by
  have HO := hid ho
  have HN := hid hn
  have HD := hid hd
  have hsi : (n : Int) ≤ 140737488351232 := by omega
  clear ho hn hd
  go_enter Tryz.func111, Tryz.ntmps111
  go_wp2_with fail
  go_loopg [3] n (fun j i wr => i = .int .i64 ((j : Int) - 1) ∧ j ≤ n ∧ Hid (OwnF wr g (put es j (List.replicate (n - j) 48)) ∧ (∀ i, j ≤ i → i < n → es.getD i 0 = 57) ∧ Only g w wr))
  case atStart => exact ⟨rfl, Nat.le_refl _, by rw [Nat.sub_self]; simpa [put_nil] using HO.out, fun i h1 h2 => by omega, Only.refl _ _⟩
  case round =>
    obtain ⟨rfl, hj, I⟩ := hrel
    cases gk with
    | zero =>
      have F : Hid (RaiseTold g es n w (.returned (.bool true)) wr) := by
        refine ⟨true, _, rfl, I.out.1, ?_, ?_, I.out.2.2⟩
        · rw [put_length _ _ _ (by simp; have := HN.out; omega)]
        · exact raised_all HN.out I.out.2.1
      clear I
      go_wp2_with fail
      go_ret
      exact F.out
    | succ u =>
      rw [show ((u + 1 : Nat) : Int) - 1 = (u : Int) by omega]
      have hu : (u : Int) < (n : Int) := by omega
      have hl : (put es (u + 1) (List.replicate (n - (u + 1)) 48)).length = es.length := put_length _ _ _ (by simp; have := HN.out; omega)
      obtain ⟨x, X⟩ : ∃ x, Hid (es.getD u 0 = x) := ⟨_, rfl⟩
      have hx : wr.cell? ⟨g, u, none⟩ = some (.int .u8 x) := by
        rw [I.out.1.cell u (by rw [hl]; have := HN.out; omega), ← X.out]
        simp [put, List.getD, List.getElem?_append_left (show u < (es.take (u + 1)).length by simp; have := HN.out; omega)]
      have hf := I.out.1.free u (by rw [hl]; have := HN.out; omega)
      have hxd : 48 ≤ x ∧ x ≤ 57 := by
        have hlt : u < (es.take n).length := by simp; have := HN.out; omega
        have := HD.out _ (List.getElem_mem hlt)
        rw [← X.out]
        simpa [List.getD, List.getElem?_eq_getElem (show u < es.length by have := HN.out; omega)] using this
      obtain ⟨hx0, hx1⟩ := hxd
      by_cases h9 : x = 57
      · have F : Hid (OwnF (wr.setCell ⟨g, u, none⟩ (.int .u8 48)) g (put es u (List.replicate (n - u) 48)) ∧ (∀ i, u ≤ i → i < n → es.getD i 0 = 57) ∧ Only g w (wr.setCell ⟨g, u, none⟩ (.int .u8 48))) := by
          refine ⟨?_, fun i h1 h2 => ?_, I.out.2.2.trans (Only.set _ _)⟩
          · have := I.out.1.set u 48
            rw [put_head _ _ _ _ (by simp; have := HN.out; omega), ← List.replicate_succ, show n - (u + 1) + 1 = n - u by omega] at this
            exact this
          · by_cases e : i = u
            · subst e; rw [X.out]; exact h9
            · exact I.out.2.1 i (by omega) h2
        subst h9
        clear I hl
        go_wp2_with fail
        go_roundg u
        case measure => omega
        case rel => exact ⟨by go_num, by omega, F.out⟩
      · have h9' : (x == 57) = false := by rw [beq_eq_false_iff_ne]; exact h9
        have F : Hid (RaiseTold g es n w (.returned (.bool false)) (wr.setCell ⟨g, u, none⟩ (.int .u8 (x + 1)))) := by
          have o := I.out.1.set u (x + 1)
          rw [put_head _ _ _ _ (by simp; have := HN.out; omega)] at o
          refine ⟨false, _, rfl, o, ?_, ?_, I.out.2.2.trans (Only.set _ _)⟩
          · rw [put_length _ _ _ (by simp; have := HN.out; omega)]
          · exact raised_at HN.out (by omega) X.out h9 HD.out I.out.2.1
        clear I hl
        go_wp2_with fail
        go_ret
        exact F.out
end Go.Proofs.YtaoaniigbooihaaGreatDoor

namespace Go.Proofs.YtaoaniigbooihaaGreatDoor
open Go.RowKit Go.Deep

/-- s' is s without some zeros at its head, and opens with none. -/
def Bared (xs : List Int) (s' : ByteArray) (j : Nat) : Prop := Str s' (xs.drop j) ∧ j ≤ xs.length ∧ (∀ i, i < j → xs.getD i 0 = 48)

def STold (xs : List Int) (e : Ending) : Prop := ∃ s' j, e = .returned (.string s') ∧ Bared xs s' j ∧ (j < xs.length → xs.getD j 0 ≠ 48)

set_option maxRecDepth 100000 in
set_option maxHeartbeats 1000000 in
theorem strim1_any (s : ByteArray) (xs : List Int) (w : World) (hs : Str s xs) (hn1 : xs.length ≤ 562949953421312) :
    Calls Tryz.prog 128 #[.string s, .int .u8 48] w fun e w' => STold xs e ∧ w' = w := by
  have HS := hid hs
  have HN := hid hn1
  clear hs hn1
  go_enter Tryz.func128, Tryz.ntmps128
  go_wp2_with fail
  go_loop [0] (fun c => ∃ s' j, c = .string s' ∧ Hid (Bared xs s' j)) (fun c => match c with | .string s' => s'.size | _ => 0)
  case atStart => exact ⟨s, 0, rfl, HS.out, Nat.zero_le _, fun i hi => by omega⟩
  case round =>
    obtain ⟨s', j, rfl, I⟩ := hrel
    obtain ⟨m, HM⟩ : ∃ m, Hid (s'.size = m) := ⟨_, rfl⟩
    have hsz : s'.size = m := HM.out
    have hjm : Hid (j + m = xs.length) := by show _ = _; have := I.out.1.size; have := I.out.2.1; have := HM.out; simp at *; omega
    have hmb : (m : Int) ≤ 562949953421312 := by have := HN.out; have := hjm.out; omega
    by_cases h0 : m = 0
    · subst h0
      have F : Hid (STold xs (.returned (.string s'))) := ⟨s', j, rfl, I.out, fun h => by have := hjm.out; omega⟩
      clear I
      go_wp2_with fail
      go_ret
      exact ⟨F.out, rfl⟩
    · have hm : 0 < m := by omega
      have hmi : (0 : Int) < (m : Int) := by omega
      obtain ⟨x, X⟩ : ∃ x, Hid (xs.getD j 0 = x) := ⟨_, rfl⟩
      have hx : ∀ h : 0 < s'.size, ((s'[0]'h).toNat : Int) = x := fun h => by rw [I.out.1.at 0 h, ← X.out]; simp [List.getD]
      by_cases hd : x = 48
      · subst hd
        have F : Hid (Bared xs (s'.extract 1 s'.size) (j + 1)) := by
          refine ⟨?_, by have := hjm.out; omega, fun i hi => ?_⟩
          · have := I.out.1.extract 1 s'.size
            rw [List.drop_drop, List.take_of_length_le (by have := hjm.out; have := HM.out; simp; omega)] at this
            exact this
          · by_cases e : i = j
            · subst e; exact X.out
            · exact I.out.2.2 i (by omega)
        rw [hsz] at F
        have SZ : Hid ((s'.extract 1 m).size < s'.size) := by
          show _ < _
          have e1 := F.out.1.size
          have e2 := HM.out
          have e3 := hjm.out
          simp only [List.length_drop] at e1
          omega
        clear I
        go_wp2_with fail
        go_round
        case rel => exact ⟨_, _, rfl, F.out⟩
        case measure => exact SZ.out
      · have hd2 : (x == 48) = false := by rw [beq_eq_false_iff_ne]; exact hd
        have F : Hid (STold xs (.returned (.string s'))) := ⟨s', j, rfl, I.out, fun _ => by rw [X.out]; exact hd⟩
        clear I
        go_wp2_with fail
        go_ret
        exact ⟨F.out, rfl⟩

set_option maxRecDepth 100000 in
theorem strim_any (s : ByteArray) (xs : List Int) (w : World) (hs : Str s xs) (hn1 : xs.length ≤ 562949953421312) :
    Calls Tryz.prog 102 #[.string s, .string ⟨#[48]⟩] w fun e w' => STold xs e ∧ w' = w := by
  have T := hid (strim1_any s xs w hs hn1)
  by_cases h : xs = []
  · have F : Hid (STold xs (.returned (.string s))) := ⟨s, 0, rfl, ⟨by simpa using hs, Nat.zero_le _, fun i hi => by omega⟩, fun hlt => by rw [h] at hlt; simp at hlt⟩
    have hs0 : s = ⟨#[]⟩ := hs.inj (by rw [h]; rfl)
    subst hs0
    clear hs hn1 h
    go_enter Tryz.func102, Tryz.ntmps102
    go_wp2_with fail
    go_ret
    exact ⟨F.out, rfl⟩
  · have e0 := hs.eq (t := ⟨#[]⟩) (ys := []) rfl
    rw [decide_eq_false h] at e0
    have e1 : s.toList ≠ [] := by
      intro c
      apply h
      rw [ByteArray.toList_eq] at c
      rw [← hs, c]
      rfl
    have e2 : (s.toList == []) = false := by rw [beq_eq_false_iff_ne]; exact e1
    have e3 : s.toList.isEmpty = false := by rw [List.isEmpty_eq_false_iff]; exact e1
    clear hs hn1 h
    go_enter Tryz.func102, Tryz.ntmps102
    go_wp2_with fail
    refine T.out.mono ?_
    rintro e w' ⟨h1, rfl⟩
    obtain ⟨s', j, rfl, h2⟩ := h1
    have F : Hid (STold xs (.returned (.string s'))) := ⟨s', j, rfl, h2⟩
    clear h2 T
    go_wp2_with fail
    go_ret
    exact ⟨F.out, rfl⟩
end Go.Proofs.YtaoaniigbooihaaGreatDoor



namespace Go.Proofs.YtaoaniigbooihaaGreatDoor
open Go.RowKit Go.Deep

/-- s' is s without some zeros at its end, and ends with none. -/
def TailTold (xs : List Int) (e : Ending) : Prop := ∃ s' k, e = .returned (.string s') ∧ Str s' (xs.take k) ∧ k ≤ xs.length ∧ (∀ i, k ≤ i → i < xs.length → xs.getD i 0 = 48)

set_option maxRecDepth 100000 in
set_option maxHeartbeats 1000000 in
theorem rtrim_any (s : ByteArray) (xs : List Int) (w : World) (hs : Str s xs) (hn1 : xs.length ≤ 140737488355328) :
    Calls Tryz.prog 97 #[.string s, .int .u8 48] w fun e w' => TailTold xs e ∧ w' = w := by
  have HS := hid hs
  have HN := hid hn1
  clear hs hn1
  go_enter Tryz.func97, Tryz.ntmps97
  go_wp2_with fail
  go_loop [0] (fun c => ∃ s' m, c = .string s' ∧ Hid (Str s' (xs.take m) ∧ m ≤ xs.length ∧ s'.size = m ∧ (∀ i, m ≤ i → i < xs.length → xs.getD i 0 = 48))) (fun c => match c with | .string s' => s'.size | _ => 0)
  case atStart => exact ⟨s, xs.length, rfl, by rw [List.take_length]; exact HS.out, Nat.le_refl _, HS.out.size, fun i h1 h2 => by omega⟩
  case round =>
    obtain ⟨s', m, rfl, I⟩ := hrel
    have hsz : s'.size = m := I.out.2.2.1
    have hmb : (m : Int) ≤ 140737488355328 := by have := HN.out; have := I.out.2.1; omega
    by_cases h0 : m = 0
    · subst h0
      have F : Hid (TailTold xs (.returned (.string s'))) := ⟨s', 0, rfl, I.out.1, Nat.zero_le _, I.out.2.2.2⟩
      clear I
      go_wp2_with fail
      go_ret
      exact ⟨F.out, rfl⟩
    · obtain ⟨u, hu⟩ : ∃ u, m = u + 1 := ⟨m - 1, by omega⟩
      have hmi : (0 : Int) < (m : Int) := by omega
      have hmu : (m : Int) - 1 = (u : Int) := by omega
      have hum : (u : Int) < (m : Int) := by omega
      obtain ⟨x, X⟩ : ∃ x, Hid (xs.getD u 0 = x) := ⟨_, rfl⟩
      have hx : ∀ h : u < s'.size, ((s'[u]'h).toNat : Int) = x := fun h => by
        rw [I.out.1.at u h, ← X.out]
        simp [List.getD, show u < m by omega]
      have HU := hid hu
      by_cases hd : x = 48
      · subst hd
        have F : Hid (Str (s'.extract 0 u) (xs.take u) ∧ u ≤ xs.length ∧ (s'.extract 0 u).size = u ∧ (∀ i, u ≤ i → i < xs.length → xs.getD i 0 = 48)) := by
          have e := I.out.1.extract 0 u
          rw [List.drop_zero, Nat.sub_zero, List.take_take, show min u m = u by omega] at e
          refine ⟨e, by have := I.out.2.1; omega, by rw [e.size]; have := I.out.2.1; simp; omega, fun i h1 h2 => ?_⟩
          by_cases c : i = u
          · subst c; exact X.out
          · exact I.out.2.2.2 i (by omega) h2
        have SZ : Hid ((s'.extract 0 u).size < s'.size) := by show _ < _; rw [F.out.2.2.1, hsz]; omega
        clear I hu h0
        go_wp2_with fail
        go_round
        case rel => exact ⟨_, _, rfl, F.out⟩
        case measure => exact SZ.out
      · have hd2 : (x == 48) = false := by rw [beq_eq_false_iff_ne]; exact hd
        have F : Hid (TailTold xs (.returned (.string s'))) := ⟨s', m, rfl, I.out.1, I.out.2.1, I.out.2.2.2⟩
        clear I hu h0
        go_wp2_with fail
        go_ret
        exact ⟨F.out, rfl⟩

/-- Whether anything but zeros stands there. -/
def TrimTold (xs : List Int) (e : Ending) : Prop := ∃ s', e = .returned (.string s') ∧ (s'.toList = [] ↔ ∀ i, i < xs.length → xs.getD i 0 = 48)

theorem str_nil {s : ByteArray} {xs : List Int} (h : Str s xs) : s.toList = [] ↔ xs = [] := by
  rw [ByteArray.toList_eq]
  constructor
  · intro c
    rw [← h, c]
    rfl
  · intro c
    unfold Str at h
    rw [c] at h
    simpa using h

theorem trim_told {xs : List Int} {k : Nat} (h2 : k ≤ xs.length) (h3 : ∀ i, k ≤ i → i < xs.length → xs.getD i 0 = 48) {e : Ending} (h : STold (xs.take k) e) : TrimTold xs e := by
  obtain ⟨s', j, rfl, ⟨b1, b2, b3⟩, b4⟩ := h
  refine ⟨s', rfl, ?_⟩
  rw [str_nil b1]
  have hl : (xs.take k).length = k := by simp; omega
  have hg : ∀ i, i < k → (xs.take k).getD i 0 = xs.getD i 0 := fun i hi => by simp [List.getD, hi]
  rw [hl] at b2
  constructor
  · intro c
    have hj : k ≤ j := by
      have := congrArg List.length c
      simp at this
      omega
    intro i hi
    by_cases c1 : i < k
    · rw [← hg i c1]
      exact b3 i (by omega)
    · exact h3 i (by omega) hi
  · intro c
    apply List.drop_of_length_le
    rw [hl]
    rcases Nat.lt_or_ge j k with c1 | c1
    · exact absurd (by rw [hg j c1]; exact c j (by omega)) (b4 (by rw [hl]; exact c1))
    · exact c1

set_option maxRecDepth 100000 in
set_option maxHeartbeats 1000000 in
theorem trim0_any (s : ByteArray) (xs : List Int) (w : World) (hs : Str s xs) (hn1 : xs.length ≤ 140737488355328) :
    Calls Tryz.prog 138 #[.string s, .string ⟨#[48]⟩] w fun e w' => TrimTold xs e ∧ Below w.heap.size w w' := by
  by_cases h : xs = []
  · have F : Hid (TrimTold xs (.returned (.string s))) := ⟨s, rfl, by rw [str_nil hs, h]; simp⟩
    have hs0 : s = ⟨#[]⟩ := hs.inj (by rw [h]; rfl)
    subst hs0
    clear hs hn1 h
    go_enter Tryz.func138, Tryz.ntmps138
    go_wp2_with fail
    go_ret
    exact ⟨F.out, Below.refl _ _⟩
  · have e1 : s.toList ≠ [] := fun c => h ((str_nil hs).1 c)
    have e2 : (s.toList == []) = false := by rw [beq_eq_false_iff_ne]; exact e1
    have e3 : s.toList.isEmpty = false := by rw [List.isEmpty_eq_false_iff]; exact e1
    have R := hid (rtrim_any s xs w.drew hs hn1)
    have L : Hid (∀ (s1 : ByteArray) (k : Nat), Str s1 (xs.take k) → Calls Tryz.prog 128 #[.string s1, .int .u8 48] w.drew fun e w' => STold (xs.take k) e ∧ w' = w.drew) := fun s1 k h1 => strim1_any s1 (xs.take k) w.drew h1 (by simp; omega)
    clear hs hn1 h
    go_enter Tryz.func138, Tryz.ntmps138
    go_upto_region 4 with fail
    go_region_with (first | (go_at_call 97; refine R.out.mono ?_; rintro e w1 ⟨⟨s1, k, rfl, k1, k2, k3⟩, rfl⟩; have L1 := hid (L.out s1 k k1); have K2 := hid k2; have K3 := hid k3; clear k1 k2 k3) | (go_at_call 128; refine L1.out.mono ?_; rintro e w1 ⟨t1, rfl⟩; have F := hid (trim_told K2.out K3.out t1); obtain ⟨s2, j2, rfl, -⟩ := t1))
    all_goals (go_wp2_with fail; go_ret; exact ⟨F.out, below_drewN (Below.refl _ _) 1⟩)
end Go.Proofs.YtaoaniigbooihaaGreatDoor

namespace Go.Proofs.YtaoaniigbooihaaGreatDoor
open Go.RowKit Go.Deep

/-- Whether the kept digits ds are taken up by the dropped ones. -/
def UpIs (ds ys : List Int) (more u : Bool) : Prop :=
  (u = true → 10 ^ ys.length ≤ 2 * dv ys ∧ (2 * dv ys = 10 ^ ys.length → more = true ∨ dv ds % 2 = 1)) ∧ (u = false → 2 * dv ys ≤ 10 ^ ys.length ∧ (2 * dv ys = 10 ^ ys.length → more = false ∧ dv ds % 2 = 0))

theorem dv_first {y : Int} {rest : List Int} (h : Digs (y :: rest)) : ∃ P : Int, 0 < P ∧ (10 : Int) ^ (y :: rest).length = 10 * P ∧ dv (y :: rest) = (y - 48) * P + dv rest ∧ 0 ≤ dv rest ∧ dv rest < P := by
  have hr : Digs rest := fun d hd => h d (by simp [hd])
  have b := dv_bd hr
  refine ⟨10 ^ rest.length, Int.pow_pos (by omega), by rw [List.length_cons, Int.pow_succ, Int.mul_comm], dv_cons y rest, b.1, b.2⟩

theorem dv_zero_iff : ∀ {ds : List Int}, Digs ds → (dv ds = 0 ↔ ∀ i, i < ds.length → ds.getD i 0 = 48)
  | [], _ => by simp [dv, Dn.tv]
  | d :: ds, h => by
    have hr : Digs ds := fun e he => h e (by simp [he])
    have b := dv_bd hr
    have hd := h d (by simp)
    have hP : (0 : Int) < 10 ^ ds.length := Int.pow_pos (by omega)
    rw [dv_cons]
    constructor
    · intro c
      have h1 : 0 ≤ (d - 48) * 10 ^ ds.length := Int.mul_nonneg (by omega) (Int.le_of_lt hP)
      have h2 : (d - 48) * 10 ^ ds.length = 0 := by omega
      have h3 : d - 48 = 0 := by
        rcases Int.mul_eq_zero.1 h2 with e | e
        · exact e
        · omega
      have h4 : dv ds = 0 := by omega
      intro i hi
      cases i with
      | zero => simp; omega
      | succ i => simpa using (dv_zero_iff hr).1 h4 i (by simpa using hi)
    · intro c
      have h1 : d = 48 := by simpa using c 0 (by simp)
      have h2 : dv ds = 0 := (dv_zero_iff hr).2 (fun i hi => by simpa using c (i + 1) (by simpa using hi))
      rw [h1, h2]
      simp

theorem up_over {ds ys : List Int} {more : Bool} {y : Int} {rest : List Int} (hy : ys = y :: rest) (hd : Digs ys) (h : 53 < y) : UpIs ds ys more true := by
  subst hy
  obtain ⟨P, p1, p2, p3, p4, p5⟩ := dv_first hd
  have : 6 * P ≤ (y - 48) * P := Int.mul_le_mul_of_nonneg_right (by omega) (by omega)
  refine ⟨fun _ => ⟨by omega, fun c => by omega⟩, fun c => by cases c⟩

theorem up_under {ds ys : List Int} {more : Bool} {y : Int} {rest : List Int} (hy : ys = y :: rest) (hd : Digs ys) (h : y < 53) : UpIs ds ys more false := by
  subst hy
  obtain ⟨P, p1, p2, p3, p4, p5⟩ := dv_first hd
  have : (y - 48) * P ≤ 4 * P := Int.mul_le_mul_of_nonneg_right (by omega) (by omega)
  refine ⟨fun c => (by cases c), fun _ => ⟨by omega, fun c => by omega⟩⟩

theorem up_more {ds ys : List Int} {rest : List Int} (hy : ys = 53 :: rest) (hd : Digs ys) : UpIs ds ys true true := by
  subst hy
  obtain ⟨P, p1, p2, p3, p4, p5⟩ := dv_first hd
  refine ⟨fun _ => ⟨by omega, fun c => .inl rfl⟩, fun c => by cases c⟩

theorem up_rest {ds ys : List Int} {more : Bool} {rest : List Int} (hy : ys = 53 :: rest) (hd : Digs ys) (h : dv rest ≠ 0) : UpIs ds ys more true := by
  subst hy
  obtain ⟨P, p1, p2, p3, p4, p5⟩ := dv_first hd
  refine ⟨fun _ => ⟨by omega, fun c => by omega⟩, fun c => by cases c⟩

theorem up_half {ds ys : List Int} {rest : List Int} (hy : ys = 53 :: rest) (hd : Digs ys) (h : dv rest = 0) {u : Bool} (hu : u = decide (dv ds % 2 = 1)) : UpIs ds ys false u := by
  subst hy
  obtain ⟨P, p1, p2, p3, p4, p5⟩ := dv_first hd
  refine ⟨fun c => ⟨by omega, fun _ => .inr ?_⟩, fun c => ⟨by omega, fun _ => ⟨rfl, ?_⟩⟩⟩
  · rw [c] at hu
    exact of_decide_eq_true hu.symm
  · rw [c] at hu
    have := of_decide_eq_false hu.symm
    omega

theorem dv_last {ds : List Int} {n : Nat} (hn : ds.length = n + 1) : dv ds % 2 = ds.getD n 0 % 2 := by
  have e : ds = ds.take n ++ [ds.getD n 0] := by
    have h := List.take_append_drop n ds
    rw [List.drop_eq_getElem_cons (by omega), List.drop_of_length_le (by omega)] at h
    simpa [List.getD, show n < ds.length by omega] using h.symm
  generalize ds.getD n 0 = x at *
  rw [e, dv_append, dv_cons]
  simp [dv, Dn.tv]
  omega

def UpTold (ds ys : List Int) (more : Bool) (e : Ending) : Prop := ∃ u, e = .returned (.bool u) ∧ UpIs ds ys more u

set_option maxRecDepth 100000 in
set_option maxHeartbeats 2000000 in
theorem upward_any (g n cap : Nat) (es ys : List Int) (sd : ByteArray) (more : Bool) (w : World) (ho : OwnF w g es) (hn : n ≤ es.length) (hnb : n ≤ 140737488351232) (hs : Str sd ys) (hy0 : ys ≠ []) (hyb : ys.length ≤ 140737488351232) (hd : Digs ys) (hde : Digs (es.take n)) :
    Calls Tryz.prog 110 #[.slice (some ⟨g, 0, none⟩) n cap, .string sd, .bool more] w fun e w' => UpTold (es.take n) ys more e ∧ Below w.heap.size w w' := by
  obtain ⟨y, rest, hys⟩ := List.exists_cons_of_ne_nil hy0
  obtain ⟨m, HM⟩ : ∃ m, Hid (ys.length = m) := ⟨_, rfl⟩
  have hsz : sd.size = m := by rw [hs.size, HM.out]
  have hm0 : 0 < m := by have := HM.out; rw [hys] at this; simp at this; omega
  have hmi : (0 : Int) < (m : Int) := by omega
  have hmb : (m : Int) ≤ 140737488351232 := by have := HM.out; omega
  have hx : ∀ h : 0 < sd.size, ((sd[0]'h).toNat : Int) = y := fun h => by rw [hs.at 0 h, hys]; rfl
  have hyd := hd y (by rw [hys]; simp)
  have SR : Str (sd.extract 1 m) rest := by
    have := hs.extract 1 m
    rw [hys, List.drop_succ_cons, List.drop_zero, List.take_of_length_le (by have := HM.out; rw [hys] at this; simp at this; omega)] at this
    exact this
  have TR := hid (trim0_any (sd.extract 1 m) rest w SR (by have := HM.out; rw [hys] at this; simp at this; omega))
  have HY := hid hys
  have HD := hid hd
  have HO := hid ho
  have HN := hid hn
  have hnbi : (n : Int) ≤ 140737488351232 := by omega
  obtain ⟨hyd0, hyd1⟩ := hyd
  clear ho hn hs hy0 hyb hys SR hd
  rcases (show 53 < y ∨ y < 53 ∨ y = 53 by omega) with h | h | h
  · have F := hid (up_over (ds := es.take n) (more := more) HY.out HD.out h)
    have hne : (y == 53) = false := by rw [beq_eq_false_iff_ne]; omega
    go_enter Tryz.func110, Tryz.ntmps110
    go_wp2_with fail
    go_ret
    exact ⟨⟨_, rfl, F.out⟩, Below.refl _ _⟩
  · have F := hid (up_under (ds := es.take n) (more := more) HY.out HD.out h)
    have hne : (y == 53) = false := by rw [beq_eq_false_iff_ne]; omega
    have hnl : ¬ 53 < y := by omega
    go_enter Tryz.func110, Tryz.ntmps110
    go_wp2_with fail
    go_ret
    exact ⟨⟨_, rfl, F.out⟩, Below.refl _ _⟩
  · subst h
    cases more with
    | true =>
      have F := hid (up_more (ds := es.take n) HY.out HD.out)
      go_enter Tryz.func110, Tryz.ntmps110
      go_wp2_with fail
      go_ret
      exact ⟨⟨_, rfl, F.out⟩, Below.refl _ _⟩
    | false =>
      go_enter Tryz.func110, Tryz.ntmps110
      go_wp2_with fail
      refine TR.out.mono ?_
      rintro e w1 ⟨⟨s', rfl, hz⟩, d1⟩
      have D1 := hid d1
      have hr : Digs rest := fun d hd => HD.out d (by rw [HY.out]; simp [hd])
      have zi := dv_zero_iff hr
      by_cases hzr : dv rest = 0
      · have e1 : s'.toList = [] := hz.2 (zi.1 hzr)
        have UH := hid (fun (u : Bool) (hu : u = decide (dv (es.take n) % 2 = 1)) => up_half (ds := es.take n) HY.out HD.out hzr hu)
        have O1 := hid (HO.out.below d1 HO.out.lt)
        clear hz zi hr d1 TR hzr
        cases n with
        | zero =>
          have F := hid (UH.out false (by simp [dv, Dn.tv]))
          go_wp2_with fail
          go_ret
          exact ⟨⟨_, rfl, F.out⟩, D1.out⟩
        | succ k =>
          obtain ⟨N, HNk⟩ : ∃ N, Hid (k + 1 = N) := ⟨_, rfl⟩
          have hNk : (N : Int) - 1 = (k : Int) := by have := HNk.out; omega
          have hkN : (k : Int) < (N : Int) := by have := HNk.out; omega
          have hN0 : (0 : Int) < (N : Int) := by have := HNk.out; omega
          have hNb : (N : Int) ≤ 140737488351232 := by have := HNk.out; omega
          obtain ⟨x, X⟩ : ∃ x, Hid (es.getD k 0 = x) := ⟨_, rfl⟩
          have hc : w1.cell? ⟨g, k, none⟩ = some (.int .u8 x) := by rw [O1.out.cell k (by have := HN.out; omega), X.out]
          have LP : Hid (dv (es.take (k + 1)) % 2 = x % 2) := by
            show _ = _
            rw [dv_last (n := k) (by simp; have := HN.out; omega), ← X.out]
            simp [List.getD]
          rw [HNk.out] at UH LP ⊢
          have x0 : 0 ≤ x ∧ x < 256 := by
            have hlt : k < (es.take (k + 1)).length := by simp; have := HN.out; omega
            have := hde _ (List.getElem_mem hlt)
            have e : (es.take (k + 1))[k] = x := by rw [← X.out]; simp [List.getD, List.getElem?_eq_getElem (show k < es.length by have := HN.out; omega)]
            rw [e] at this
            omega
          obtain ⟨b, hb⟩ : ∃ b, x % 2 = b := ⟨_, rfl⟩
          have hb2 : x.tmod 2 = b := by rw [Int.tmod_eq_emod_of_nonneg x0.1]; exact hb
          have q1 : IntKind.i64.wrap ((N : Int) - 1) = (k : Int) := by rw [IntKind.wrap_i64]; omega
          have q2 : IntKind.i64.wrap (k : Int) = (k : Int) := by rw [IntKind.wrap_i64]; omega
          have b01 : b = 1 ∨ b = 0 := by omega
          clear hNb hnb hnbi hde
          rcases b01 with c | c
          · subst c
            have F := hid (UH.out true (by rw [LP.out, hb]; rfl))
            clear UH
            go_wp2_with fail
            go_ret
            exact ⟨⟨_, rfl, by have h := F.out; rw [← HNk.out] at h; exact h⟩, D1.out⟩
          · subst c
            have F := hid (UH.out false (by rw [LP.out, hb]; rfl))
            clear UH
            go_wp2_with fail
            go_ret
            exact ⟨⟨_, rfl, by have h := F.out; rw [← HNk.out] at h; exact h⟩, D1.out⟩
      · have e1 : s'.toList ≠ [] := fun c => hzr (zi.2 (hz.1 c))
        have e2 : (s'.toList == []) = false := by rw [beq_eq_false_iff_ne]; exact e1
        have e3 : s'.toList.isEmpty = false := by rw [List.isEmpty_eq_false_iff]; exact e1
        have F := hid (up_rest (ds := es.take n) (more := false) HY.out HD.out hzr)
        clear hz zi hr d1 TR hzr
        go_wp2_with fail
        go_ret
        exact ⟨⟨_, rfl, F.out⟩, D1.out⟩
end Go.Proofs.YtaoaniigbooihaaGreatDoor

namespace Go.Proofs.YtaoaniigbooihaaGreatDoor
open Go.RowKit Go.Deep Go.Shelf

def cloneRen : Go.Shelf.Ren := ⟨fun _ => 127, fun t => if t = 37 then 47 else if t = 47 then 130 else if t = 5 then 5 else if t = 9 then 9 else if t = 3 then 3 else t, fun g => g⟩
theorem cloneLays : LaysPu.n25 Tryz.prog cloneRen where
  mixed := by kernel_rfl
  f25 := by kernel_rfl
  t0 := by kernel_rfl
  a0 := fun _ => by kernel_rfl
  z0 := fun _ => by kernel_rfl
  v0 := fun _ => by kernel_rfl
  i0 := by kernel_rfl
  t3 := by kernel_rfl
  a3 := fun _ => by kernel_rfl
  z3 := fun _ => by kernel_rfl
  v3 := fun _ => by kernel_rfl
  i3 := by kernel_rfl
  t4 := by kernel_rfl
  a4 := fun _ => by kernel_rfl
  z4 := fun _ => by kernel_rfl
  v4 := fun _ => by kernel_rfl
  i4 := by kernel_rfl
  t5 := by kernel_rfl
  a5 := fun _ => by kernel_rfl
  z5 := fun _ => by kernel_rfl
  v5 := fun _ => by kernel_rfl
  i5 := by kernel_rfl
  t9 := by kernel_rfl
  a9 := fun _ => by kernel_rfl
  z9 := fun _ => by kernel_rfl
  v9 := fun _ => by kernel_rfl
  i9 := by kernel_rfl
  t37 := by kernel_rfl
  a37 := fun _ => by kernel_rfl
  z37 := fun _ => by kernel_rfl
  v37 := fun _ => by kernel_rfl
  i37 := by kernel_rfl
  t47 := by kernel_rfl
  a47 := fun _ => by kernel_rfl
  z47 := fun _ => by kernel_rfl
  v47 := fun _ => by kernel_rfl
  i47 := by kernel_rfl

theorem clone_any (s : ByteArray) (w : World) (hs : s.size ≤ 140737488355328) : Calls Tryz.prog 101 #[.string s] w fun e w' => e = .returned (.string s) ∧ Below w.heap.size w w' := by
  have C : Hid (Calls Tryz.prog 127 #[.string s] w fun e w' => e = .returned (.string s) ∧ Below w.heap.size w w') := AnyPu.stringslite_Clone cloneLays s w (by omega)
  go_enter Tryz.func101, Tryz.ntmps101
  go_wp2_with fail
  refine C.out.mono ?_
  rintro e w1 ⟨rfl, d1⟩
  have D := hid d1
  clear d1
  go_wp2_with fail
  go_ret
  exact ⟨rfl, D.out⟩
end Go.Proofs.YtaoaniigbooihaaGreatDoor

namespace Go.Proofs.YtaoaniigbooihaaGreatDoor
open Go.RowKit Go.Deep

theorem bytes_cells {s : ByteArray} {xs : List Int} (hs : Str s xs) (w : World) (cap : Nat) (fr : Nat × Nat) (i : Nat) (hi : i < xs.length) : (w.drew.alloc (.cells (bytesRow s cap) 5 fr)).cell? ⟨w.heap.size, i, none⟩ = some (.int .u8 (xs.getD i 0)) := by
  have h1 := World.cell?_alloc_mark w.drew (bytesRow s cap) 5 fr i
  have hi2 : i < s.data.size := by have := hs.size; have e : s.size = s.data.size := rfl; omega
  rw [show w.drew.heap.size = w.heap.size from rfl, bytesRow_at s cap i hi2] at h1
  rw [h1, ← hs.at i hi2]
  rfl

theorem tv_take_succ (B : Int) (ys : List Int) (j : Nat) (hj : j < ys.length) : Dn.tv B 0 (ys.take (j + 1)) = Dn.tv B 0 (ys.take j) * B + ys.getD j 0 := by
  rw [List.take_add_one, List.getElem?_eq_getElem hj, Dn.tv_append]
  simp [Dn.tv, List.getD, hj]

set_option maxRecDepth 100000 in
set_option maxHeartbeats 1000000 in
theorem limb_any (s : ByteArray) (xs : List Int) (n W : Nat) (B : Int) (w : World) (hs : Str s xs) (hn : xs.length = n) (hnW : n ≤ W) (hW : W ≤ 63) (h2 : 2 ≤ B) (h36 : B ≤ 36) (hBW : B ^ W < 18446744073709551616) (hd : ∀ i, i < xs.length → wv (xs.getD i 0) < B) :
    Calls Tryz.prog 292 #[.string s, .int .u64 B] w fun e w' => e = .returned (.int .u64 (Dn.tv B 0 (xs.map wv))) ∧ Below w.heap.size w w' := by
  have CV := run_bytes_of_string (P := Tryz.prog) w 9 47 5 s Tryz.underlying9 Tryz.underlying47 Tryz.underlying5
  have hsz : s.size = n := by rw [hs.size, hn]
  rw [hsz] at CV
  obtain ⟨cap, hcap⟩ : ∃ cap, grownCap w n 0 5 = cap := ⟨_, rfl⟩
  rw [hcap] at CV
  have CE := hid (fun i hi => bytes_cells hs w cap ((bytesRow s cap).size, (bytesRow s cap).size + 1) i hi)
  have BW : Below w.heap.size w (w.drew.alloc (.cells (bytesRow s cap) 5 ((bytesRow s cap).size, (bytesRow s cap).size + 1))) := (below_drewN (Below.refl _ _) 1).alloc (Nat.le_refl _) _
  obtain ⟨w1, hw1⟩ : ∃ w1, w.drew.alloc (.cells (bytesRow s cap) 5 ((bytesRow s cap).size, (bytesRow s cap).size + 1)) = w1 := ⟨_, rfl⟩
  rw [hw1] at CV CE BW
  have HS := hid hs
  have HN := hid hn
  have HD := hid hd
  have D1 := hid BW
  have HB : ShutG (B ^ W < 18446744073709551616) := ⟨hBW⟩
  clear hs hn hd BW hw1 hcap hBW
  go_enter Tryz.func292, Tryz.ntmps292
  go_wp2_with fail
  go_loop [5, 7, 11] (fun a _ c => ∃ (j : Nat) (A : Int), a = .int .u64 A ∧ c = .int .i64 (j : Int) ∧ j ≤ n ∧ Hid (A = Dn.tv B 0 ((xs.map wv).take j))) (fun _ _ c => n - (intOf c).toNat)
  case atStart => exact ⟨0, 0, rfl, rfl, Nat.zero_le _, by simp [Hid, Dn.tv]⟩
  case round =>
    obtain ⟨j, A, rfl, rfl, hj, I⟩ := hrel
    have hn63 : (n : Int) ≤ 63 := by omega
    by_cases hlt : j < n
    · have hji : (j : Int) < (n : Int) := by omega
      obtain ⟨x, hx, X⟩ : ∃ x, w1.cell? ⟨w.heap.size, j, none⟩ = some (.int .u8 x) ∧ Hid (x = xs.getD j 0) := ⟨_, CE.out j (by have := HN.out; omega), rfl⟩
      have hxb := HS.out.atb j
      rw [← X.out] at hxb
      obtain ⟨v, V⟩ : ∃ v, Hid (wv x = v) := ⟨_, rfl⟩
      have WO := hid (worth_any x w1 hxb.1 hxb.2)
      rw [V.out] at WO
      have hv0 : 0 ≤ v := by have := (wv_bd x).1; have := V.out; omega
      have ST := tv_take_succ B (xs.map wv) j (by have := HN.out; simp; omega)
      have e0 : (xs.map wv).getD j 0 = v := by
        rw [← V.out, X.out]
        have : j < xs.length := by have := HN.out; omega
        simp [List.getD, this]
      rw [e0, ← I.out] at ST
      have dig : ∀ d ∈ (xs.map wv), 0 ≤ d ∧ d < B := by
        intro d hd
        obtain ⟨y, hy, rfl⟩ := List.mem_map.1 hd
        obtain ⟨i, hi, rfl⟩ := List.getElem_of_mem hy
        have := HD.out i hi
        simp only [List.getD, List.getElem?_eq_getElem hi, Option.getD_some] at this
        exact ⟨(wv_bd _).1, this⟩
      have hA0 : 0 ≤ A := by rw [I.out]; exact Dn.tv_nonneg (by omega) 0 _ (by omega) (fun d hd => (dig d (List.mem_of_mem_take hd)).1)
      have hlt2 : A * B + v < 18446744073709551616 := by
        rw [← ST]
        have h1 := Dn.tv_lt (show 0 < B by omega) ((xs.map wv).take (j + 1)) (fun d hd => dig d (List.mem_of_mem_take hd))
        have h3 := Pn.pow_mono (show 1 ≤ B by omega) (show ((xs.map wv).take (j + 1)).length ≤ W by simp; omega)
        have h4 := HB.out
        omega
      have hC0 : 0 ≤ A * B := Int.mul_nonneg hA0 (by omega)
      obtain ⟨C, HC⟩ : ∃ C, Hid (A * B = C) := ⟨_, rfl⟩
      rw [HC.out] at hlt2 hC0 ST
      have q1 : IntKind.u64.wrap (A * B) = C := by rw [HC.out, IntKind.wrap_u64]; omega
      have I2 := hid ST.symm
      clear I ST dig e0 hxb
      go_wp2_with fail
      refine WO.out.mono ?_
      rintro e w' ⟨rfl, rfl⟩
      clear WO
      go_wp2_with fail
      go_round
      case rel => exact ⟨j + 1, C + v, rfl, by go_num, by omega, I2.out⟩
      case measure => simp [intOf]; omega
    · obtain rfl : j = n := by omega
      have F : Hid (A = Dn.tv B 0 (xs.map wv)) := by
        have := I.out
        rw [List.take_of_length_le (by have := HN.out; simp; omega)] at this
        exact this
      clear I
      go_wp2_with fail
      go_ret
      exact ⟨by rw [← F.out]; rfl, D1.out⟩
end Go.Proofs.YtaoaniigbooihaaGreatDoor

namespace Go.Proofs.YtaoaniigbooihaaGreatDoor
open Go.RowKit Go.Deep

/-- The rounded row. -/
def Rounded (xs ds : List Int) (k : Nat) (more c : Bool) : Prop :=
  Digs ds ∧ ds.length = k ∧ ∃ u, UpIs (xs.take k) (xs.drop k) more u ∧ dv ds + (if c then 10 ^ k else 0) = dv (xs.take k) + (if u then 1 else 0)

def RoundTold (s : ByteArray) (xs : List Int) (keep : Int) (more : Bool) (e : Ending) : Prop :=
  ((xs.length : Int) ≤ keep → e = .returned (.tuple #[.string s, .bool false, .int .i64 0])) ∧
  (keep < (xs.length : Int) → ∃ s' ds c, e = .returned (.tuple #[.string s', .bool c, .int .i64 0]) ∧ Str s' ds ∧ Rounded xs ds keep.toNat more c)



theorem bytes_own {s : ByteArray} {xs : List Int} (hs : Str s xs) (w : World) (cap : Nat) : OwnF (w.drew.alloc (.cells (bytesRow s cap) 5 ((bytesRow s cap).size, (bytesRow s cap).size + 1))) w.heap.size (xs ++ List.replicate (cap - xs.length) 0) := by
  have e : bytesRow s cap = ((xs ++ List.replicate (cap - xs.length) 0).map (Value.int .u8)).toArray := by
    unfold bytesRow
    rw [hs.size]
    apply Array.toList_inj.1
    rw [← hs]
    simp
  refine ⟨(bytesRow s cap).size, (bytesRow s cap).size + 1, ?_, ?_⟩
  · show (w.heap.push _)[w.heap.size]? = _
    rw [Array.getElem?_push, if_pos rfl, ← e]
  · rw [e]
    simp

set_option maxRecDepth 100000 in
set_option maxHeartbeats 4000000 in
theorem round_any (s : ByteArray) (xs : List Int) (keep : Int) (more : Bool) (w : World) (hs : Str s xs) (h0 : xs ≠ []) (hd : Digs xs) (hl : xs.length ≤ 140737488351232) (hk : 0 ≤ keep) (hk1 : keep ≤ 9223372036854775807) :
    Calls Tryz.prog 77 #[.string s, .int .i64 keep, .bool more] w fun e w' => RoundTold s xs keep more e ∧ Below w.heap.size w w' := by
  obtain ⟨n, HN⟩ : ∃ n, Hid (xs.length = n) := ⟨_, rfl⟩
  have hsz : s.size = n := by rw [hs.size, HN.out]
  have e1 : s.toList ≠ [] := fun c => h0 ((str_nil hs).1 c)
  have e2 : (s.toList == []) = false := by rw [beq_eq_false_iff_ne]; exact e1
  have e3 : s.toList.isEmpty = false := by rw [List.isEmpty_eq_false_iff]; exact e1
  have WR : Hid (Calls Tryz.prog 109 #[.string s, .int .u64 10] w fun e w' => e = .returned (.int .i64 (-1)) ∧ w' = w) := by
    refine (wrong_any s xs xs.length 10 w hs rfl (by omega)).mono ?_
    rintro e w' ⟨⟨r, rfl, k⟩, rfl⟩
    cases k with
    | none _ => exact ⟨rfl, rfl⟩
    | here t h1 h2 h3 =>
      exfalso
      have := digs_at hd t h1
      rw [wv_dig this] at h3
      omega
  by_cases hge : (n : Int) ≤ keep
  · have CL := hid (clone_any s w (by rw [hsz]; have := HN.out; omega))
    have F : Hid (RoundTold s xs keep more (.returned (.tuple #[.string s, .bool false, .int .i64 0]))) := ⟨fun _ => rfl, fun c => by have := HN.out; omega⟩
    clear hs h0 hd hl
    go_enter Tryz.func77, Tryz.ntmps77
    go_wp2_with fail
    refine WR.out.mono ?_
    rintro e w' ⟨rfl, rfl⟩
    go_wp2_with fail
    refine CL.out.mono ?_
    rintro e w1 ⟨rfl, d1⟩
    have D1 := hid d1
    clear d1
    go_wp2_with fail
    go_ret3
    exact ⟨F.out, D1.out⟩
  · have hlt : keep < (n : Int) := by omega
    obtain ⟨k, HK⟩ : ∃ k, Hid (keep.toNat = k) := ⟨_, rfl⟩
    have hkk : keep = (k : Int) := by have := HK.out; omega
    have hkn : k < n := by omega
    have ST := hs.extract 0 k
    rw [List.drop_zero, Nat.sub_zero] at ST
    have SD := hs.extract k n
    rw [List.take_of_length_le (by have := HN.out; simp; omega)] at SD
    have hz1 : (s.extract 0 k).size = k := by rw [ST.size]; have := HN.out; simp; omega
    have CV := run_bytes_of_string (P := Tryz.prog) w 9 47 5 (s.extract 0 k) Tryz.underlying9 Tryz.underlying47 Tryz.underlying5
    rw [hz1] at CV
    obtain ⟨cap, hcap⟩ : ∃ cap, grownCap w k 0 5 = cap := ⟨_, rfl⟩
    rw [hcap] at CV
    have OF := bytes_own ST w cap
    have BW : Below w.heap.size w (w.drew.alloc (.cells (bytesRow (s.extract 0 k) cap) 5 ((bytesRow (s.extract 0 k) cap).size, (bytesRow (s.extract 0 k) cap).size + 1))) := (below_drewN (Below.refl _ _) 1).alloc (Nat.le_refl _) _
    obtain ⟨w1, hw1⟩ : ∃ w1, w.drew.alloc (.cells (bytesRow (s.extract 0 k) cap) 5 ((bytesRow (s.extract 0 k) cap).size, (bytesRow (s.extract 0 k) cap).size + 1)) = w1 := ⟨_, rfl⟩
    rw [hw1] at CV OF BW
    obtain ⟨es, hes⟩ : ∃ es, xs.take k ++ List.replicate (cap - (xs.take k).length) 0 = es := ⟨_, rfl⟩
    rw [hes] at OF
    have htk : (xs.take k).length = k := by have := HN.out; simp; omega
    have est : es.take k = xs.take k := by rw [← hes, List.take_append_of_le_length (by omega), List.take_of_length_le (by omega)]
    have esl : k ≤ es.length := by rw [← hes]; simp; have := HN.out; omega
    have dk : Digs (es.take k) := by rw [est]; exact fun d h => hd d (List.mem_of_mem_take h)
    have UP := hid (upward_any w.heap.size k cap es (xs.drop k) (s.extract k n) more w1 OF esl (by have := HN.out; omega) SD (fun c => by have := congrArg List.length c; have := HN.out; simp at *; omega) (by simp; omega) (fun d h => hd d (List.mem_of_mem_drop h)) dk)
    rw [est] at UP
    have EST := hid est
    have ESL := hid esl
    have HOF := hid OF
    have D1 := hid BW
    have DK := hid dk
    have FIN : Hid (∀ (W : World) (fs : List Int) (c u : Bool), OwnF W w.heap.size fs → k ≤ fs.length → UpIs (xs.take k) (xs.drop k) more u → Digs (fs.take k) → dv (fs.take k) + (if c then 10 ^ k else 0) = dv (xs.take k) + (if u then 1 else 0) →
        (convert 47 9 (.slice (some ⟨w.heap.size, 0, none⟩) k cap)).run Tryz.prog W = .ok (.string (strOfNums (fs.take k))) W ∧ RoundTold s xs keep more (.returned (.tuple #[.string (strOfNums (fs.take k)), .bool c, .int .i64 0]))) := by
      intro W fs c u o hl h1 h2 h3
      have hlen : (fs.take k).length = k := by simp; omega
      refine ⟨run_convert_bytes_arg (P := Tryz.prog) W 47 5 Tryz.underlying47 Tryz.underlying5 w.heap.size 0 k cap (fs.take k) hlen (fun i hi => ?_) 9 Tryz.underlying9, fun c => by have := HN.out; omega, fun _ => ⟨_, fs.take k, c, rfl, Str.of_nums (fun x hx => by have := h2 x hx; omega), ?_⟩⟩
      · rw [Nat.zero_add, o.cell i (by omega)]
        simp [List.getD, hi]
      · rw [HK.out]
        exact ⟨h2, hlen, u, h1, h3⟩
    have hkni : (k : Int) < (n : Int) := by omega
    have hnb : (n : Int) ≤ 140737488351232 := by have := HN.out; omega
    subst hkk
    clear hs h0 hd hl hlt hge ST SD OF BW hes est esl htk dk hw1 hcap hk1 hk
    go_enter Tryz.func77, Tryz.ntmps77
    go_wp2_with fail
    refine WR.out.mono ?_
    rintro e w' ⟨rfl, rfl⟩
    go_wp2_with fail
    refine UP.out.mono ?_
    rintro e w2 ⟨⟨u, rfl, hu⟩, d2⟩
    have O2 := hid (HOF.out.below d2 HOF.out.lt)
    have D2 := hid (chain D1.out d2 (Nat.le_refl _))
    have HU := hid hu
    clear hu d2 UP
    cases u with
    | false =>
      obtain ⟨cv, rt⟩ := FIN.out w2 es false false O2.out ESL.out HU.out DK.out (by rw [EST.out]; simp)
      have RT := hid rt
      clear rt FIN
      go_wp2_with fail
      go_ret3
      exact ⟨RT.out, D2.out⟩
    | true =>
      have RA := hid (raise_any w'.heap.size k cap es w2 O2.out ESL.out (by omega) DK.out)
      have HG : Hid (w'.heap.size ≤ w2.heap.size) := D2.out.size
      go_wp2_with fail
      refine RA.out.mono ?_
      rintro e w3 ⟨c, fs, rfl, o3, l3, r3, n3⟩
      have D3 : Hid (Below w'.heap.size w' w3) := D2.out.trans (n3.below (Nat.le_refl _) HG.out)
      rw [EST.out] at r3
      have hx : (es.take k).length = (xs.take k).length := by rw [EST.out]
      have hl1 : (xs.take k).length = k := by rw [← hx]; have := ESL.out; simp; omega
      obtain ⟨cv, rt⟩ := FIN.out w3 fs c true o3 (by have := ESL.out; omega) HU.out r3.1 (by have := r3.2.2; rw [hl1] at this; simpa using this)
      have RT := hid rt
      clear rt FIN o3 l3 r3 n3 RA hx hl1
      go_wp2_with fail
      go_ret3
      exact ⟨RT.out, D3.out⟩
end Go.Proofs.YtaoaniigbooihaaGreatDoor

namespace Go.Proofs.YtaoaniigbooihaaGreatDoor
open Go.RowKit Go.Deep
namespace Fx

/-- Whether the digits behind the first k take them up. -/
def up (xs : List Int) (k : Nat) : Bool := decide (10 ^ (xs.length - k) < 2 * dv (xs.drop k) ∨ (2 * dv (xs.drop k) = 10 ^ (xs.length - k) ∧ dv (xs.take k) % 2 = 1))
/-- The number of the first k digits, rounded. -/
def rn (xs : List Int) (k : Nat) : Int := dv (xs.take k) + if up xs k = true then 1 else 0
/-- .. and its digits. -/
def rd (xs : List Int) (k : Nat) : List Int := tx (if rn xs k = 10 ^ k then k + 1 else k) (rn xs k)
/-- The first c digits of a row, rounded, or filled up with zeros. -/
def kp (xs : List Int) (c : Int) : List Int := if c < 0 then [] else if (xs.length : Int) ≤ c then xs ++ List.replicate (c.toNat - xs.length) 48 else rd xs c.toNat

theorem up_is {xs : List Int} {k : Nat} {u : Bool} (h : UpIs (xs.take k) (xs.drop k) false u) : u = up xs k := by
  obtain ⟨h1, h2⟩ := h
  rw [List.length_drop] at h1 h2
  unfold up
  cases u with
  | true =>
    obtain ⟨a, b⟩ := h1 rfl
    symm
    rw [decide_eq_true_iff]
    rcases (show 2 * dv (xs.drop k) = 10 ^ (xs.length - k) ∨ 10 ^ (xs.length - k) < 2 * dv (xs.drop k) by omega) with c | c
    · right
      rcases b c with e | e
      · cases e
      · exact ⟨c, e⟩
    · exact .inl c
  | false =>
    obtain ⟨a, b⟩ := h2 rfl
    symm
    rw [decide_eq_false_iff_not]
    rintro (c | ⟨c, e⟩)
    · omega
    · have := (b c).2
      omega

theorem rn_bd {xs : List Int} (hd : Digs xs) {k : Nat} (hk : k ≤ xs.length) : 0 ≤ rn xs k ∧ rn xs k ≤ 10 ^ k := by
  have b := dv_bd (ds := xs.take k) (fun d h => hd d (List.mem_of_mem_take h))
  rw [List.length_take, Nat.min_eq_left hk] at b
  unfold rn
  split <;> omega

theorem rd_len (xs : List Int) (k : Nat) : (rd xs k).length = if rn xs k = 10 ^ k then k + 1 else k := tx_len _ _
theorem rd_digs (xs : List Int) (k : Nat) : Digs (rd xs k) := tx_digs _ _
theorem rd_dv {xs : List Int} (hd : Digs xs) {k : Nat} (hk : k ≤ xs.length) : dv (rd xs k) = rn xs k := by
  have b := rn_bd hd hk
  apply tx_dv b.1
  split
  · rw [Int.pow_succ]; have := p_pos k; omega
  · omega
theorem rd_of {xs ds : List Int} {k : Nat} (h : Digs ds) (hv : dv ds = rn xs k) (hl : ds.length = if rn xs k = 10 ^ k then k + 1 else k) : ds = rd xs k := by
  have := eq_tx h
  rw [hv, hl] at this
  exact this

theorem rd_round {xs ds : List Int} {k : Nat} {c : Bool} (hx : Digs xs) (hk : k ≤ xs.length) (h : Rounded xs ds k false c) : (if c = true then 49 :: ds else ds) = rd xs k := by
  obtain ⟨h1, h2, u, h3, h4⟩ := h
  have e := up_is h3
  subst e
  have v : dv ds + (if c = true then 10 ^ k else 0) = rn xs k := h4
  have b := dv_bd h1
  have hb := rn_bd hx hk
  rw [h2] at b
  cases c with
  | true =>
    rw [if_pos rfl] at v ⊢
    refine rd_of (fun d hd => ?_) ?_ ?_
    · rcases List.mem_cons.1 hd with rfl | hd
      · omega
      · exact h1 d hd
    · rw [dv_cons, h2]; omega
    · rw [if_pos (by omega), List.length_cons, h2]
  | false =>
    rw [if_neg Bool.false_ne_true] at v ⊢
    exact rd_of h1 (by omega) (by rw [if_neg (by omega), h2])

theorem kp_neg {xs : List Int} {c : Int} (h : c < 0) : kp xs c = [] := by rw [kp, if_pos h]
theorem kp_full {xs : List Int} {c : Nat} (h : xs.length ≤ c) : kp xs (c : Int) = xs ++ List.replicate (c - xs.length) 48 := by rw [kp, if_neg (by omega), if_pos (by omega), Int.toNat_natCast]
theorem kp_cut {xs : List Int} {c : Nat} (h : c < xs.length) : kp xs (c : Int) = rd xs c := by rw [kp, if_neg (by omega), if_neg (by omega), Int.toNat_natCast]
end Fx
end Go.Proofs.YtaoaniigbooihaaGreatDoor

namespace Go.Proofs.YtaoaniigbooihaaGreatDoor
open Go.RowKit Go.Deep
namespace Wh

/-- The error of a raw directive, its verb left out. -/
def chk (F W P : Int) : Int := if F < 0 ∨ 31 < F ∨ W < 0 ∨ P < -1 then 1 else if 4096 < W ∨ 4096 < P then 6 else 0
theorem chk_ok {F W P : Int} (h : chk F W P = 0) : (0 ≤ F ∧ F ≤ 31) ∧ (0 ≤ W ∧ W ≤ 4096) ∧ (-1 ≤ P ∧ P ≤ 4096) := by
  unfold chk at h
  split at h
  · omega
  · split at h
    · omega
    · omega
theorem chk_of {F W P : Int} (h : (0 ≤ F ∧ F ≤ 31) ∧ (0 ≤ W ∧ W ≤ 4096) ∧ (-1 ≤ P ∧ P ≤ 4096)) : chk F W P = 0 := by
  unfold chk
  rw [if_neg (by omega), if_neg (by omega)]
theorem chk_three (F W P : Int) : chk F W P = 0 ∨ chk F W P = 1 ∨ chk F W P = 6 := by
  unfold chk
  split
  · omega
  · split <;> omega

/-- A flag of a sum of flags. -/
def bit (F k : Int) : Bool := decide (F / k % 2 = 1)
/-- n times the byte c. -/
def rep (c n : Int) : List Int := List.replicate n.toNat c
theorem rep_len (c n : Int) : (rep c n).length = n.toNat := List.length_replicate
theorem rep_neg {c n : Int} (h : n ≤ 0) : rep c n = [] := by
  rw [rep, show n.toNat = 0 by omega]; rfl
theorem rep_by {c n x : Int} (h0 : 0 ≤ c ∧ c < 256) (h : x ∈ rep c n) : 0 ≤ x ∧ x < 256 := by
  rw [rep, List.mem_replicate] at h
  rw [h.2]; exact h0

/-- A text's bytes. -/
def By (xs : List Int) : Prop := ∀ x ∈ xs, 0 ≤ x ∧ x < 256
theorem By.nil : By [] := by intro x h; simp at h
theorem By.app {a b : List Int} (h : By a) (k : By b) : By (a ++ b) := by
  intro x hx
  rcases List.mem_append.1 hx with q | q
  · exact h x q
  · exact k x q
theorem By.rep {c n : Int} (h0 : 0 ≤ c ∧ c < 256) : By (rep c n) := fun _ h => rep_by h0 h
theorem By.take {a : List Int} (h : By a) (k : Nat) : By (a.take k) := fun x hx => h x (List.mem_of_mem_take hx)
theorem By.cons {c : Int} {a : List Int} (h0 : 0 ≤ c ∧ c < 256) (h : By a) : By (c :: a) := by
  intro x hx
  rcases List.mem_cons.1 hx with q | q
  · rw [q]; exact h0
  · exact h x q

/-- Head and body brought to the width. -/
def padT (F W : Int) (z : Bool) (h b : List Int) : List Int :=
  if bit F 1 = true then h ++ b ++ rep 32 (W - h.length - b.length)
  else if bit F 16 = true ∧ z = true then h ++ rep 48 (W - h.length - b.length) ++ b
  else rep 32 (W - h.length - b.length) ++ h ++ b
def padE (F W P : Int) (h b : List Int) : Int := if chk F W P = 0 then (if 16777216 < h.length + b.length then 3 else 0) else chk F W P
def pad (F W P : Int) (z : Bool) (h b : List Int) : List Int := if padE F W P h b = 0 then padT F W z h b else []
theorem padT_by {F W : Int} {z : Bool} {h b : List Int} (hh : By h) (hb : By b) : By (padT F W z h b) := by
  unfold padT
  split
  · exact (hh.app hb).app (By.rep (by omega))
  · split
    · exact (hh.app (By.rep (by omega))).app hb
    · exact ((By.rep (by omega)).app hh).app hb
theorem padT_zero (F : Int) (z : Bool) (h b : List Int) : padT F 0 z h b = h ++ b := by
  have e : ∀ c, rep c (0 - (h.length : Int) - (b.length : Int)) = [] := fun c => rep_neg (by omega)
  unfold padT
  rw [e, e]
  split
  · simp
  · split <;> simp
theorem padT_len (F W : Int) (z : Bool) (h b : List Int) : (padT F W z h b).length = h.length + b.length + (W - h.length - b.length).toNat := by
  unfold padT
  split
  · simp [rep_len] <;> omega
  · split <;> simp [rep_len] <;> omega

/-- Char, Text. -/
def chrE (V F W P : Int) : Int := if V = 99 then chk F W P else 140
def chr (V F W P : Int) (t : List Int) : List Int := if chrE V F W P = 0 then padT F W false [] (t.take 1) else []
def cut (P : Int) (t : List Int) : List Int := if P = -1 then t else t.take P.toNat
def texE (V F W P : Int) (t : List Int) : Int := if V = 115 then padE F W P [] (cut P t) else 140
def tex (V F W P : Int) (t : List Int) : List Int := if texE V F W P t = 0 then padT F W false [] (cut P t) else []
end Wh
end Go.Proofs.YtaoaniigbooihaaGreatDoor
