/-
  numeral's raise.
-/
import Derived.Test.YtbdbpjghmejfjaaGreatDoorNDv
import Derived.Deep.LoopGhost
namespace Go.Proofs.YtbdbpjghmejfjaaGreatDoor
open Go.RowKit Go.Deep

/-- A block of bytes of our own; a mark may stand behind its end. -/
def OwnF (w : World) (g : Nat) (zs : List Int) : Prop := ∃ lo hi, w.heap[g]? = some (.cells (zs.map (Value.int .u8)).toArray 5 (lo, hi)) ∧ zs.length ≤ lo

theorem OwnF.cell {w : World} {g : Nat} {zs : List Int} (h : OwnF w g zs) (i : Nat) (hi : i < zs.length) : w.cell? ⟨g, i, none⟩ = some (.int .u8 (zs.getD i 0)) := by
  obtain ⟨lo, k, h, _⟩ := h
  simp [World.cell?, h, List.getD, hi]

theorem OwnF.free {w : World} {g : Nat} {zs : List Int} (h : OwnF w g zs) (i : Nat) (hi : i < zs.length) : w.frozen? ⟨g, i, none⟩ = false := by
  obtain ⟨lo, k, h, hl⟩ := h
  simp [World.frozen?, h]
  omega

theorem OwnF.lt {w : World} {g : Nat} {zs : List Int} (h : OwnF w g zs) : g < w.heap.size := by
  obtain ⟨lo, k, h, _⟩ := h
  rcases Nat.lt_or_ge g w.heap.size with hl | hl
  · exact hl
  · simp [Array.getElem?_eq_none hl] at h

theorem OwnF.set {w : World} {g : Nat} {zs : List Int} (h : OwnF w g zs) (i : Nat) (s : Int) : OwnF (w.setCell ⟨g, i, none⟩ (.int .u8 s)) g (zs.set i s) := by
  have hl := h.lt
  obtain ⟨lo, k, h, hz⟩ := h
  exact ⟨lo, k, by simp [World.setCell, Array.getElem?_modify, h, List.map_set], by simpa using hz⟩

theorem OwnF.below {w w' : World} {B g : Nat} {zs : List Int} (h : OwnF w g zs) (hb : Below B w w') (hg : g < B) : OwnF w' g zs := by
  obtain ⟨lo, k, h, hz⟩ := h
  exact ⟨lo, k, by rw [hb.block g hg, h], hz⟩

/-- One unit of the last place more, and whether it was carried out. -/
def Raised (ds ds' : List Int) (c : Bool) : Prop := Digs ds' ∧ ds'.length = ds.length ∧ dv ds' + (if c then 10 ^ ds.length else 0) = dv ds + 1

theorem tail57 {es : List Int} {n j : Nat} (hn : n ≤ es.length) (hj : j ≤ n) (h : ∀ i, j ≤ i → i < n → es.getD i 0 = 57) : es.take n = es.take j ++ List.replicate (n - j) 57 := by
  apply List.ext_getElem?
  intro i
  by_cases h1 : i < j
  · rw [List.getElem?_append_left (by simp; omega), List.getElem?_take, List.getElem?_take, if_pos (by omega), if_pos h1]
  · by_cases h2 : i < n
    · have := h i (by omega) h2
      rw [List.getElem?_append_right (by simp; omega), List.getElem?_take, if_pos h2, List.getElem?_replicate, if_pos (by simp; omega)]
      rw [List.getElem?_eq_getElem (by omega)] at *
      simp [List.getD, List.getElem?_eq_getElem (show i < es.length by omega)] at this
      rw [this]
    · rw [List.getElem?_eq_none (by simp; omega), List.getElem?_eq_none (by simp; omega)]

theorem put_take (es : List Int) (o n : Nat) (xs : List Int) (h : o + xs.length = n) (hn : n ≤ es.length) : (put es o xs).take n = es.take o ++ xs := by
  unfold put
  rw [List.take_append_of_le_length (by simp; omega), List.take_of_length_le (by simp; omega)]

theorem raised_all {es : List Int} {n : Nat} (hn : n ≤ es.length) (h : ∀ i, 0 ≤ i → i < n → es.getD i 0 = 57) : Raised (es.take n) ((put es 0 (List.replicate n 48)).take n) true := by
  rw [put_take es 0 n _ (by simp) hn, tail57 hn (Nat.zero_le _) h]
  simp only [List.take_zero, List.nil_append, Nat.sub_zero]
  refine ⟨fun d hd => ?_, by simp, ?_⟩
  · have := List.eq_of_mem_replicate hd
    omega
  · rw [dv_zeros, dv_nines]
    simp

theorem raised_at {es : List Int} {n u : Nat} {x : Int} (hn : n ≤ es.length) (hu : u < n) (hx : es.getD u 0 = x) (hx1 : x ≠ 57) (hd : Digs (es.take n)) (h : ∀ i, u + 1 ≤ i → i < n → es.getD i 0 = 57) : Raised (es.take n) ((put es u ((x + 1) :: List.replicate (n - (u + 1)) 48)).take n) false := by
  have e1 : es.take (u + 1) = es.take u ++ [x] := by
    rw [List.take_add_one, ← hx]
    simp [List.getD, List.getElem?_eq_getElem (show u < es.length by omega)]
  have e2 := tail57 hn (by omega) h
  rw [e1] at e2
  have hxd := hd x (by rw [e2]; simp)
  rw [put_take es u n _ (by simp; omega) hn]
  refine ⟨fun d hm => ?_, by simp; omega, ?_⟩
  · rw [List.mem_append, List.mem_cons] at hm
    rcases hm with hm | hm | hm
    · exact hd d (by rw [e2]; simp [hm])
    · omega
    · have := List.eq_of_mem_replicate hm
      omega
  · rw [e2, dv_append, dv_cons, dv_zeros, List.append_assoc, dv_append, List.singleton_append, dv_cons, dv_nines]
    simp only [List.length_cons, List.length_replicate]
    rw [show (x + 1 - 48) = (x - 48) + 1 by omega, Int.add_mul]
    simp
    omega

def RaiseTold (g : Nat) (es : List Int) (n : Nat) (w : World) (e : Ending) (w' : World) : Prop :=
  ∃ c es', e = .returned (.bool c) ∧ OwnF w' g es' ∧ es'.length = es.length ∧ Raised (es.take n) (es'.take n) c ∧ Only g w w'

set_option maxRecDepth 100000 in
set_option maxHeartbeats 2000000 in
theorem raise_any (g n cap : Nat) (es : List Int) (w : World) (ho : OwnF w g es) (hn : n ≤ es.length) (hs : n ≤ 140737488351232) (hd : Digs (es.take n)) :
    Calls Tryz.prog 79 #[.slice (some ⟨g, 0, none⟩) n cap] w fun e w' => RaiseTold g es n w e w' := by
  have HO := hid ho
  have HN := hid hn
  have HD := hid hd
  have hsi : (n : Int) ≤ 140737488351232 := by omega
  clear ho hn hd
  go_enter Tryz.func79, Tryz.ntmps79
  go_wp2_with fail
  go_loopg [3] n (fun j i wr => i = .int .i64 ((j : Int) - 1) ∧ j ≤ n ∧ Hid (OwnF wr g (put es j (List.replicate (n - j) 48)) ∧ (∀ i, j ≤ i → i < n → es.getD i 0 = 57) ∧ Only g w wr))
  case atStart => exact ⟨rfl, Nat.le_refl _, by rw [Nat.sub_self]; simpa [put_nil] using HO.out, fun i h1 h2 => by omega, Only.refl _ _⟩
  case round =>
    obtain ⟨rfl, hj, I⟩ := hrel
    cases gk with
    | zero =>
      have F : Hid (RaiseTold g es n w (.returned (.bool true)) wr) := by
        refine ⟨true, _, rfl, I.out.1, ?_, ?_, I.out.2.2⟩
        · rw [put_length _ _ _ (by simp; have := HN.out; omega)]
        · exact raised_all HN.out I.out.2.1
      clear I
      go_wp2_with fail
      go_ret
      exact F.out
    | succ u =>
      rw [show ((u + 1 : Nat) : Int) - 1 = (u : Int) by omega]
      have hu : (u : Int) < (n : Int) := by omega
      have hl : (put es (u + 1) (List.replicate (n - (u + 1)) 48)).length = es.length := put_length _ _ _ (by simp; have := HN.out; omega)
      obtain ⟨x, X⟩ : ∃ x, Hid (es.getD u 0 = x) := ⟨_, rfl⟩
      have hx : wr.cell? ⟨g, u, none⟩ = some (.int .u8 x) := by
        rw [I.out.1.cell u (by rw [hl]; have := HN.out; omega), ← X.out]
        simp [put, List.getD, List.getElem?_append_left (show u < (es.take (u + 1)).length by simp; have := HN.out; omega)]
      have hf := I.out.1.free u (by rw [hl]; have := HN.out; omega)
      have hxd : 48 ≤ x ∧ x ≤ 57 := by
        have hlt : u < (es.take n).length := by simp; have := HN.out; omega
        have := HD.out _ (List.getElem_mem hlt)
        rw [← X.out]
        simpa [List.getD, List.getElem?_eq_getElem (show u < es.length by have := HN.out; omega)] using this
      obtain ⟨hx0, hx1⟩ := hxd
      by_cases h9 : x = 57
      · have F : Hid (OwnF (wr.setCell ⟨g, u, none⟩ (.int .u8 48)) g (put es u (List.replicate (n - u) 48)) ∧ (∀ i, u ≤ i → i < n → es.getD i 0 = 57) ∧ Only g w (wr.setCell ⟨g, u, none⟩ (.int .u8 48))) := by
          refine ⟨?_, fun i h1 h2 => ?_, I.out.2.2.trans (Only.set _ _)⟩
          · have := I.out.1.set u 48
            rw [put_head _ _ _ _ (by simp; have := HN.out; omega), ← List.replicate_succ, show n - (u + 1) + 1 = n - u by omega] at this
            exact this
          · by_cases e : i = u
            · subst e; rw [X.out]; exact h9
            · exact I.out.2.1 i (by omega) h2
        subst h9
        clear I hl
        go_wp2_with fail
        go_roundg u
        case measure => omega
        case rel => exact ⟨by go_num, by omega, F.out⟩
      · have h9' : (x == 57) = false := by rw [beq_eq_false_iff_ne]; exact h9
        have F : Hid (RaiseTold g es n w (.returned (.bool false)) (wr.setCell ⟨g, u, none⟩ (.int .u8 (x + 1)))) := by
          have o := I.out.1.set u (x + 1)
          rw [put_head _ _ _ _ (by simp; have := HN.out; omega)] at o
          refine ⟨false, _, rfl, o, ?_, ?_, I.out.2.2.trans (Only.set _ _)⟩
          · rw [put_length _ _ _ (by simp; have := HN.out; omega)]
          · exact raised_at HN.out (by omega) X.out h9 HD.out I.out.2.1
        clear I hl
        go_wp2_with fail
        go_ret
        exact F.out
end Go.Proofs.YtbdbpjghmejfjaaGreatDoor
