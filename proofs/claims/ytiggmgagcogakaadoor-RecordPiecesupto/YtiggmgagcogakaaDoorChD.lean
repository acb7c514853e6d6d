/-
  chars: single, Split; law20's alike.
-/
import Derived.Test.YtiggmgagcogakaaDoorChC
import Derived.Deep.CutRange
namespace Go.Proofs.YtiggmgagcogakaaDoor
open Go Go.RowKit Go.Deep Go.Shelf

set_option maxRecDepth 100000 in
set_option maxHeartbeats 2000000 in
theorem csingle_any (s : ByteArray) (w : World) (hs : s.size ≤ 4294967296) :
    Calls Tryd.prog 15 #[.string s] w fun e w' => e = .returned (.slice (some ⟨w.heap.size, 0, none⟩) s.size s.size) ∧ w' = w.alloc (.cells ((Ch.sg s).map Value.string).toArray 9) := by
  have hmk := run_make_row' (P := Tryd.prog) 22 9 (.string ByteArray.empty) 16 Tryd.underlying22 info_str rfl .i64 .i64 s.size (by omega) (by omega)
  have C0 : Hid (Lib.cellsOf [] s.size = madeCells #[.string ByteArray.empty] s.size) := Lib.cellsOf_nil _
  have CF : Hid (Lib.cellsOf (Ch.sg s) s.size = ((Ch.sg s).map Value.string).toArray) := by
    have q := Lib.cellsOf_full (Ch.sg s)
    rw [Ch.sg_len s] at q
    exact q
  have SL : Hid ((Ch.sg s).length = s.size) := Ch.sg_len s
  have ST := hid (Ch.sg_take s)
  have TK : Hid (∀ k, k ≤ s.size → ((Ch.sg s).take k).length = k) := fun k hk => by rw [List.length_take, Ch.sg_len]; omega
  have hsi : (s.size : Int) ≤ 4294967296 := by omega
  go_enter Tryd.func15, Tryd.ntmps15
  go_wp2_with fail
  clear hmk
  go_loopg [10] s.size (fun m iv wr => ∃ k : Nat, k + m = s.size ∧ iv = .int .i64 (k : Int) ∧ wr = w.alloc (.cells (Lib.cellsOf ((Ch.sg s).take k) s.size) 9))
  case atStart => exact ⟨0, by omega, rfl, by rw [List.take_zero, C0.out]⟩
  case round =>
    obtain ⟨k, hk, rfl, rfl⟩ := hrel
    by_cases kl : k < s.size
    · have kli : (k : Int) < (s.size : Int) := by omega
      have hTk := TK.out k (by omega)
      have hnext : (Lib.cellsOf ((Ch.sg s).take k) s.size)[k]? = some (.string ByteArray.empty) := by
        have := Lib.cellsOf_next (done := (Ch.sg s).take k) (N := s.size) (by rw [hTk]; exact kl)
        rw [hTk] at this
        exact this
      have hset : Hid ((Lib.cellsOf ((Ch.sg s).take k) s.size).setIfInBounds k (.string (s.extract k (k + 1))) = Lib.cellsOf ((Ch.sg s).take (k + 1)) s.size) := by
        have := Lib.cellsOf_set (done := (Ch.sg s).take k) (N := s.size) (by rw [hTk]; exact kl) (s.extract k (k + 1))
        rw [hTk] at this
        rw [Hid, this, ST.out k kl]
      clear hTk
      go_wp2_with fail
      go_roundg (s.size - (k + 1))
      case measure => omega
      case rel => exact ⟨k + 1, by omega, by go_num, by rw [← hset.out]⟩
    · have kli : ¬ (k : Int) < (s.size : Int) := by omega
      have kn : k = s.size := by omega
      have F : Hid (w.alloc (.cells (Lib.cellsOf ((Ch.sg s).take k) s.size) 9) = w.alloc (.cells ((Ch.sg s).map Value.string).toArray 9)) := by
        rw [Hid, kn, ← CF.out, List.take_of_length_le (by rw [SL.out]; exact Nat.le_refl _)]
      clear kn
      go_wp2_with fail
      go_ret
      exact ⟨rfl, F.out⟩

namespace Ch
/-- The parts of a text. -/
def sp (s sep : ByteArray) : List ByteArray := if s.size = 0 then [] else if sep = ⟨#[32]⟩ then wd s else if sep.size = 0 then sg s else cut s sep
theorem toList_ne {s : ByteArray} (h : s.size ≠ 0) : s.toList.isEmpty = false ∧ (s.toList == []) = false ∧ ¬ s.toList = [] := by
  have e : s.toList ≠ [] := by
    rw [ByteArray.toList_eq]
    intro c
    have := size_len s
    rw [c] at this
    exact h (by simpa using this.symm)
  refine ⟨?_, ?_, e⟩
  · cases hx : s.toList with
    | nil => exact absurd hx e
    | cons _ _ => rfl
  · cases hx : s.toList with
    | nil => exact absurd hx e
    | cons _ _ => rfl
theorem size_zero {s : ByteArray} (h : s.size = 0) : s = ⟨#[]⟩ := by
  have := size_len s
  rw [h] at this
  rw [← tx_self s, List.eq_nil_of_length_eq_zero this]
  rfl
theorem toList_tx (s : ByteArray) : s.toList = s.data.toList := ByteArray.toList_eq s
theorem eq_lit {s t : ByteArray} : (s.toList == t.toList) = decide (s = t) := by
  by_cases h : s = t
  · subst h; simp
  · rw [decide_eq_false h, beq_eq_false_iff_ne]
    intro c
    apply h
    rw [toList_tx, toList_tx] at c
    rw [← tx_self s, c, tx_self]
end Ch

def SpTold (s sep : ByteArray) (w : World) (e : Ending) (w' : World) : Prop := (∃ v, e = .returned v ∧ TO w.heap.size w' v (Ch.sp s sep)) ∧ Below w.heap.size w w'

theorem ssplit_any (s sep : ByteArray) (w : World) (h : ML w) (hs : s.size < 4294967281) (h1 : 1 ≤ sep.size) :
    Calls Tryd.prog 16 #[.string s, .string sep] w fun e w' => (∃ v, e = .returned v ∧ TO w.heap.size w' v (Ch.cut s sep)) ∧ Below w.heap.size w w' := by
  obtain ⟨m, hm⟩ := h
  refine (Any.strings_Split cspLays info_str s sep m w hs hm h1).mono ?_
  rintro e w' ⟨rfl, rfl⟩
  refine ⟨⟨_, rfl, ?_⟩, alloc_b w _⟩
  have hl := Ch.cut_len s sep h1
  have hle := Lib.countB_le sep h1 s.size s (Nat.le_refl _)
  rw [← hl]
  have q := World.ownsRow_lit (base := w.heap.size) (e := 9) (size := 1) w ((Ch.cut s sep).map Value.string).toArray (Ch.cut s sep).length (Nat.le_refl _) (by rw [hl]; simp only [maxLen]; omega) (by simp)
  have q2 : TO w.heap.size (w.alloc (.cells ((Ch.cut s sep).map Value.string).toArray 9)) (.slice (some ⟨w.heap.size, 0, none⟩) (Ch.cut s sep).length (Ch.cut s sep).length) (Ch.cut s sep) := by simpa [TO] using q
  exact q2
theorem csingle_to (s : ByteArray) (w : World) (hs : s.size ≤ 4294967296) :
    Calls Tryd.prog 15 #[.string s] w fun e w' => (∃ v, e = .returned v ∧ TO w.heap.size w' v (Ch.sg s)) ∧ Below w.heap.size w w' := by
  refine (csingle_any s w hs).mono ?_
  rintro e w' ⟨rfl, rfl⟩
  refine ⟨⟨_, rfl, ?_⟩, alloc_b w _⟩
  have hl := Ch.sg_len s
  rw [← hl]
  have q := World.ownsRow_lit (base := w.heap.size) (e := 9) (size := 1) w ((Ch.sg s).map Value.string).toArray (Ch.sg s).length (Nat.le_refl _) (by rw [hl]; simp only [maxLen]; omega) (by simp)
  simpa [TO] using q

set_option maxRecDepth 100000 in
set_option maxHeartbeats 2000000 in
theorem csplit_any (s sep : ByteArray) (w : World) (h : ML w) (hs : s.size < 4294967281) :
    Calls Tryd.prog 10 #[.string s, .string sep] w (SpTold s sep w) := by
  by_cases h0 : s.size = 0
  · have F : Hid (SpTold s sep w (.returned (.slice none 0 0)) w) := ⟨⟨_, rfl, by rw [Ch.sp, if_pos h0]; exact TO.nil _ _⟩, Below.refl _ _⟩
    obtain rfl := Ch.size_zero h0
    clear h0 h hs
    go_enter Tryd.func10, Tryd.ntmps10
    go_wp2_with fail
    go_ret
    exact F.out
  · obtain ⟨n1, n2, n3⟩ := Ch.toList_ne h0
    have CL := hid (vclone_any s w (by omega))
    have G : Hid (∀ (w1 w2 : World) (v : Value) (xs : List ByteArray), Ch.sp s sep = xs → Below w.heap.size w w1 → TO w1.heap.size w2 v xs → Below w1.heap.size w1 w2 → SpTold s sep w (.returned v) w2) := fun w1 w2 v xs e b1 t b2 => ⟨⟨v, rfl, by rw [e]; exact t.mono b1.size⟩, below_on b1 b2⟩
    have MM : Hid (∀ w1, Below w.heap.size w w1 → ML w1) := fun w1 b => h.b b
    by_cases h1 : sep = ⟨#[32]⟩
    · have E : Hid (Ch.sp s sep = Ch.wd s) := by rw [Hid, Ch.sp, if_neg h0, if_pos h1]
      have C := hid (fun w1 => cwords_any s w1 (by omega))
      subst h1
      clear h hs h0
      go_enter Tryd.func10, Tryd.ntmps10
      go_wp2_with fail
      refine CL.out.mono ?_
      rintro e w1 ⟨rfl, hb⟩
      have B := hid hb
      clear hb CL
      go_wp2_with fail
      refine (C.out w1).mono ?_
      rintro e w2 ⟨⟨v, rfl, ht⟩, hb⟩
      have F := hid (G.out w1 w2 v _ E.out B.out ht hb)
      clear ht hb C G E
      go_wp2_with fail
      go_ret
      exact F.out
    · have q1 : (sep.toList == [32]) = false := by
        have := Ch.eq_lit (s := sep) (t := ⟨#[32]⟩)
        rw [decide_eq_false h1, Ch.toList_tx ⟨#[32]⟩] at this
        exact this
      have q2 : ¬ sep.toList = [32] := by simpa using q1
      by_cases h2 : sep.size = 0
      · have E : Hid (Ch.sp s sep = Ch.sg s) := by rw [Hid, Ch.sp, if_neg h0, if_neg h1, if_pos h2]
        have C := hid (fun w1 => csingle_to s w1 (by omega))
        obtain rfl := Ch.size_zero h2
        clear h hs h0 h1 h2 q1 q2
        go_enter Tryd.func10, Tryd.ntmps10
        go_wp2_with fail
        refine CL.out.mono ?_
        rintro e w1 ⟨rfl, hb⟩
        have B := hid hb
        clear hb CL
        go_wp2_with fail
        refine (C.out w1).mono ?_
        rintro e w2 ⟨⟨v, rfl, ht⟩, hb⟩
        have F := hid (G.out w1 w2 v _ E.out B.out ht hb)
        clear ht hb C G E
        go_wp2_with fail
        go_ret
        exact F.out
      · have E : Hid (Ch.sp s sep = Ch.cut s sep) := by rw [Hid, Ch.sp, if_neg h0, if_neg h1, if_neg h2]
        obtain ⟨m1, m2, m3⟩ := Ch.toList_ne h2
        have C := hid (fun w1 (hm : ML w1) => ssplit_any s sep w1 hm hs (by omega))
        clear h hs h0 h1 h2
        go_enter Tryd.func10, Tryd.ntmps10
        go_wp2_with fail
        refine CL.out.mono ?_
        rintro e w1 ⟨rfl, hb⟩
        have B := hid hb
        clear hb CL
        go_wp2_with fail
        refine (C.out w1 (MM.out _ B.out)).mono ?_
        rintro e w2 ⟨⟨v, rfl, ht⟩, hb⟩
        have F := hid (G.out w1 w2 v _ E.out B.out ht hb)
        clear ht hb C G E
        go_wp2_with fail
        go_ret
        exact F.out
end Go.Proofs.YtiggmgagcogakaaDoor
