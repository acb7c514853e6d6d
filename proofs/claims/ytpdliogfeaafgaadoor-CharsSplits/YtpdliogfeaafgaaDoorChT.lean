/-
  abacusref20: runs, Split.
-/
import Derived.Test.YtpdliogfeaafgaaDoorChD
import Derived.Test.YtpdliogfeaafgaaDoorChS
namespace Go.Proofs.YtpdliogfeaafgaaDoor
open Go Go.RowKit Go.Deep Go.Shelf

namespace Ch
/-- What runs has found at place i: no run is open, or one that began at g. -/
def RU (l : L8) (i : Nat) (g : Int) (ps : List L8) : Prop :=
  (g = -1 ∧ ps ++ wl (l.drop i) = wl l) ∨ ∃ b : Nat, g = (b : Int) ∧ b < i ∧ i ≤ b + ((l.drop b).takeWhile nb).length ∧ ps ++ wl (l.drop b) = wl l
theorem tw_pos {l : L8} {i : Nat} (hi : i < l.length) (h : bl (l.getD i 0) = false) : 1 ≤ ((l.drop i).takeWhile nb).length := by
  have e : l.getD i 0 = l[i] := by simp [List.getD, List.getElem?_eq_getElem hi]
  rw [e] at h
  rw [List.drop_eq_getElem_cons hi, List.takeWhile_cons, if_pos (by rw [nb, h]; rfl)]
  simp
theorem tw_more {l : L8} {b i : Nat} (_hb : b < i) (hi : i < l.length) (h1 : i ≤ b + ((l.drop b).takeWhile nb).length) (h : bl (l.getD i 0) = false) : i + 1 ≤ b + ((l.drop b).takeWhile nb).length := by
  rcases Nat.lt_or_ge i (b + ((l.drop b).takeWhile nb).length) with q | q
  · omega
  · have e : b + ((l.drop b).takeWhile nb).length = i := by omega
    have := tw_end (l := l) (k := b) (by rw [e]; exact hi)
    rw [e, h] at this
    cases this
theorem tw_stop {l : L8} {b i : Nat} (hb : b < i) (hi : i ≤ l.length) (h1 : i ≤ b + ((l.drop b).takeWhile nb).length) (h : i = l.length ∨ bl (l.getD i 0) = true) : b + ((l.drop b).takeWhile nb).length = i := by
  rcases Nat.lt_or_ge i (b + ((l.drop b).takeWhile nb).length) with q | q
  · have h2 := tw_le (l := l) (k := b) (by omega)
    rcases h with h | h
    · omega
    · have := (tw_in (l := l) (k := b) (j := i) (by omega) q).2
      rw [h] at this
      cases this
  · omega
theorem wl_blank {l : L8} {i : Nat} (hi : i < l.length) (h : bl (l.getD i 0) = true) : wl (l.drop i) = wl (l.drop (i + 1)) := by
  have e : l.getD i 0 = l[i] := by simp [List.getD, List.getElem?_eq_getElem hi]
  rw [e] at h
  rw [List.drop_eq_getElem_cons hi]
  exact wl_app [] l[i] _ (fun c hc => by cases hc) h
theorem RU.open_ {l : L8} {i : Nat} {ps : List L8} (hi : i < l.length) (h : bl (l.getD i 0) = false) (r : ps ++ wl (l.drop i) = wl l) : RU l (i + 1) (i : Int) ps :=
  .inr ⟨i, rfl, by omega, by have := tw_pos hi h; omega, r⟩
theorem RU.on {l : L8} {b i : Nat} {ps : List L8} (hb : b < i) (hi : i < l.length) (h1 : i ≤ b + ((l.drop b).takeWhile nb).length) (h : bl (l.getD i 0) = false) (r : ps ++ wl (l.drop b) = wl l) : RU l (i + 1) (b : Int) ps :=
  .inr ⟨b, rfl, by omega, tw_more hb hi h1 h, r⟩
theorem RU.skip {l : L8} {i : Nat} {ps : List L8} (hi : i ≤ l.length) (h : i = l.length ∨ bl (l.getD i 0) = true) (r : ps ++ wl (l.drop i) = wl l) : RU l (i + 1) (-1) ps := by
  refine .inl ⟨rfl, ?_⟩
  rcases Nat.lt_or_ge i l.length with q | q
  · rcases h with h | h
    · omega
    · rw [← wl_blank q h]; exact r
  · rw [List.drop_eq_nil_of_le q] at r
    rw [List.drop_eq_nil_of_le (by omega)]
    exact r
theorem RU.shut {l : L8} {b i : Nat} {ps : List L8} (hb : b < i) (hi : i ≤ l.length) (h1 : i ≤ b + ((l.drop b).takeWhile nb).length) (h : i = l.length ∨ bl (l.getD i 0) = true) (r : ps ++ wl (l.drop b) = wl l) : RU l (i + 1) (-1) (ps ++ [(l.drop b).take (i - b)]) := by
  have e := tw_stop hb hi h1 h
  refine .inl ⟨rfl, ?_⟩
  rw [wl_at l b (by omega), e] at r
  have hne : ¬ (l.drop b).takeWhile nb = [] := by
    intro q
    rw [q] at e
    simp at e
    omega
  rw [if_neg hne] at r
  have t := tw_take l b
  rw [show ((l.drop b).takeWhile nb).length = i - b by omega] at t
  rw [t, List.append_assoc]
  exact r

/-- The pieces by sep. -/
def cl (t sep : L8) : List L8 := Lib.splitK sep 0 (Lib.count t sep) t
theorem cl_hit {t sep : L8} (hsep : sep ≠ []) {i : Nat} (h : Lib.index t sep = i) : cl t sep = t.take i :: cl (t.drop (i + sep.length)) sep := by
  rw [cl, Lib.count_hit hsep h, Nat.add_comm, Lib.splitK, if_neg (by rw [h]; simp), h]
  simp [cl]
theorem cl_miss {t sep : L8} (h : Lib.index t sep = -1) : cl t sep = [t] := by
  rw [cl, Lib.count_miss h]; rfl
theorem cut_cl (s sep : ByteArray) : cut s sep = (cl s.data.toList sep.data.toList).map tx := by rw [← map_tx (cut s sep), cut_data]; rfl
/-- What Split has cut: up to b, and no sep between b and i. -/
def CU (l sep : L8) (b i : Nat) (ps : List L8) : Prop := b ≤ i ∧ i ≤ l.length ∧ Lib.NoOcc (l.drop b) sep (i - b) ∧ ps ++ cl (l.drop b) sep = cl l sep
theorem CU.start (l sep : L8) : CU l sep 0 0 [] := ⟨Nat.le_refl _, Nat.zero_le _, Lib.NoOcc.zero _ _, by simp⟩
theorem occ_drop {l sep : L8} {b i : Nat} (h : b ≤ i) : Lib.occAt (l.drop b) sep (i - b) = Lib.occAt l sep i := by
  unfold Lib.occAt
  rw [List.drop_drop, show b + (i - b) = i by omega]
theorem CU.miss {l sep : L8} {b i : Nat} {ps : List L8} (h : CU l sep b i ps) (hi : i < l.length) (ho : Lib.occAt l sep i = false) : CU l sep b (i + 1) ps := by
  obtain ⟨h1, h2, h3, h4⟩ := h
  refine ⟨by omega, by omega, ?_, h4⟩
  rw [show i + 1 - b = (i - b) + 1 by omega]
  exact h3.succ (by rw [occ_drop h1]; exact ho)
theorem CU.hit {l sep : L8} (hsep : sep ≠ []) {b i : Nat} {ps : List L8} (h : CU l sep b i ps) (hi : i < l.length) (ho : Lib.occAt l sep i = true) : i + sep.length ≤ l.length ∧ CU l sep (i + sep.length) (i + sep.length) (ps ++ [(l.drop b).take (i - b)]) := by
  obtain ⟨h1, h2, h3, h4⟩ := h
  have hr : i + sep.length ≤ l.length := by
    rcases Lib.occAt_room ho with q | q
    · exact q
    · exact absurd q hsep
  refine ⟨hr, Nat.le_refl _, hr, by rw [Nat.sub_self]; exact Lib.NoOcc.zero _ _, ?_⟩
  have hx : Lib.index (l.drop b) sep = ((i - b : Nat) : Int) := Lib.index_hit h3 (by rw [List.length_drop]; omega) (by rw [occ_drop h1]; exact ho)
  rw [cl_hit hsep hx, List.drop_drop, show b + (i - b + sep.length) = i + sep.length by omega] at h4
  rw [List.append_assoc]
  exact h4
theorem CU.done {l sep : L8} (hsep : sep ≠ []) {b i : Nat} {ps : List L8} (h : CU l sep b i ps) (hi : i = l.length) : ps ++ [l.drop b] = cl l sep := by
  obtain ⟨h1, h2, h3, h4⟩ := h
  have hp : 0 < sep.length := List.length_pos_iff.2 hsep
  rw [cl_miss (Lib.index_past hsep h3 (by rw [List.length_drop]; omega))] at h4
  exact h4
end Ch

set_option maxRecDepth 100000 in
set_option maxHeartbeats 2000000 in
theorem rruns_any (s : ByteArray) (w : World) (hs : s.size ≤ 1048576) :
    Calls Tryd.prog 21 #[.string s] w fun e w' => (∃ v, e = .returned v ∧ TO w.heap.size w' v (Ch.wd s)) ∧ Below w.heap.size w w' := by
  have HL := hid (Ch.size_len s)
  have B0 := hid (Below.refl w.heap.size w)
  have BA : Hid (∀ j (h : j < s.size), ((s[j]'h).toNat : Int) = ((s.data.toList.getD j 0).toNat : Int)) := fun j h => by rw [Ch.byte_at s j h]
  have XE : Hid (∀ b i, s.extract b i = Ch.tx ((s.data.toList.drop b).take (i - b))) := fun b i => Ch.tx_ext s b i
  have WD : Hid (Ch.wd s = (Ch.wl s.data.toList).map Ch.tx) := rfl
  have LW : Hid (∀ ps : List Ch.L8, (∃ r, ps ++ r = Ch.wl s.data.toList) → ps.length ≤ s.size) := fun ps ⟨r, hr⟩ => by
    have h1 := Ch.wd_le s
    rw [Ch.wd, List.length_map, ← hr, List.length_append] at h1
    omega
  have hsi : (s.size : Int) ≤ 1048576 := by omega
  generalize s.data.toList = l at *
  go_enter Tryd.func21, Tryd.ntmps21
  go_wp2_with fail
  go_loopg [3, 4, 5] (s.size + 1) (fun m pv gv iv wr => ∃ (i : Nat) (g : Int), i + m = s.size + 1 ∧ iv = .int .i64 (i : Int) ∧ gv = .int .i64 g ∧ Hid (∃ ps : List Ch.L8, TO w.heap.size wr pv (ps.map Ch.tx) ∧ Below w.heap.size w wr ∧ Ch.RU l i g ps))
  case atStart => exact ⟨0, -1, by omega, rfl, rfl, [], TO.nil _ _, B0.out, .inl ⟨rfl, by simp⟩⟩
  case round =>
    obtain ⟨i, g, hi, rfl, rfl, J⟩ := hrel
    clear B0
    obtain ⟨ps, hT, hB, hR⟩ := J.out
    clear J
    by_cases il : i ≤ s.size
    · have ili : (i : Int) ≤ (s.size : Int) := by omega
      have blk : (i = s.size ∨ (i < s.size ∧ Ch.bl (l.getD i 0) = true)) ∨ (i < s.size ∧ Ch.bl (l.getD i 0) = false) := by
        rcases Nat.lt_or_ge i s.size with q | q
        · cases hb : Ch.bl (l.getD i 0) with
          | true => exact .inl (.inr ⟨q, rfl⟩)
          | false => exact .inr ⟨q, rfl⟩
        · exact .inl (.inl (by omega))
      rcases hR with ⟨rfl, hr⟩ | ⟨b, rfl, hb1, hb2, hr⟩
      · -- no run is open
        rcases blk with hq | ⟨i1, i2⟩
        · have F : Hid (∃ ps : List Ch.L8, TO w.heap.size wr u3 (ps.map Ch.tx) ∧ Below w.heap.size w wr ∧ Ch.RU l (i + 1) (-1) ps) := ⟨ps, hT, hB, Ch.RU.skip (by rw [HL.out]; exact il) (by rw [HL.out]; rcases hq with q | ⟨_, q⟩; exact .inl q; exact .inr q) hr⟩
          clear hT hB hr
          rcases hq with q | ⟨q1, q2⟩
          · have qi : ((i : Int) == (s.size : Int)) = true := by rw [q]; simp
            have qi' : (i : Int) = (s.size : Int) := by omega
            clear q il
            go_wp2_with fail
            go_roundg (s.size + 1 - (i + 1))
            case measure => omega
            case rel => exact ⟨i + 1, -1, by omega, by go_num, rfl, F⟩
          · have qi : ((i : Int) == (s.size : Int)) = false := by rw [beq_eq_false_iff_ne]; omega
            have q1i : (i : Int) < (s.size : Int) := by omega
            have BJ := BA.out i
            have RB := hid (rblank_any (l.getD i 0))
            rw [q2] at RB
            generalize l.getD i 0 = c at *
            clear q2
            go_wp2_with fail
            refine (RB.out _).mono ?_
            rintro e w2 ⟨rfl, hw2⟩
            rw [hw2]
            go_wp2_with fail
            go_roundg (s.size + 1 - (i + 1))
            case measure => omega
            case rel => exact ⟨i + 1, -1, by omega, by go_num, rfl, F⟩
        · have F : Hid (∃ ps : List Ch.L8, TO w.heap.size wr u3 (ps.map Ch.tx) ∧ Below w.heap.size w wr ∧ Ch.RU l (i + 1) (i : Int) ps) := ⟨ps, hT, hB, Ch.RU.open_ (by rw [HL.out]; exact i1) i2 hr⟩
          have qi : ((i : Int) == (s.size : Int)) = false := by rw [beq_eq_false_iff_ne]; omega
          have q1i : (i : Int) < (s.size : Int) := by omega
          have BJ := BA.out i
          have RB := hid (rblank_any (l.getD i 0))
          rw [i2] at RB
          generalize l.getD i 0 = c at *
          clear i2 hT hB hr
          go_wp2_with fail
          refine (RB.out _).mono ?_
          rintro e w2 ⟨rfl, hw2⟩
          rw [hw2]
          go_wp2_with fail
          go_roundg (s.size + 1 - (i + 1))
          case measure => omega
          case rel => exact ⟨i + 1, (i : Int), by omega, by go_num, rfl, F⟩
      · -- a run is open
        have hbi : (b : Int) < (i : Int) := by omega
        rcases blk with hq | ⟨i1, i2⟩
        · have PL := LW.out ps ⟨_, hr⟩
          obtain ⟨mv', w', ap, h1, h2, h3, -⟩ := hT.push (s.extract b i) (by rw [List.length_map]; omega) hB.size
          have AP := hid ap
          have F : Hid (∃ ps : List Ch.L8, TO w.heap.size w' mv' (ps.map Ch.tx) ∧ Below w.heap.size w w' ∧ Ch.RU l (i + 1) (-1) ps) := by
            rw [XE.out] at h1
            exact ⟨ps ++ [(l.drop b).take (i - b)], by rw [List.map_append]; exact h1, hB.trans h3, Ch.RU.shut hb1 (by rw [HL.out]; exact il) hb2 (by rw [HL.out]; rcases hq with q | ⟨_, q⟩; exact .inl q; exact .inr q) hr⟩
          clear hT hB hr ap h1 h2 h3 PL hb2
          rcases hq with q | ⟨q1, q2⟩
          · have qi : ((i : Int) == (s.size : Int)) = true := by rw [q]; simp
            have qi' : (i : Int) = (s.size : Int) := by omega
            clear qi'
            have HQ := hid q
            clear q
            go_wp2_with (at_builtin; refine wpList_append_c rfl _ _ rfl AP.out (by rfl) (by rfl) ?_; clear AP)
            go_roundg (s.size + 1 - (i + 1))
            case measure => omega
            case rel => exact ⟨i + 1, -1, by omega, by go_num, rfl, F⟩
          · have qi : ((i : Int) == (s.size : Int)) = false := by rw [beq_eq_false_iff_ne]; omega
            have q1i : (i : Int) < (s.size : Int) := by omega
            have BJ := BA.out i
            have RB := hid (rblank_any (l.getD i 0))
            rw [q2] at RB
            generalize l.getD i 0 = c at *
            clear q2
            go_wp2_with fail
            refine (RB.out _).mono ?_
            rintro e w2 ⟨rfl, hw2⟩
            rw [hw2]
            go_wp2_with (at_builtin; refine wpList_append_c rfl _ _ rfl AP.out (by rfl) (by rfl) ?_; clear AP)
            go_roundg (s.size + 1 - (i + 1))
            case measure => omega
            case rel => exact ⟨i + 1, -1, by omega, by go_num, rfl, F⟩
        · have F : Hid (∃ ps : List Ch.L8, TO w.heap.size wr u3 (ps.map Ch.tx) ∧ Below w.heap.size w wr ∧ Ch.RU l (i + 1) (b : Int) ps) := ⟨ps, hT, hB, Ch.RU.on hb1 (by rw [HL.out]; exact i1) hb2 i2 hr⟩
          have qi : ((i : Int) == (s.size : Int)) = false := by rw [beq_eq_false_iff_ne]; omega
          have q1i : (i : Int) < (s.size : Int) := by omega
          have BJ := BA.out i
          have RB := hid (rblank_any (l.getD i 0))
          rw [i2] at RB
          generalize l.getD i 0 = c at *
          clear i2 hT hB hr hb2
          go_wp2_with fail
          refine (RB.out _).mono ?_
          rintro e w2 ⟨rfl, hw2⟩
          rw [hw2]
          go_wp2_with fail
          go_roundg (s.size + 1 - (i + 1))
          case measure => omega
          case rel => exact ⟨i + 1, (b : Int), by omega, by go_num, rfl, F⟩
    · have ili : ¬ (i : Int) ≤ (s.size : Int) := by omega
      have FE : Hid (ps = Ch.wl l) := by
        rcases hR with ⟨_, hr⟩ | ⟨b, _, hb1, hb2, hr⟩
        · rw [List.drop_eq_nil_of_le (by rw [HL.out]; omega), Ch.wl_nil, List.append_nil] at hr
          exact hr
        · exfalso
          by_cases q : b ≤ l.length
          · have := Ch.tw_le q
            have := HL.out
            omega
          · rw [List.drop_eq_nil_of_le (by omega)] at hb2
            simp at hb2
            omega
      have HTT := hid hT
      have HBB := hid hB
      clear hR hT hB
      go_wp2_with fail
      go_ret
      refine ⟨⟨_, rfl, ?_⟩, HBB.out⟩
      rw [WD.out, ← FE.out]
      exact HTT.out
end Go.Proofs.YtpdliogfeaafgaaDoor
