/-
  record: fields at a text (mathematics); law21's holds.
-/
import Derived.Test.YtiggmgagcogakaaDoorRcJ
namespace Go.Proofs.YtiggmgagcogakaaDoor
open Go Go.RowKit Go.Deep Go.Shelf

namespace Ch
/-- Joined, the last apart. -/
theorem jn_last (sep : L8) (xs : List ByteArray) (y : ByteArray) : jn sep (xs ++ [y]) = (xs.flatMap fun x => x.data.toList ++ sep) ++ y.data.toList := by
  have key : ∀ (xs : List ByteArray) (x : ByteArray), x.data.toList ++ ja sep (xs ++ [y]) = ((x :: xs).flatMap fun x => x.data.toList ++ sep) ++ y.data.toList := by
    intro xs
    induction xs with
    | nil => intro x; simp [ja]
    | cons z r ih =>
      intro x
      rw [List.cons_append, ja, ih z]
      simp [List.append_assoc]
  cases xs with
  | nil => rw [List.nil_append, jn_cons]; simp [ja]
  | cons x r => rw [List.cons_append, jn_cons, key]
end Ch
/-- The parts ahead of part m, sep behind each, and all that is left: the text. -/
theorem Rc.PP.rest {l sep : Ch.L8} {p : Nat} {ps : List (Nat × Nat)} (h : Rc.PP l sep p ps) : ∀ m, m < ps.length → ((ps.take m).flatMap fun x => (l.drop x.1).take (x.2 - x.1) ++ sep) ++ l.drop (Rc.fr ps m) = l.drop p := by
  induction h with
  | last p hp hi =>
    intro m hm
    simp at hm
    subst hm
    simp [Rc.fr]
  | more p i r hr hi hP ih =>
    intro m hm
    cases m with
    | zero => simp [Rc.fr]
    | succ m =>
      have e1 : Rc.fr ((p, p + i) :: r) (m + 1) = Rc.fr r m := by simp [Rc.fr]
      rw [e1, List.take_succ_cons, List.flatMap_cons, List.append_assoc, ih m (by simpa using hm)]
      rcases Lib.index_spec (l.drop p) sep with ⟨h3, _⟩ | ⟨j, hj, _, ho, _⟩
      · rw [h3] at hi; exact absurd hi (by omega)
      · have : j = i := by omega
        subst this
        have rm : j + sep.length ≤ (l.drop p).length := by rw [List.length_drop]; omega
        have h2 := Lib.occAt_iff_take (l.drop p) sep j rm
        rw [ho] at h2
        have h4 : ((l.drop p).drop j).take sep.length = sep := by simpa using h2.symm
        have e2 : (p, p + j).2 - (p, p + j).1 = j := by simp
        rw [e2]
        show (l.drop p).take j ++ sep ++ l.drop (p + j + sep.length) = l.drop p
        conv => rhs; rw [← List.take_append_drop j (l.drop p), ← List.take_append_drop sep.length ((l.drop p).drop j), h4, List.drop_drop, List.drop_drop]
        rw [List.append_assoc]
        congr 3
        omega
theorem Rc.PP.texts {l sep : Ch.L8} (hsep : sep ≠ []) {p : Nat} {ps : List (Nat × Nat)} (h : Rc.PP l sep p ps) : ps.map (fun x => (l.drop x.1).take (x.2 - x.1)) = Lib.splitK sep 0 (Lib.count (l.drop p) sep) (l.drop p) := by
  induction h with
  | last p hp hi =>
    rw [Lib.count_miss hi]
    show [(l.drop p).take (l.length - p)] = [l.drop p]
    rw [List.take_of_length_le (by rw [List.length_drop]; exact Nat.le_refl _)]
  | more p i r hr hi hP ih =>
    rw [Lib.count_hit hsep hi, Nat.add_comm 1, Lib.splitK, if_neg (by rw [hi]; simp), hi, List.map_cons, ih]
    have e : (p, p + i).2 - (p, p + i).1 = i := by simp
    rw [e]
    simp [List.drop_drop, Nat.add_assoc]
theorem Rc.PP.ne {l sep : Ch.L8} {p : Nat} {ps : List (Nat × Nat)} (h : Rc.PP l sep p ps) : ps ≠ [] := by
  cases h <;> simp
theorem Rc.PP.last_up {l sep : Ch.L8} {p : Nat} {ps : List (Nat × Nat)} (h : Rc.PP l sep p ps) : Rc.up ps (ps.length - 1) = l.length := by
  induction h with
  | last p hp hi => simp [Rc.up]
  | more p i r hr hi hP ih =>
    have hn := hP.ne
    obtain ⟨k, hk⟩ : ∃ k, r.length = k + 1 := ⟨r.length - 1, by have := List.length_pos_iff.2 hn; omega⟩
    rw [hk] at ih
    have e : ((p, p + i) :: r).length - 1 = k + 1 := by simp [hk]
    rw [e]
    simpa [Rc.up] using ih

/-- What is known of the places at a separator that is no blank. -/
structure Rc.Ok (s fs : ByteArray) (ps : List (Nat × Nat)) : Prop where
  rest : ∀ m, m < ps.length → ((ps.take m).flatMap fun x => (s.data.toList.drop x.1).take (x.2 - x.1) ++ fs.data.toList) ++ s.data.toList.drop (Rc.fr ps m) = s.data.toList
  last : Rc.up ps (ps.length - 1) = s.size
  pos : 0 < ps.length
  parts : ps.map (fun x => Ch.tx ((s.data.toList.drop x.1).take (x.2 - x.1))) = Ch.sp s fs
theorem Rc.ok_of {s fs : ByteArray} {ps : List (Nat × Nat)} (h : Rc.Pl s fs ps) (h1 : fs ≠ ⟨#[32]⟩) (h0 : s.size ≠ 0) : Rc.Ok s fs ps := by
  unfold Rc.Pl at h
  rw [if_neg h1] at h
  have hL := Ch.size_len s
  by_cases h2 : fs.size = 0
  · rw [if_pos h2] at h
    subst h
    have hf : fs.data.toList = [] := by rw [Ch.size_zero h2]
    have fr0 : ∀ m, m < s.size → Rc.fr ((List.range s.size).map fun k => (k, k + 1)) m = m := fun m hm => by simp [Rc.fr, List.getD, hm]
    have up0 : ∀ m, m < s.size → Rc.up ((List.range s.size).map fun k => (k, k + 1)) m = m + 1 := fun m hm => by simp [Rc.up, List.getD, hm]
    refine ⟨fun m hm' => ?_, ?_, by first | (simp; omega) | simp, ?_⟩
    · have hm : m < s.size := by simpa using hm'
      rw [fr0 m hm, hf]
      conv => rhs; rw [← List.take_append_drop m s.data.toList]
      congr 1
      rw [← List.map_take, List.take_range, Nat.min_eq_left (by omega)]
      simp only [List.append_nil]
      clear hm hm'
      induction m with
      | zero => rfl
      | succ m ih =>
        by_cases hm : m < s.data.toList.length
        · rw [List.range_succ, List.map_append, List.flatMap_append, ih, List.take_succ_eq_append_getElem hm]
          congr 1
          simp [List.drop_eq_getElem_cons hm]
        · rw [List.range_succ, List.map_append, List.flatMap_append, ih, List.take_of_length_le (by omega), List.take_of_length_le (by omega)]
          simp [List.drop_eq_nil_of_le (show s.data.toList.length ≤ m by omega)]
    · have e : ((List.range s.size).map fun k => (k, k + 1)).length - 1 = s.size - 1 := by simp
      rw [e, up0 _ (by omega)]
      omega
    · rw [Ch.sp, if_neg h0, if_neg h1, if_pos h2, List.map_map]
      refine List.ext_getElem (by simp [Ch.sg_len]) fun i a b => ?_
      have hi : i < s.size := by simpa using a
      have q := Ch.sg_at s i hi
      rw [List.getElem?_eq_getElem b] at q
      rw [Option.some.inj q, Ch.tx_ext]
      simp
  · rw [if_neg h2] at h
    have hP := h.2 h0
    have hsep := Ch.sep_ne (sep := fs) (by omega)
    have rr := hP.rest
    have tt := hP.texts hsep
    have lu := hP.last_up
    rw [List.drop_zero] at tt
    refine ⟨fun m hm => by rw [rr m hm, List.drop_zero], by rw [lu, hL], List.length_pos_iff.2 hP.ne, ?_⟩
    rw [Ch.sp, if_neg h0, if_neg h1, if_neg h2, ← Ch.map_tx (Ch.cut s fs), Ch.cut_data, ← tt, List.map_map]
    rfl
theorem Rc.Ok.len {s fs : ByteArray} {ps : List (Nat × Nat)} (h : Rc.Ok s fs ps) : ps.length = (Ch.sp s fs).length := by rw [← h.parts, List.length_map]
theorem Rc.Ok.tk {s fs : ByteArray} {ps : List (Nat × Nat)} (h : Rc.Ok s fs ps) {k : Nat} (hk : k < ps.length) (k7 : k ≠ 32767) : (Ch.sp s fs)[k]? = some (Rc.tk s fs ps k) := by
  rw [← h.parts, List.getElem?_map, List.getElem?_eq_getElem hk]
  unfold Rc.tk Rc.fr Rc.up
  rw [if_neg k7, Ch.tx_ext]
  simp [List.getD, List.getElem?_eq_getElem hk]
theorem Rc.Ok.end {s fs : ByteArray} {ps : List (Nat × Nat)} (h : Rc.Ok s fs ps) (h1 : fs ≠ ⟨#[32]⟩) : (Rc.tk s fs ps (Rc.nf ps - 1)).data.toList = s.data.toList.drop (Rc.fr ps (Rc.nf ps - 1)) := by
  have hp := h.pos
  unfold Rc.tk
  by_cases k7 : Rc.nf ps - 1 = 32767
  · rw [if_pos k7, Rc.rst, if_neg h1, Lib.extract_to_end]
  · have e : Rc.nf ps = ps.length := by unfold Rc.nf at *; omega
    rw [if_neg k7, e, h.last, Lib.extract_to_end]
theorem Rc.Ok.join {s fs : ByteArray} {ps : List (Nat × Nat)} (h : Rc.Ok s fs ps) (h1 : fs ≠ ⟨#[32]⟩) : Ch.jn fs.data.toList (Rc.fl s fs ps) = s.data.toList := by
  have hp := h.pos
  have hn : 0 < Rc.nf ps ∧ Rc.nf ps ≤ ps.length ∧ Rc.nf ps ≤ 32768 := by unfold Rc.nf; omega
  obtain ⟨m, hm⟩ : ∃ m, Rc.nf ps = m + 1 := ⟨Rc.nf ps - 1, by omega⟩
  have he := h.end h1
  rw [hm, Nat.add_sub_cancel] at he
  have e1 : Rc.fl s fs ps = (List.range m).map (Rc.tk s fs ps) ++ [Rc.tk s fs ps m] := by rw [Rc.fl, hm, List.range_succ, List.map_append]; rfl
  rw [e1, Ch.jn_last, he]
  have e2 : ((List.range m).map (Rc.tk s fs ps)).map (·.data.toList) = (ps.take m).map fun x => (s.data.toList.drop x.1).take (x.2 - x.1) := by
    refine List.ext_getElem (by simp; omega) fun i a b => ?_
    have hi : i < m := by simpa using a
    have hi2 : i < ps.length := by omega
    simp only [List.getElem_map, List.getElem_range, List.getElem_take]
    unfold Rc.tk Rc.fr Rc.up
    rw [if_neg (by omega), Ch.tx_ext, Ch.tx_data]
    simp [List.getD, List.getElem?_eq_getElem hi2]
  have e3 : (((List.range m).map (Rc.tk s fs ps)).flatMap fun x => x.data.toList ++ fs.data.toList) = ((ps.take m).flatMap fun x => (s.data.toList.drop x.1).take (x.2 - x.1) ++ fs.data.toList) := by
    have this : (((List.range m).map (Rc.tk s fs ps)).map (·.data.toList)).flatMap (fun y => y ++ fs.data.toList) = ((ps.take m).map fun x => (s.data.toList.drop x.1).take (x.2 - x.1)).flatMap (fun y => y ++ fs.data.toList) := by rw [e2]
    have a1 : ∀ (L : List ByteArray), (L.map (·.data.toList)).flatMap (fun y => y ++ fs.data.toList) = L.flatMap (fun x => x.data.toList ++ fs.data.toList) := fun L => List.flatMap_map ..
    have a2 : ∀ (L : List (Nat × Nat)), (L.map fun x => (s.data.toList.drop x.1).take (x.2 - x.1)).flatMap (fun y => y ++ fs.data.toList) = L.flatMap (fun x => (s.data.toList.drop x.1).take (x.2 - x.1) ++ fs.data.toList) := fun L => List.flatMap_map ..
    rw [a1, a2] at this
    exact this
  rw [e3]
  exact h.rest m (by omega)
theorem Rc.Ok.all {s fs : ByteArray} {ps : List (Nat × Nat)} (h : Rc.Ok s fs ps) (h1 : fs ≠ ⟨#[32]⟩) (hl : ps.length ≤ 32768) : Rc.fl s fs ps = Ch.sp s fs := by
  have hp := h.pos
  have n : Rc.nf ps = ps.length := by unfold Rc.nf; omega
  have hlen : (Rc.fl s fs ps).length = (Ch.sp s fs).length := by rw [Rc.fl_len, n, h.len]
  refine List.ext_getElem hlen fun i a b => ?_
  have hi : i < ps.length := by rw [Rc.fl_len, n] at a; exact a
  have ef : (Rc.fl s fs ps)[i] = Rc.tk s fs ps i := by simp [Rc.fl]
  rw [ef]
  by_cases k7 : i = 32767
  · have he := h.end h1
    rw [n, show ps.length - 1 = i by omega] at he
    have q : (Ch.sp s fs)[i]? = some (Ch.tx ((s.data.toList.drop (Rc.fr ps i)).take (Rc.up ps i - Rc.fr ps i))) := by
      rw [← h.parts, List.getElem?_map, List.getElem?_eq_getElem hi]
      unfold Rc.fr Rc.up
      simp [List.getD, List.getElem?_eq_getElem hi]
    rw [List.getElem?_eq_getElem b] at q
    have lu := h.last
    rw [show ps.length - 1 = i by omega] at lu
    rw [Option.some.inj q, lu, List.take_of_length_le (by rw [List.length_drop, Ch.size_len]; exact Nat.le_refl _), ← he, Ch.tx_self]
  · have q := h.tk hi k7
    rw [List.getElem?_eq_getElem b] at q
    exact (Option.some.inj q).symm
end Go.Proofs.YtiggmgagcogakaaDoor
