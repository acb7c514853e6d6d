/-
  chars: words, single, Split; law20's alike.
-/
import Derived.Test.YtiggmgagcogakaaDoorChB
import Derived.Test.YtiggmgagcogakaaDoorVClone
import Derived.Shelf.Strings.Split
import Derived.BigQuiet
namespace Go.Proofs.YtiggmgagcogakaaDoor
open Go Go.RowKit Go.Deep Go.Shelf

namespace Ch
theorem byte_at (s : ByteArray) (j : Nat) (h : j < s.size) : s[j] = s.data.toList.getD j 0 := by
  have := Lib.data_getElem? s j h
  simp [List.getD, this]
theorem tw_in {l : L8} {k j : Nat} (h1 : k ≤ j) (h2 : j < k + ((l.drop k).takeWhile nb).length) : j < l.length ∧ bl (l.getD j 0) = false := by
  have hl : ((l.drop k).takeWhile nb).length ≤ (l.drop k).length := (List.takeWhile_sublist _).length_le
  rw [List.length_drop] at hl
  have hj : j < l.length := by omega
  refine ⟨hj, ?_⟩
  have hp : ((l.drop k).takeWhile nb)[j - k]? = some (l.getD j 0) := by
    have hpre : (l.drop k).takeWhile nb <+: l.drop k := List.takeWhile_prefix _
    have hlt : j - k < ((l.drop k).takeWhile nb).length := by omega
    have e := hpre.getElem hlt
    rw [List.getElem?_eq_getElem hlt, e, List.getElem_drop]
    simp [List.getD, show k + (j - k) = j by omega, List.getElem?_eq_getElem hj]
  have hm := List.mem_of_getElem? hp
  have := List.all_eq_true.1 (List.all_takeWhile (p := nb) (l := l.drop k)) _ hm
  simpa [nb] using this
theorem tw_le {l : L8} {k : Nat} (h1 : k ≤ l.length) : k + ((l.drop k).takeWhile nb).length ≤ l.length := by
  have hl : ((l.drop k).takeWhile nb).length ≤ (l.drop k).length := (List.takeWhile_sublist _).length_le
  rw [List.length_drop] at hl
  omega
theorem tw_end {l : L8} {k : Nat} (h : k + ((l.drop k).takeWhile nb).length < l.length) : bl (l.getD (k + ((l.drop k).takeWhile nb).length) 0) = true := by
  have hd := tw_drop (l.drop k)
  rw [List.drop_drop] at hd
  have h2 := List.head?_dropWhile_not nb (l.drop k)
  rw [← hd, List.head?_drop, List.getElem?_eq_getElem h] at h2
  have h3 : bl (l[k + ((l.drop k).takeWhile nb).length]) = true := by simpa [nb] using h2
  simpa [List.getD, List.getElem?_eq_getElem h] using h3
theorem tw_take (l : L8) (k : Nat) : (l.drop k).take ((l.drop k).takeWhile nb).length = (l.drop k).takeWhile nb := by
  have hpre : (l.drop k).takeWhile nb <+: l.drop k := List.takeWhile_prefix _
  exact (List.prefix_iff_eq_take.1 hpre).symm
theorem wl_at (l : L8) (k : Nat) (h : k < l.length) : wl (l.drop k) = (if ((l.drop k).takeWhile nb) = [] then [] else [(l.drop k).takeWhile nb]) ++ wl (l.drop (k + ((l.drop k).takeWhile nb).length + 1)) := by
  rw [wl_step (l.drop k) (by intro e; have := congrArg List.length e; simp at this; omega), List.drop_drop]
  rfl
end Ch

set_option maxRecDepth 100000 in
set_option maxHeartbeats 2000000 in
theorem cwords_any (s : ByteArray) (w : World) (hs : s.size ≤ 4294967296) :
    Calls Tryd.prog 14 #[.string s] w fun e w' => (∃ v, e = .returned v ∧ TO w.heap.size w' v (Ch.wd s)) ∧ Below w.heap.size w w' := by
  have hL := Ch.size_len s
  have HL := hid hL
  have B0 := hid (Below.refl w.heap.size w)
  have BA : Hid (∀ j (h : j < s.size), ((s[j]'h).toNat : Int) = ((s.data.toList.getD j 0).toNat : Int)) := fun j h => by rw [Ch.byte_at s j h]
  have XE : Hid (∀ k, s.extract k (k + ((s.data.toList.drop k).takeWhile Ch.nb).length) = Ch.tx ((s.data.toList.drop k).takeWhile Ch.nb)) := fun k => by rw [Ch.tx_ext, Nat.add_sub_cancel_left, Ch.tw_take]
  have WD : Hid (Ch.wd s = (Ch.wl s.data.toList).map Ch.tx) := rfl
  have LW : Hid (∀ ps : List Ch.L8, (∃ r, ps ++ r = Ch.wl s.data.toList) → ps.length ≤ s.size) := fun ps ⟨r, hr⟩ => by
    have h1 := Ch.wd_le s
    rw [Ch.wd, List.length_map, ← hr, List.length_append] at h1
    omega
  generalize s.data.toList = l at *
  go_enter Tryd.func14, Tryd.ntmps14
  go_wp2_with fail
  go_loopg [3, 4] (s.size + 1) (fun m pv av wr => ∃ k : Nat, k ≤ s.size + 1 ∧ m = s.size + 1 - k ∧ av = .int .i64 (k : Int) ∧ Hid (∃ ps : List Ch.L8, TO w.heap.size wr pv (ps.map Ch.tx) ∧ Below w.heap.size w wr ∧ ps ++ Ch.wl (l.drop k) = Ch.wl l))
  case atStart => exact ⟨0, by omega, by omega, rfl, [], TO.nil _ _, B0.out, by simp⟩
  case round =>
    obtain ⟨k, hk, hm, rfl, J⟩ := hrel
    have HM := hid hm
    clear hm
    by_cases kl : k < s.size
    · have kli : (k : Int) < (s.size : Int) := by omega
      have hsi : (s.size : Int) ≤ 4294967296 := by omega
      obtain ⟨ps, hT, hB, hW⟩ := J.out
      have WA := Ch.wl_at l k (by omega)
      have TI := hid (fun j => Ch.tw_in (l := l) (k := k) (j := j))
      have TE := hid (Ch.tw_end (l := l) (k := k))
      have TL := Ch.tw_le (l := l) (k := k) (by omega)
      have XEk := hid (XE.out k)
      have T0 : Hid ((l.drop k).takeWhile Ch.nb = [] ↔ ((l.drop k).takeWhile Ch.nb).length = 0) := by rw [Hid]; exact List.length_eq_zero_iff.symm
      have WR := hid (show ∃ r, ps ++ r = Ch.wl l from ⟨_, hW⟩)
      have PL := LW.out ps WR.out
      rw [WA] at hW
      generalize (l.drop k).takeWhile Ch.nb = t at *
      generalize hE : k + t.length = E at *
      have HE := hid hE
      have hEs : E ≤ s.size := by omega
      have hkE : k ≤ E := by omega
      have HW := hid hW
      have HT := hid hT
      have HB := hid hB
      clear hW hT hB WA TL hE J hL
      go_wp2_with fail
      go_loopg [5] (E - k) (fun m ev wz => ∃ j : Nat, k ≤ j ∧ j + m = E ∧ ev = .int .i64 (j : Int) ∧ Hid (wz = wr))
      case atStart => exact ⟨k, by omega, by omega, rfl, rfl⟩
      case round =>
        obtain ⟨j, hj1, hj2, rfl, hwz⟩ := hrel
        have hjb : (j : Int) ≤ 4294967296 := by omega
        by_cases jE : j < E
        · obtain ⟨jl, jb⟩ := TI.out j hj1 jE
          have jls : j < s.size := by have := HL.out; omega
          have jli : (j : Int) < (s.size : Int) := by omega
          have BJ := BA.out j
          have SBL := hid (sblank_any (l.getD j 0))
          rw [jb] at SBL
          generalize l.getD j 0 = c at *
          clear jl jb
          go_wp2_with fail
          refine (SBL.out _).mono ?_
          rintro e w2 ⟨rfl, hw2⟩
          rw [hw2]
          go_wp2_with fail
          go_roundg (E - (j + 1))
          case measure => omega
          case rel => exact ⟨j + 1, by omega, by omega, by go_num, hwz⟩
        · obtain rfl : j = E := by omega
          have HWZ := hwz.out
          subst HWZ
          clear hwz TI XE
          by_cases jl : j < s.size
          · have jli : (j : Int) < (s.size : Int) := by omega
            have BJ := BA.out j
            have SBL := hid (sblank_any (l.getD j 0))
            rw [TE.out (by have := HL.out; omega)] at SBL
            clear TE
            generalize l.getD j 0 = c at *
            by_cases t0 : t = []
            · have jk : ¬ (k : Int) < (j : Int) := by have h1 := T0.out.1 t0; have h2 := HE.out; omega
              have F : Hid (∃ ps : List Ch.L8, TO w.heap.size wr u3 (ps.map Ch.tx) ∧ Below w.heap.size w wr ∧ ps ++ Ch.wl (l.drop (j + 1)) = Ch.wl l) := by
                have h := HW.out
                rw [if_pos t0, List.nil_append] at h
                exact ⟨ps, HT.out, HB.out, h⟩
              clear t0 HW HT HB PL
              go_wp2_with fail
              refine (SBL.out _).mono ?_
              rintro e w2 ⟨rfl, hw2⟩
              rw [hw2]
              go_wp2_with fail
              go_roundg (s.size + 1 - (j + 1))
              case measure => have := HM.out; omega
              case rel => exact ⟨j + 1, by omega, by omega, by go_num, F.out⟩
            · have jk : (k : Int) < (j : Int) := by
                have h1 : ¬ t.length = 0 := fun h => t0 (T0.out.2 h)
                have h2 := HE.out
                omega
              obtain ⟨mv', w', ap, h1, h2, h3, -⟩ := HT.out.push (s.extract k j) (by rw [List.length_map]; omega) HB.out.size
              have AP := hid ap
              have F : Hid (∃ ps : List Ch.L8, TO w.heap.size w' mv' (ps.map Ch.tx) ∧ Below w.heap.size w w' ∧ ps ++ Ch.wl (l.drop (j + 1)) = Ch.wl l) := by
                have h := HW.out
                rw [if_neg t0] at h
                rw [XEk.out] at h1
                exact ⟨ps ++ [t], by rw [List.map_append]; exact h1, HB.out.trans h3, by rw [List.append_assoc]; exact h⟩
              clear t0 HW HT HB PL ap h1 h2 h3
              go_wp2_with (at_builtin; refine wpList_append_c rfl _ _ rfl AP.out (by rfl) (by rfl) ?_; clear AP)
              refine (SBL.out _).mono ?_
              rintro e w2 ⟨rfl, hw2⟩
              rw [hw2]
              go_wp2_with (at_builtin; refine wpList_append_c rfl _ _ rfl AP.out (by rfl) (by rfl) ?_; clear AP)
              go_roundg (s.size + 1 - (j + 1))
              case measure => have := HM.out; omega
              case rel => exact ⟨j + 1, by omega, by omega, by go_num, F.out⟩
          · have jli : ¬ (j : Int) < (s.size : Int) := by omega
            clear TE
            by_cases t0 : t = []
            · have jk : ¬ (k : Int) < (j : Int) := by have h1 := T0.out.1 t0; have h2 := HE.out; omega
              have F : Hid (∃ ps : List Ch.L8, TO w.heap.size wr u3 (ps.map Ch.tx) ∧ Below w.heap.size w wr ∧ ps ++ Ch.wl (l.drop (j + 1)) = Ch.wl l) := by
                have h := HW.out
                rw [if_pos t0, List.nil_append] at h
                exact ⟨ps, HT.out, HB.out, h⟩
              clear t0 HW HT HB PL
              go_wp2_with fail
              go_roundg (s.size + 1 - (j + 1))
              case measure => have := HM.out; omega
              case rel => exact ⟨j + 1, by omega, by omega, by go_num, F.out⟩
            · have jk : (k : Int) < (j : Int) := by
                have h1 : ¬ t.length = 0 := fun h => t0 (T0.out.2 h)
                have h2 := HE.out
                omega
              obtain ⟨mv', w', ap, h1, h2, h3, -⟩ := HT.out.push (s.extract k j) (by rw [List.length_map]; omega) HB.out.size
              have AP := hid ap
              have F : Hid (∃ ps : List Ch.L8, TO w.heap.size w' mv' (ps.map Ch.tx) ∧ Below w.heap.size w w' ∧ ps ++ Ch.wl (l.drop (j + 1)) = Ch.wl l) := by
                have h := HW.out
                rw [if_neg t0] at h
                rw [XEk.out] at h1
                exact ⟨ps ++ [t], by rw [List.map_append]; exact h1, HB.out.trans h3, by rw [List.append_assoc]; exact h⟩
              clear t0 HW HT HB PL ap h1 h2 h3
              go_wp2_with (at_builtin; refine wpList_append_c rfl _ _ rfl AP.out (by rfl) (by rfl) ?_; clear AP)
              go_roundg (s.size + 1 - (j + 1))
              case measure => have := HM.out; omega
              case rel => exact ⟨j + 1, by omega, by omega, by go_num, F.out⟩
    · have kli : ¬ (k : Int) < (s.size : Int) := by omega
      go_wp2_with fail
      go_ret
      obtain ⟨ps, hT, hB, hW⟩ := J.out
      rw [List.drop_eq_nil_of_le (by omega), Ch.wl_nil, List.append_nil] at hW
      refine ⟨⟨_, rfl, ?_⟩, hB⟩
      rw [WD.out, ← hW]
      exact hT
end Go.Proofs.YtiggmgagcogakaaDoor
