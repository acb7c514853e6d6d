/-
  record: words, single, pieces, parts, rest: what they hand on.
-/
import Derived.Test.YtiggmgagcogakaaDoorRcD
import Derived.Test.YtiggmgagcogakaaDoorChD
namespace Go.Proofs.YtiggmgagcogakaaDoor
open Go Go.RowKit Go.Deep Go.Shelf

set_option maxRecDepth 100000 in
theorem rwords_any (s : ByteArray) (w : World) : Calls Tryd.prog 23 #[.string s] w fun e w' => e = .returned (.func (.func 30) #[] #[.pointer (some ⟨w.heap.size, 0, none⟩)]) ∧ w' = w.alloc (.cells #[.string s] 9) := by
  go_enter Tryd.func23, Tryd.ntmps23
  go_wp2_with fail
  go_ret
  exact ⟨rfl, rfl⟩
set_option maxRecDepth 100000 in
theorem rsingle_any (s : ByteArray) (w : World) : Calls Tryd.prog 24 #[.string s] w fun e w' => e = .returned (.func (.func 32) #[] #[.pointer (some ⟨w.heap.size, 0, none⟩)]) ∧ w' = w.alloc (.cells #[.string s] 9) := by
  go_enter Tryd.func24, Tryd.ntmps24
  go_wp2_with fail
  go_ret
  exact ⟨rfl, rfl⟩
set_option maxRecDepth 100000 in
theorem rpieces_any (s sep : ByteArray) (w : World) : Calls Tryd.prog 25 #[.string s, .string sep] w fun e w' => e = .returned (.func (.func 33) #[] #[.pointer (some ⟨w.heap.size, 0, none⟩), .pointer (some ⟨w.heap.size + 1, 0, none⟩)]) ∧ w' = (w.alloc (.cells #[.string s] 9)).alloc (.cells #[.string sep] 9) := by
  go_enter Tryd.func25, Tryd.ntmps25
  go_wp2_with fail
  go_ret
  exact ⟨rfl, rfl⟩

/-- The iterator that parts hands on, and what it has laid. -/
def Rc.ptF (fs : ByteArray) : Nat := if fs = ⟨#[32]⟩ then 30 else if fs.size = 0 then 32 else 33
def Rc.ptB (fs : ByteArray) (b : Nat) : Array Value := if fs = ⟨#[32]⟩ then #[.pointer (some ⟨b, 0, none⟩)] else if fs.size = 0 then #[.pointer (some ⟨b, 0, none⟩)] else #[.pointer (some ⟨b, 0, none⟩), .pointer (some ⟨b + 1, 0, none⟩)]
def Rc.ptW (s fs : ByteArray) (w : World) : World := if fs = ⟨#[32]⟩ then w.alloc (.cells #[.string s] 9) else if fs.size = 0 then w.alloc (.cells #[.string s] 9) else (w.alloc (.cells #[.string s] 9)).alloc (.cells #[.string fs] 9)
set_option maxRecDepth 100000 in
theorem rparts_any (s fs : ByteArray) (w : World) : Calls Tryd.prog 19 #[.string s, .string fs] w fun e w' => e = .returned (.func (.func (Rc.ptF fs)) #[] (Rc.ptB fs w.heap.size)) ∧ w' = Rc.ptW s fs w := by
  by_cases h1 : fs = ⟨#[32]⟩
  · subst h1
    have H := hid (rwords_any s w)
    rw [Rc.ptF, Rc.ptB, Rc.ptW, if_pos rfl, if_pos rfl, if_pos rfl]
    go_enter Tryd.func19, Tryd.ntmps19
    go_wp2_with fail
    refine H.out.mono ?_
    rintro e w1 ⟨rfl, hw⟩
    rw [hw]
    clear hw H
    go_wp2_with fail
    go_ret
    exact ⟨rfl, rfl⟩
  · have q1 : (fs.toList == [32]) = false := by
      have := Ch.eq_lit (s := fs) (t := ⟨#[32]⟩)
      rw [decide_eq_false h1, Ch.toList_tx ⟨#[32]⟩] at this
      exact this
    by_cases h2 : fs.size = 0
    · obtain rfl := Ch.size_zero h2
      have H := hid (rsingle_any s w)
      rw [Rc.ptF, Rc.ptB, Rc.ptW, if_neg h1, if_neg h1, if_neg h1, if_pos h2, if_pos h2, if_pos h2]
      go_enter Tryd.func19, Tryd.ntmps19
      go_wp2_with fail
      refine H.out.mono ?_
      rintro e w1 ⟨rfl, hw⟩
      rw [hw]
      clear hw H
      go_wp2_with fail
      go_ret
      exact ⟨rfl, rfl⟩
    · obtain ⟨n1, n2, n3⟩ := Ch.toList_ne h2
      have H := hid (rpieces_any s fs w)
      rw [Rc.ptF, Rc.ptB, Rc.ptW, if_neg h1, if_neg h1, if_neg h1, if_neg h2, if_neg h2, if_neg h2]
      have h3 : ¬ fs.toList = [32] := fun e => h1 (by rw [← Ch.tx_self fs, ← Ch.toList_tx, e]; rfl)
      go_enter Tryd.func19, Tryd.ntmps19
      go_wp2_with fail
      refine H.out.mono ?_
      rintro e w1 ⟨rfl, hw⟩
      rw [hw]
      clear hw H
      go_wp2_with fail
      go_ret
      exact ⟨rfl, rfl⟩

/-- The last field that may be. -/
def Rc.rst (s fs : ByteArray) : ByteArray := if fs = ⟨#[32]⟩ then ⟨(Lib.trimRightS s.data.toList [9, 10, 11, 12, 13, 32]).toArray⟩ else s
theorem rinfo_set : (Tryd.prog.info? (chren.t 116)).map (fun i => (i.zero, i.size)) = some (some (.agg (Array.replicate 256 (.bool false))), 256) := by kernel_rfl
set_option maxRecDepth 100000 in
theorem rrest_any (s fs : ByteArray) (w : World) (hs : s.size ≤ 140737488355400) : Calls Tryd.prog 20 #[.string s, .string fs] w fun e w' => e = .returned (.string (Rc.rst s fs)) ∧ Below w.heap.size w w' := by
  by_cases h1 : fs = ⟨#[32]⟩
  · subst h1
    have H := Any.strings_TrimRight_laid rtrLays rinfo_set s ⟨#[9, 10, 11, 12, 13, 32]⟩ w (by omega) (by decide) (ascii_of_all (by decide +kernel))
    change Calls Tryd.prog 26 _ _ _ at H
    have H := hid H
    rw [show (⟨#[9, 10, 11, 12, 13, 32]⟩ : ByteArray).data.toList = [9, 10, 11, 12, 13, 32] from rfl] at H
    rw [Rc.rst, if_pos rfl]
    generalize (⟨(Lib.trimRightS s.data.toList [9, 10, 11, 12, 13, 32]).toArray⟩ : ByteArray) = x at *
    go_enter Tryd.func20, Tryd.ntmps20
    go_wp2_with fail
    refine H.out.mono ?_
    rintro e w1 ⟨rfl, hb⟩
    have B := hid hb
    clear hb H
    go_wp2_with fail
    go_ret
    exact ⟨rfl, B.out⟩
  · have q1 : (fs.toList == [32]) = false := by
      have := Ch.eq_lit (s := fs) (t := ⟨#[32]⟩)
      rw [decide_eq_false h1, Ch.toList_tx ⟨#[32]⟩] at this
      exact this
    rw [Rc.rst, if_neg h1]
    go_enter Tryd.func20, Tryd.ntmps20
    go_wp2_with fail
    go_ret
    exact ⟨rfl, Below.refl _ _⟩
end Go.Proofs.YtiggmgagcogakaaDoor
