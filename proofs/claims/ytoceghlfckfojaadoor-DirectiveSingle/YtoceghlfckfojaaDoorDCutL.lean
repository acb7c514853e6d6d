/-
  abacuslaw13's cut; a list of pieces put behind another one.
-/
import Derived.Test.YtoceghlfckfojaaDoorDSgM
import Derived.Test.YtoceghlfckfojaaDoorDRefMN
import Derived.Test.YtoceghlfckfojaaDoorDSgl
namespace Go.Proofs.YtoceghlfckfojaaDoor
open Go Go.RowKit Go.Deep Go.Shelf

theorem cut_strings {s : ByteArray} {xs : List Int} (h : Str s xs) (a b : Nat) : s.extract a b = strOfNums ((xs.drop a).take (b - a)) :=
  (h.extract a b).inj (Str.of_nums (fun _ hx => h.mem (List.mem_of_mem_drop (List.mem_of_mem_take hx))))

def CutI (xs : List Int) (i f : Nat) (D : List Dr.Pc) : Prop := f ≤ i ∧ i ≤ xs.length + 1 ∧ f ≤ xs.length + 1 ∧ D.length ≤ 2 * f ∧ (i ≤ xs.length → Dr.cutL xs = D ++ Dr.cutF ((xs.drop f).take (i - f)) (xs.drop i)) ∧ (i = xs.length + 1 → Dr.cutL xs = D)

set_option maxRecDepth 100000 in
set_option maxHeartbeats 2000000 in
theorem cut_any (s : ByteArray) (xs : List Int) (w : World) (hs : Str s xs) (hl : xs.length ≤ 1048576) :
    Calls Tryd.prog 14 #[.string s] w fun r w' => ∃ mv, r = .returned mv ∧ RowP w.heap.size w' mv (Dr.cutL xs) ∧ Below w.heap.size w w' := by
  have SX := hid hs.size
  have HSs := hid hs
  have HS : Hid (∀ k, ∀ h : k < s.size, ((s[k]'h).toNat : Int) = Dr.nx xs k) := fun k h => hs.at k h
  have hsz : (s.size : Int) ≤ 1048576 := by have := SX.out; omega
  have S0 : Hid (CutI xs 0 0 []) := ⟨by omega, by omega, by omega, by simp, fun _ => by simp [Dr.cutL], fun h => by omega⟩
  clear hs hl
  go_enter Tryd.func14, Tryd.ntmps14
  go_wp2_with fail
  go_loopg [3, 4, 5] (xs.length + 1) (fun m mv fv iv wr => ∃ (i f : Nat) (D : List Dr.Pc), i + m = xs.length + 1 ∧ fv = .int .i64 (f : Int) ∧ iv = .int .i64 (i : Int) ∧ Hid (Below w.heap.size w wr ∧ RowP w.heap.size wr mv D ∧ CutI xs i f D))
  case atStart => exact ⟨0, 0, [], by omega, rfl, rfl, Below.refl _ _, RowP.nil _ _, S0.out⟩
  case round =>
    obtain ⟨i, f, D, hi, rfl, rfl, I⟩ := hrel
    have szw := I.out.1.size
    obtain ⟨j1, j2, j3, j4, j5, j6⟩ := I.out.2.2
    have J5 := hid j5
    have J6 := hid j6
    clear j5 j6
    by_cases il : i ≤ s.size
    · have ili : (i : Int) ≤ (s.size : Int) := by omega
      have fi : (f : Int) ≤ (i : Int) := by omega
      by_cases hlt : i < s.size
      · have hlti : (i : Int) < (s.size : Int) := by omega
        have hx : i < xs.length := by have := SX.out; omega
        have ki : ∀ h : i < s.size, ((s[i]'h).toNat : Int) = Dr.nx xs i := fun h => HS.out i h
        by_cases h37 : Dr.nx xs i = 37
        · have PC := J5.out (by omega)
          rw [Dr.cut_pct hx h37] at PC
          rw [h37] at ki
          by_cases hf : f < i
          · -- a text and a percent
            have hfi : (f : Int) < (i : Int) := by omega
            have tn : ¬ (xs.drop f).take (i - f) = [] := fun q => by
              have := congrArg List.length q
              simp only [List.length_take, List.length_drop, List.length_nil] at this; omega
            rw [if_neg tn] at PC
            obtain ⟨mv1, w2, ap, q1, q2, q3, q4⟩ := I.out.2.1.push (Dr.txt ((xs.drop f).take (i - f))) (by have := SX.out; omega) szw
            have B2 := I.out.1.trans q3
            obtain ⟨mv2, w3, bp, r1, r2, r3, r4⟩ := q1.push Dr.pct (by rw [List.length_append]; have := SX.out; simp; omega) B2.size
            have F : Hid (Below w.heap.size w w3 ∧ RowP w.heap.size w3 mv2 (D ++ [Dr.txt ((xs.drop f).take (i - f))] ++ [Dr.pct]) ∧ CutI xs (i + 1) (i + 1) (D ++ [Dr.txt ((xs.drop f).take (i - f))] ++ [Dr.pct])) := by
              refine ⟨B2.trans r3, r1, by omega, by omega, by omega, ?_, fun _ => ?_, fun h => by omega⟩
              · simp only [List.length_append, List.length_cons, List.length_nil]; omega
              · rw [PC, Nat.sub_self, List.take_zero]; simp
            have AP : Hid ((Builtin.append_ #[26, 26] 26 #[u3, .slice (some ⟨wr.heap.size, 0, none⟩) 1 1]).run Tryd.prog (wr.alloc (.cells #[.string (s.extract f i), .int .u8 0, .int .i64 0, .int .i64 0, .int .i64 0, .int .i64 0, .int .i64 0] 25)) = .ok mv1 w2) := by
              rw [cut_strings HSs.out]; exact ap
            have BP : Hid ((Builtin.append_ #[26, 26] 26 #[mv1, .slice (some ⟨w2.heap.size, 0, none⟩) 1 1]).run Tryd.prog (w2.alloc (.cells #[.string ⟨#[]⟩, .int .u8 37, .int .i64 0, .int .i64 0, .int .i64 0, .int .i64 0, .int .i64 0] 25)) = .ok mv2 w3) := bp
            clear ap bp q1 q2 q3 q4 r1 r2 r3 r4 B2 PC J5 J6 I tn j1 j2 j3 j4 h37 szw
            go_wp2_with (at_builtin; first | (refine wpList_append_b rfl _ _ rfl AP.out (by rfl) (by rfl) ?_; clear AP) | (refine wpList_append_b rfl _ _ rfl BP.out (by rfl) (by rfl) ?_; clear BP))
            go_roundg (xs.length + 1 - (i + 1))
            case measure => omega
            case rel => exact ⟨i + 1, i + 1, _, by omega, by go_num, by go_num, F.out⟩
          · -- a percent
            have hfi : ¬ (f : Int) < (i : Int) := by omega
            have fe : f = i := by omega
            rw [if_pos (by rw [fe, Nat.sub_self, List.take_zero])] at PC
            obtain ⟨mv2, w3, bp, r1, r2, r3, r4⟩ := I.out.2.1.push Dr.pct (by have := SX.out; omega) szw
            have F : Hid (Below w.heap.size w w3 ∧ RowP w.heap.size w3 mv2 (D ++ [Dr.pct]) ∧ CutI xs (i + 1) (i + 1) (D ++ [Dr.pct])) := by
              refine ⟨I.out.1.trans r3, r1, by omega, by omega, by omega, ?_, fun _ => ?_, fun h => by omega⟩
              · simp only [List.length_append, List.length_cons, List.length_nil]; omega
              · rw [PC, Nat.sub_self, List.take_zero]; simp
            have BP : Hid ((Builtin.append_ #[26, 26] 26 #[u3, .slice (some ⟨wr.heap.size, 0, none⟩) 1 1]).run Tryd.prog (wr.alloc (.cells #[.string ⟨#[]⟩, .int .u8 37, .int .i64 0, .int .i64 0, .int .i64 0, .int .i64 0, .int .i64 0] 25)) = .ok mv2 w3) := bp
            clear bp r1 r2 r3 r4 PC J5 J6 I j1 j2 j3 j4 h37 szw fe
            go_wp2_with (at_builtin; refine wpList_append_b rfl _ _ rfl BP.out (by rfl) (by rfl) ?_; clear BP)
            go_roundg (xs.length + 1 - (i + 1))
            case measure => omega
            case rel => exact ⟨i + 1, i + 1, _, by omega, by go_num, by go_num, F.out⟩
        · have F : Hid (Below w.heap.size w wr ∧ RowP w.heap.size wr u3 D ∧ CutI xs (i + 1) f D) := by
            refine ⟨I.out.1, I.out.2.1, by omega, by omega, by omega, j4, fun _ => ?_, fun h => by omega⟩
            rw [J5.out (by omega), Dr.cut_text hx j1 h37]
          have k38 : (Dr.nx xs i == 37) = false := by simpa using h37
          have k39 : (Dr.nx xs i != 37) = true := by simpa using h37
          clear J5 J6 I j1 j2 j3 j4 h37 szw
          generalize Dr.nx xs i = x at *
          go_wp2_with fail
          go_roundg (xs.length + 1 - (i + 1))
          case measure => omega
          case rel => exact ⟨i + 1, f, D, by omega, rfl, by go_num, F.out⟩
      · have hlti : ¬ (i : Int) < (s.size : Int) := by omega
        have ie : i = xs.length := by have := SX.out; omega
        have IE := hid ie
        have HI := hid hi
        have PC := J5.out (by omega)
        rw [ie, List.drop_length] at PC
        by_cases hf : f < i
        · have hfi : (f : Int) < (i : Int) := by omega
          have tn : ¬ (xs.drop f).take (i - f) = [] := fun q => by
            have := congrArg List.length q
            simp only [List.length_take, List.length_drop, List.length_nil] at this; omega
          rw [ie] at tn
          rw [Dr.cutF, if_neg tn, ← ie] at PC
          obtain ⟨mv1, w2, ap, q1, q2, q3, q4⟩ := I.out.2.1.push (Dr.txt ((xs.drop f).take (i - f))) (by have := SX.out; omega) szw
          have F : Hid (Below w.heap.size w w2 ∧ RowP w.heap.size w2 mv1 (D ++ [Dr.txt ((xs.drop f).take (i - f))]) ∧ CutI xs (i + 1) (i + 1) (D ++ [Dr.txt ((xs.drop f).take (i - f))])) := by
            refine ⟨I.out.1.trans q3, q1, by omega, by omega, by omega, ?_, fun h => by omega, fun _ => PC⟩
            simp only [List.length_append, List.length_cons, List.length_nil]; omega
          have AP : Hid ((Builtin.append_ #[26, 26] 26 #[u3, .slice (some ⟨wr.heap.size, 0, none⟩) 1 1]).run Tryd.prog (wr.alloc (.cells #[.string (s.extract f i), .int .u8 0, .int .i64 0, .int .i64 0, .int .i64 0, .int .i64 0, .int .i64 0] 25)) = .ok mv1 w2) := by
            rw [cut_strings HSs.out]; exact ap
          have ib : (i : Int) ≤ 1048576 := by omega
          have i2 : i ≤ s.size := by omega
          clear ap q1 q2 q3 q4 PC J5 J6 I tn j1 j2 j3 j4 szw ie
          go_wp2_with (at_builtin; refine wpList_append_b rfl _ _ rfl AP.out (by rfl) (by rfl) ?_; clear AP)
          go_roundg (xs.length + 1 - (i + 1))
          case measure => have := IE.out; have := HI.out; omega
          case rel => exact ⟨i + 1, i + 1, _, by have := IE.out; have := HI.out; omega, by go_num, by go_num, F.out⟩
        · have hfi : ¬ (f : Int) < (i : Int) := by omega
          have fe : f = i := by omega
          rw [Dr.cutF, if_pos (by rw [fe, ie, Nat.sub_self, List.take_zero])] at PC
          have F : Hid (Below w.heap.size w wr ∧ RowP w.heap.size wr u3 D ∧ CutI xs (i + 1) (i + 1) D) :=
            ⟨I.out.1, I.out.2.1, by omega, by omega, by omega, by omega, fun h => by omega, fun _ => by rw [PC]; simp⟩
          clear PC J5 J6 I j1 j2 j3 j4 szw ie fe
          go_wp2_with fail
          go_roundg (xs.length + 1 - (i + 1))
          case measure => have := IE.out; have := HI.out; omega
          case rel => exact ⟨i + 1, i + 1, _, by have := IE.out; have := HI.out; omega, by go_num, by go_num, F.out⟩
    · have ili : ¬ (i : Int) ≤ (s.size : Int) := by omega
      have e := J6.out (by have := SX.out; omega)
      have RW := hid I.out.2.1
      have B1 := hid I.out.1
      rw [← e] at RW
      clear J5 J6 I e
      go_wp2_with fail
      go_ret
      exact ⟨_, rfl, RW.out, B1.out⟩
end Go.Proofs.YtoceghlfckfojaaDoor
