/-
  scan's trim and own, a literal's dec.
-/
import Derived.Test.YtjghlpkjbfaoiaaDoorVTrimR
import Derived.Test.YtjghlpkjbfaoiaaDoorVClone
import Derived.Test.YtjghlpkjbfaoiaaDoorVNum2
import Derived.Test.YtjghlpkjbfaoiaaDoorVRead0
namespace Go.Proofs.YtjghlpkjbfaoiaaDoor
open Go Go.RowKit Go.Deep

def decV (neg : Bool) (s : ByteArray) (e : Int) : Value := .agg #[.bool neg, .string s, .int .i64 e]
/-- A value is this Dec. -/
def DecIs (v : Value) (d : Sc.D) : Prop := ∃ s, v = decV d.neg s d.e ∧ Str s d.ds

/-- Three cells that may be written. -/
def Row3 (w : World) (b : Nat) (v0 v1 v2 : Value) : Prop := w.heap[b]? = some (.cells #[v0, v1, v2] 29 (0, 0))
theorem Row3.new (w : World) (v0 v1 v2 : Value) : Row3 (w.alloc (.cells #[v0, v1, v2] 29)) w.heap.size v0 v1 v2 := heap_alloc_new w _
theorem Row3.below {B : Nat} {w w' : World} {b : Nat} {v0 v1 v2 : Value} (h : Row3 w b v0 v1 v2) (hB : Below B w w') (hb : b < B) : Row3 w' b v0 v1 v2 := by
  rw [Row3, hB.block b hb]; exact h
theorem Row3.lt {w : World} {b : Nat} {v0 v1 v2 : Value} (h : Row3 w b v0 v1 v2) : b < w.heap.size := by
  rcases Nat.lt_or_ge b w.heap.size with hl | hl
  · exact hl
  · simp [Row3, Array.getElem?_eq_none hl] at h
theorem Row3.cells {w : World} {b : Nat} {v0 v1 v2 : Value} (h : Row3 w b v0 v1 v2) :
    (w.cell? ⟨b, 0, none⟩ = some v0 ∧ w.cell? ⟨b, 1, none⟩ = some v1 ∧ w.cell? ⟨b, 2, none⟩ = some v2) ∧
    (w.frozen? ⟨b, 0, none⟩ = false ∧ w.frozen? ⟨b, 1, none⟩ = false ∧ w.frozen? ⟨b, 2, none⟩ = false) := by
  simp only [Row3] at h
  refine ⟨⟨?_, ?_, ?_⟩, ⟨?_, ?_, ?_⟩⟩ <;> simp [World.cell?, World.frozen?, h]
theorem Row3.put {w : World} {b : Nat} {v0 v1 v2 : Value} (h : Row3 w b v0 v1 v2) (u0 u1 u2 : Value) :
    Row3 (((w.setCell ⟨b, 0, none⟩ u0).setCell ⟨b, 1, none⟩ u1).setCell ⟨b, 2, none⟩ u2) b u0 u1 u2 := by
  have h0 := set1 (o := 0) (v := u0) (c' := #[u0, v1, v2]) h (by simp [Array.setIfInBounds])
  have h1 := set1 (o := 1) (v := u1) (c' := #[u0, u1, v2]) h0 (by simp [Array.setIfInBounds])
  exact set1 (o := 2) (v := u2) (c' := #[u0, u1, u2]) h1 (by simp [Array.setIfInBounds])
theorem Row3.far {w : World} {b c o : Nat} {v v0 v1 v2 : Value} (h : Row3 w b v0 v1 v2) (hc : c ≠ b) : Row3 (w.setCell ⟨c, o, none⟩ v) b v0 v1 v2 := by
  simp only [Row3] at *
  simp only [World.setCell, Array.getElem?_modify]
  rw [if_neg hc]; exact h
theorem set3_below {B : Nat} {w w' : World} {b : Nat} {u0 u1 u2 : Value} (h : Below B w w') (hb : B ≤ b) : Below B w (((w'.setCell ⟨b, 0, none⟩ u0).setCell ⟨b, 1, none⟩ u1).setCell ⟨b, 2, none⟩ u2) :=
  ((h.setCell (p := ⟨b, 0, none⟩) hb u0).setCell (p := ⟨b, 1, none⟩) hb u1).setCell (p := ⟨b, 2, none⟩) hb u2

/-- Two boxes for Decs, new. -/
def Two3 (w w' : World) (v0 v1 v2 u0 u1 u2 : Value) : Prop := Below w.heap.size w w' ∧ Row3 w' w.heap.size v0 v1 v2 ∧ Row3 w' (w.heap.size + 1) u0 u1 u2
theorem Two3.new (w : World) (v0 v1 v2 u0 u1 u2 : Value) : Two3 w ((w.alloc (.cells #[v0, v1, v2] 29)).alloc (.cells #[u0, u1, u2] 29)) v0 v1 v2 u0 u1 u2 :=
  ⟨below_on (alloc_b _ _) (alloc_b _ _), heap_alloc2_old _ _ _, heap_alloc2_new _ _ _⟩
theorem Two3.on {w w' w'' : World} {v0 v1 v2 u0 u1 u2 : Value} (h : Two3 w w' v0 v1 v2 u0 u1 u2) (k : Below w'.heap.size w' w'') : Two3 w w'' v0 v1 v2 u0 u1 u2 :=
  ⟨below_on h.1 k, h.2.1.below k h.2.1.lt, h.2.2.below k h.2.2.lt⟩
theorem Two3.putB {w w' : World} {v0 v1 v2 u0 u1 u2 : Value} (h : Two3 w w' v0 v1 v2 u0 u1 u2) (x0 x1 x2 : Value) : Two3 w (((w'.setCell ⟨w.heap.size + 1, 0, none⟩ x0).setCell ⟨w.heap.size + 1, 1, none⟩ x1).setCell ⟨w.heap.size + 1, 2, none⟩ x2) v0 v1 v2 x0 x1 x2 :=
  ⟨set3_below h.1 (Nat.le_succ _), ((h.2.1.far (by omega)).far (by omega)).far (by omega), h.2.2.put _ _ _⟩
theorem Two3.putA {w w' : World} {v0 v1 v2 u0 u1 u2 : Value} (h : Two3 w w' v0 v1 v2 u0 u1 u2) (x0 x1 x2 : Value) : Two3 w (((w'.setCell ⟨w.heap.size, 0, none⟩ x0).setCell ⟨w.heap.size, 1, none⟩ x1).setCell ⟨w.heap.size, 2, none⟩ x2) x0 x1 x2 u0 u1 u2 :=
  ⟨set3_below h.1 (Nat.le_refl _), h.2.1.put _ _ _, ((h.2.2.far (by omega)).far (by omega)).far (by omega)⟩

theorem str_zero : Str ⟨#[48]⟩ [48] := rfl

theorem dec_ret {v : Value} {d : Sc.D} {w w' : World} (h : DecIs v d) (b : Below w.heap.size w w') : ∃ v', Ending.returned v = .returned v' ∧ DecIs v' d ∧ Below w.heap.size w w' := ⟨v, rfl, h, b⟩

set_option maxRecDepth 100000 in
set_option maxHeartbeats 1000000 in
theorem trim_any (neg : Bool) (s : ByteArray) (xs : List Int) (e : Int) (w : World) (hs : Str s xs) (hn : xs.length ≤ 281474976710656) (e0 : -4611686018427387904 ≤ e) (e1 : e ≤ 4611686018427387904) :
    Calls Tryd.prog 52 #[decV neg s e] w fun r w' => ∃ v, r = .returned v ∧ DecIs v (Sc.nrm neg xs e) ∧ Below w.heap.size w w' := by
  have L := hid (fun wx => strim_any s xs wx hs (by omega))
  have HN := hid hn
  clear hs hn
  unfold decV
  go_enter Tryd.func52, Tryd.ntmps52
  go_wp2_with fail
  refine (L.out _).mono ?_
  rintro r w1 ⟨⟨s1, j, rfl, ⟨b1, b2, b3⟩, b4⟩, rfl⟩
  by_cases h : j = xs.length
  · have hs1 : s1 = ⟨#[]⟩ := b1.inj (by rw [List.drop_of_length_le (by omega)]; rfl)
    have F : Hid (Sc.nrm neg xs e = ⟨neg, [48], 0⟩) := Sc.nrm_of_none (fun i hi => b3 i (by omega))
    subst hs1
    clear b1 b2 b3 b4
    go_wp2_with fail
    (try simp only [Exit.inBlock, Exit.then])
    refine bodyPost_ret (results_cell_row rfl _ _ (w.heap.size + 1) 29 _ (0, 0) _ rfl (Two3.new w _ _ _ _ _ _).2.2 Tryd.underlying29 rfl (by kernel_rfl)) rfl ?_
    exact dec_ret (by rw [F.out]; exact ⟨_, rfl, str_zero⟩) (Two3.new w _ _ _ _ _ _).1
  · have hlt : j < xs.length := by omega
    have hne := b4 hlt
    have R := hid (fun wx => rtrim0_any s1 (xs.drop j) wx b1 (by have := HN.out; simp; omega))
    have hsz : s1.size = xs.length - j := by have := b1.size; simpa using this
    have q1 : s1.toList ≠ [] := by
      intro c
      have : s1.size = 0 := by
        rw [ByteArray.toList_eq] at c
        have := congrArg List.length c
        rw [Array.length_toList] at this
        exact this
      omega
    have q2 : (s1.toList == []) = false := by rw [beq_eq_false_iff_ne]; exact q1
    have q3 : s1.toList.isEmpty = false := by rw [List.isEmpty_eq_false_iff]; exact q1
    have N2 : Hid (∀ k, k ≤ (xs.drop j).length → (∀ i, k ≤ i → i < (xs.drop j).length → (xs.drop j).getD i 0 = 48) → (0 < k → (xs.drop j).getD (k - 1) 0 ≠ 48) → Sc.nrm neg xs e = ⟨neg, (xs.drop j).take k, e + (xs.drop j).length - k⟩ ∧ 0 < k) := fun k x1 x2 x3 => Sc.nrm_of_trims hlt b3 hne x1 x2 x3
    have HL : Hid ((xs.drop j).length = xs.length - j) := by show _ = _; simp
    obtain ⟨m, hm⟩ : ∃ m, xs.length - j = m := ⟨_, rfl⟩
    rw [hm] at hsz HL
    have hmb : (m : Int) ≤ 281474976710656 := by have := HN.out; omega
    clear b1 b2 b3 b4 hlt hne hm h
    go_wp2_with fail
    refine (R.out _).mono ?_
    rintro r w2 ⟨⟨s2, k, rfl, c1, c2, c3, c4⟩, rfl⟩
    have NN := hid (N2.out k c2 c3 c4)
    have hk2 : s2.size = k := by have := c1.size; rw [List.length_take] at this; omega
    have hkm : (k : Int) ≤ (m : Int) := by have := HL.out; omega
    have HC := hid c1
    clear c1 c2 c3 c4 R N2 L
    go_wp2_with fail
    (try simp only [Exit.inBlock, Exit.then])
    refine bodyPost_ret (results_cell_row rfl _ _ (w.heap.size + 1) 29 _ (0, 0) _ rfl (Two3.new w _ _ _ _ _ _).2.2 Tryd.underlying29 rfl (by kernel_rfl)) rfl ?_
    exact dec_ret (by rw [NN.out.1, HL.out]; exact ⟨_, rfl, HC.out⟩) (Two3.new w _ _ _ _ _ _).1
end Go.Proofs.YtjghlpkjbfaoiaaDoor
