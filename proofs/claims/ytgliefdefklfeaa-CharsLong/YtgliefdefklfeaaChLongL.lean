/-
  law20: CharsLong.
-/
import Derived.Test.YtgliefdefklfeaaChLong
namespace Go.Proofs.Ytgliefdefklfeaa
open Go Go.RowKit Go.Deep Go.Shelf

/-- The texts of the closed law. -/
structure LgF (h : ByteArray) (S : ByteArray) : Prop where
  hs : h.size = 8388608
  hm : ∀ x ∈ h.data.toList, x = 97
  sl : S.data.toList = h.data.toList ++ h.data.toList
  ss : S.size = 16777216

theorem LgF.mk' (N : Nat) (hN : N = 8388608) : LgF (Ch.tx (Ch.ra N)) (Ch.tx (Ch.ra N ++ Ch.ra N)) :=
  ⟨by rw [Ch.tx_size, Ch.ra_len, hN], by rw [Ch.tx_data]; exact fun x hx => Ch.ra_mem hx, by rw [Ch.tx_data, Ch.tx_data], by rw [Ch.tx_size, List.length_append, Ch.ra_len]; omega⟩
theorem LgF.eqS {h S : ByteArray} (F : LgF h S) : Ch.tx (h.data.toList ++ h.data.toList) = S := by rw [← F.sl, Ch.tx_self]
theorem LgF.len {h S : ByteArray} (F : LgF h S) : h.data.toList.length = 8388608 := by rw [Ch.size_len, F.hs]
theorem LgF.ne {h S : ByteArray} (F : LgF h S) (d : UInt8) (hd : d ≠ 97) : ∀ x ∈ h.data.toList, x ≠ d := fun x hx q => hd (by rw [← q, F.hm x hx])
theorem LgF.ne2 {h S : ByteArray} (F : LgF h S) (d : UInt8) (hd : d ≠ 97) : ∀ x ∈ h.data.toList ++ h.data.toList, x ≠ d := fun x hx => by
  rcases List.mem_append.1 hx with q | q
  · exact F.ne d hd x q
  · exact F.ne d hd x q
theorem LgF.small {h S : ByteArray} (F : LgF h S) (xs : List ByteArray) (hx : ∀ x ∈ xs, x = h ∨ x = ⟨#[121]⟩) (i : Nat) : (xs.getD i ByteArray.empty).size ≤ 140737488355328 := by
  by_cases hi : i < xs.length
  · have hm : xs.getD i ByteArray.empty ∈ xs := by rw [List.getD_eq_getElem?_getD, List.getElem?_eq_getElem hi]; exact List.getElem_mem hi
    rcases hx _ hm with e | e
    · rw [e, F.hs]; decide
    · rw [e]; decide
  · rw [show xs.getD i ByteArray.empty = ByteArray.empty by simp [List.getD, List.getElem?_eq_none (show xs.length ≤ i by omega)]]
    exact Nat.zero_le _
theorem LgF.j1 {h S : ByteArray} (F : LgF h S) (wx : World) : Calls Try.prog 14 #[.slice (some ⟨wx.heap.size, 0, none⟩) 2 2, .string ⟨#[]⟩] (wx.alloc (.cells #[.string h, .string h] 9)) fun e w' => e = .returned (.tuple #[.string S, .int .i64 0]) ∧ Below wx.heap.size wx w' := by
  have A := alloc_b wx (.cells #[.string h, .string h] 9)
  have hj : Ch.jn [] [h, h] = h.data.toList ++ h.data.toList := by rw [Ch.jn_cons, Ch.ja, Ch.ja]; simp
  have hl : (Ch.jn [] [h, h]).length ≤ 16777216 := by rw [hj, List.length_append, F.len]; decide
  refine (cjoin_any _ 2 [h, h] ⟨#[]⟩ _ (tr_allocL wx [h, h]) (by simp) (F.small _ (by intro x hx; simp at hx; exact .inl hx)) (by decide)).mono ?_
  rintro e w' ⟨rfl, b⟩
  exact ⟨by rw [show (⟨#[]⟩ : ByteArray).data.toList = [] from rfl, Ch.jS, Ch.jE, if_pos hl, if_pos hl, hj, F.eqS], below_on A b⟩
theorem LgF.j2 {h S : ByteArray} (F : LgF h S) (wx : World) : Calls Try.prog 14 #[.slice (some ⟨wx.heap.size, 0, none⟩) 2 2, .string ⟨#[120]⟩] (wx.alloc (.cells #[.string h, .string h] 9)) fun e w' => e = .returned (.tuple #[.string ⟨#[]⟩, .int .i64 3]) ∧ Below wx.heap.size wx w' := by
  have A := alloc_b wx (.cells #[.string h, .string h] 9)
  have hj : (Ch.jn [120] [h, h]).length = 16777217 := by rw [Ch.jn_cons, Ch.ja, Ch.ja, List.length_append, List.length_append, List.length_append, F.len]; rfl
  have hl : ¬ (Ch.jn [120] [h, h]).length ≤ 16777216 := by rw [hj]; decide
  refine (cjoin_any _ 2 [h, h] ⟨#[120]⟩ _ (tr_allocL wx [h, h]) (by simp) (F.small _ (by intro x hx; simp at hx; exact .inl hx)) (by decide)).mono ?_
  rintro e w' ⟨rfl, b⟩
  exact ⟨by rw [show (⟨#[120]⟩ : ByteArray).data.toList = [120] from rfl, Ch.jS, Ch.jE, if_neg hl, if_neg hl]; rfl, below_on A b⟩
theorem LgF.j3 {h S : ByteArray} (F : LgF h S) (wx : World) : Calls Try.prog 15 #[.slice (some ⟨wx.heap.size, 0, none⟩) 3 3] (wx.alloc (.cells #[.string h, .string h, .string ⟨#[121]⟩] 9)) fun e w' => e = .returned (.tuple #[.string ⟨#[]⟩, .int .i64 3]) ∧ Below wx.heap.size wx w' := by
  have A := alloc_b wx (.cells #[.string h, .string h, .string ⟨#[121]⟩] 9)
  have hj : (Ch.jn [] [h, h, ⟨#[121]⟩]).length = 16777217 := by rw [Ch.jn_cons, Ch.ja, Ch.ja, Ch.ja]; simp only [List.length_append, F.len]; rfl
  have hl : ¬ (Ch.jn [] [h, h, ⟨#[121]⟩]).length ≤ 16777216 := by rw [hj]; decide
  refine (ccat_any _ 3 [h, h, ⟨#[121]⟩] _ (tr_allocL wx [h, h, ⟨#[121]⟩]) (by simp) (F.small _ (by intro x hx; simp at hx; rcases hx with e | e; exact .inl e; exact .inr e))).mono ?_
  rintro e w' ⟨rfl, b⟩
  exact ⟨by rw [Ch.jS, Ch.jE, if_neg hl, if_neg hl]; rfl, below_on A b⟩
theorem LgF.j4 {h S : ByteArray} (F : LgF h S) (wx : World) : Calls Try.prog 15 #[.slice (some ⟨wx.heap.size, 0, none⟩) 2 2] (wx.alloc (.cells #[.string h, .string h] 9)) fun e w' => e = .returned (.tuple #[.string S, .int .i64 0]) ∧ Below wx.heap.size wx w' := by
  have A := alloc_b wx (.cells #[.string h, .string h] 9)
  have hj : Ch.jn [] [h, h] = h.data.toList ++ h.data.toList := by rw [Ch.jn_cons, Ch.ja, Ch.ja]; simp
  have hl : (Ch.jn [] [h, h]).length ≤ 16777216 := by rw [hj, List.length_append, F.len]; decide
  refine (ccat_any _ 2 [h, h] _ (tr_allocL wx [h, h]) (by simp) (F.small _ (by intro x hx; simp at hx; exact .inl hx))).mono ?_
  rintro e w' ⟨rfl, b⟩
  exact ⟨by rw [Ch.jS, Ch.jE, if_pos hl, if_pos hl, hj, F.eqS], below_on A b⟩
theorem LgF.r1 {h S : ByteArray} (F : LgF h S) (wx : World) (hx : ML wx) : Calls Try.prog 16 #[.string (h ++ ⟨#[98]⟩), .string ⟨#[98]⟩, .string h, .int .i64 (-1)] wx fun e w' => e = .returned (.tuple #[.string S, .int .i64 1, .int .i64 0]) ∧ Below wx.heap.size wx w' := by
  have hd : (h ++ ⟨#[98]⟩ : ByteArray).data.toList = h.data.toList ++ [98] := by rw [Ch.app_data]
  have hz : (h ++ ⟨#[98]⟩ : ByteArray).size = 8388609 := by rw [← Ch.size_len, hd, List.length_append, F.len]; rfl
  have hne := F.ne 98 (by decide)
  have hN : Ch.rn (h.data.toList ++ [98]) [98] (-1) = 1 := by rw [Ch.rn, if_pos (by decide), Ch.cn_end hne]
  have hK : Ch.rk [98] (h.data.toList) 1 (h.data.toList ++ [98]) = h.data.toList ++ h.data.toList := Ch.rep_end hne _
  have hl : (h.data.toList ++ h.data.toList).length ≤ 16777216 := by rw [List.length_append, F.len]; decide
  refine (creplace_any (h ++ ⟨#[98]⟩) ⟨#[98]⟩ h (-1) wx hx (by rw [hz]; decide) (by rw [F.hs]; decide) (by decide) (by decide) (by decide)).mono ?_
  rintro e w' ⟨rfl, b⟩
  refine ⟨?_, b⟩
  rw [hd, show (⟨#[98]⟩ : ByteArray).data.toList = [98] from rfl, Ch.rT, Ch.rC, Ch.rE, hN, hK, if_pos hl, if_pos hl, if_pos hl, F.eqS]
  rfl
theorem LgF.r2 {h S : ByteArray} (F : LgF h S) (wx : World) (hx : ML wx) : Calls Try.prog 16 #[.string (h ++ ⟨#[98]⟩), .string ⟨#[98]⟩, .string (h ++ ⟨#[99]⟩), .int .i64 (-1)] wx fun e w' => e = .returned (.tuple #[.string ⟨#[]⟩, .int .i64 0, .int .i64 3]) ∧ Below wx.heap.size wx w' := by
  have hd : (h ++ ⟨#[98]⟩ : ByteArray).data.toList = h.data.toList ++ [98] := by rw [Ch.app_data]
  have hz : (h ++ ⟨#[98]⟩ : ByteArray).size = 8388609 := by rw [← Ch.size_len, hd, List.length_append, F.len]; rfl
  have hd2 : (h ++ ⟨#[99]⟩ : ByteArray).data.toList = h.data.toList ++ [99] := by rw [Ch.app_data]
  have hz2 : (h ++ ⟨#[99]⟩ : ByteArray).size = 8388609 := by rw [← Ch.size_len, hd2, List.length_append, F.len]; rfl
  have hne := F.ne 98 (by decide)
  have hN : Ch.rn (h.data.toList ++ [98]) [98] (-1) = 1 := by rw [Ch.rn, if_pos (by decide), Ch.cn_end hne]
  have hK : Ch.rk [98] (h.data.toList ++ [99]) 1 (h.data.toList ++ [98]) = h.data.toList ++ (h.data.toList ++ [99]) := Ch.rep_end hne _
  have hl : ¬ (h.data.toList ++ (h.data.toList ++ [99])).length ≤ 16777216 := by rw [List.length_append, List.length_append, F.len]; decide
  refine (creplace_any (h ++ ⟨#[98]⟩) ⟨#[98]⟩ (h ++ ⟨#[99]⟩) (-1) wx hx (by rw [hz]; decide) (by rw [hz2]; decide) (by decide) (by decide) (by decide)).mono ?_
  rintro e w' ⟨rfl, b⟩
  refine ⟨?_, b⟩
  rw [hd, hd2, show (⟨#[98]⟩ : ByteArray).data.toList = [98] from rfl, Ch.rT, Ch.rC, Ch.rE, hN, hK, if_neg hl, if_neg hl, if_neg hl]
  rfl
theorem LgF.r3 {h S : ByteArray} (F : LgF h S) (wx : World) (hx : ML wx) : Calls Try.prog 16 #[.string (S ++ ⟨#[122]⟩), .string ⟨#[113]⟩, .string ⟨#[]⟩, .int .i64 (-1)] wx fun e w' => e = .returned (.tuple #[.string ⟨#[]⟩, .int .i64 0, .int .i64 3]) ∧ Below wx.heap.size wx w' := by
  have hd : (S ++ ⟨#[122]⟩ : ByteArray).data.toList = h.data.toList ++ h.data.toList ++ [122] := by rw [Ch.app_data, F.sl]
  have hz : (S ++ ⟨#[122]⟩ : ByteArray).size = 16777217 := by rw [← Ch.size_len, hd, List.length_append, List.length_append, F.len]; rfl
  have hne : ∀ x ∈ h.data.toList ++ h.data.toList ++ [122], x ≠ (113 : UInt8) := fun x hx => by
    rcases List.mem_append.1 hx with q | q
    · exact F.ne2 113 (by decide) x q
    · rw [List.mem_singleton.1 q]; decide
  have hN : Ch.rn (h.data.toList ++ h.data.toList ++ [122]) [113] (-1) = 0 := by rw [Ch.rn, if_pos (by decide), Ch.cn_no hne]
  have hK : Ch.rk [113] [] 0 (h.data.toList ++ h.data.toList ++ [122]) = h.data.toList ++ h.data.toList ++ [122] := Ch.rk_zero _ _ _
  have hl : ¬ (h.data.toList ++ h.data.toList ++ [122]).length ≤ 16777216 := by rw [List.length_append, List.length_append, F.len]; decide
  refine (creplace_gen (S ++ ⟨#[122]⟩) ⟨#[113]⟩ ⟨#[]⟩ (-1) wx hx (by rw [hz]; decide) (by decide) (by decide) (by rw [show (⟨#[]⟩ : ByteArray).size = 0 from rfl, Nat.mul_zero]; exact Nat.zero_le _) (by decide) (by decide)).mono ?_
  rintro e w' ⟨rfl, b⟩
  refine ⟨?_, b⟩
  rw [hd, show (⟨#[113]⟩ : ByteArray).data.toList = [113] from rfl, show (⟨#[]⟩ : ByteArray).data.toList = [] from rfl, Ch.rT, Ch.rC, Ch.rE, hN, hK, if_neg hl, if_neg hl, if_neg hl]
  rfl
theorem LgF.r4k {h S : ByteArray} (F : LgF h S) (k : Int) (hk : k = 1) (wx : World) (hx : ML wx) : Calls Try.prog 16 #[.string (S ++ ⟨#[122]⟩), .string ⟨#[122]⟩, .string ⟨#[]⟩, .int .i64 k] wx fun e w' => e = .returned (.tuple #[.string S, .int .i64 1, .int .i64 0]) ∧ Below wx.heap.size wx w' := by
  have hd : (S ++ ⟨#[122]⟩ : ByteArray).data.toList = h.data.toList ++ h.data.toList ++ [122] := by rw [Ch.app_data, F.sl]
  have hz : (S ++ ⟨#[122]⟩ : ByteArray).size = 16777217 := by rw [← Ch.size_len, hd, List.length_append, List.length_append, F.len]; rfl
  have hne := F.ne2 122 (by decide)
  have hN : Ch.rn (h.data.toList ++ h.data.toList ++ [122]) [122] k = 1 := by rw [Ch.rn, if_neg (by omega), Ch.cn_end hne, hk]; decide
  have hK : Ch.rk [122] [] 1 (h.data.toList ++ h.data.toList ++ [122]) = h.data.toList ++ h.data.toList := by rw [Ch.rep_end hne, List.append_nil]
  have hl : (h.data.toList ++ h.data.toList).length ≤ 16777216 := by rw [List.length_append, F.len]; decide
  have g1 : (S ++ ⟨#[122]⟩ : ByteArray).size ≤ 1073741824 := by rw [hz]; decide
  have g2 : Ch.rn (S ++ ⟨#[122]⟩ : ByteArray).data.toList (⟨#[122]⟩ : ByteArray).data.toList k * (⟨#[]⟩ : ByteArray).size ≤ 16777217 * 137438953472 := by rw [show (⟨#[]⟩ : ByteArray).size = 0 from rfl, Nat.mul_zero]; exact Nat.zero_le _
  have g3 : -9223372036854775808 ≤ k := by omega
  have g4 : k ≤ 9223372036854775807 := by omega
  have q := creplace_gen (S ++ ⟨#[122]⟩) ⟨#[122]⟩ ⟨#[]⟩ k wx hx g1 (by decide) (by decide) g2 g3 g4
  refine q.mono ?_
  rintro e w' ⟨rfl, b⟩
  refine ⟨?_, b⟩
  have e1 : Ch.rT (h.data.toList ++ h.data.toList ++ [122]) [122] [] k = S := by rw [Ch.rT, hN, hK, if_pos hl, F.eqS]
  have e2 : Ch.rC (h.data.toList ++ h.data.toList ++ [122]) [122] [] k = 1 := by rw [Ch.rC, hN, hK, if_pos hl]
  have e3 : Ch.rE (h.data.toList ++ h.data.toList ++ [122]) [122] [] k = 0 := by rw [Ch.rE, hN, hK, if_pos hl]
  rw [hd, show (⟨#[122]⟩ : ByteArray).data.toList = [122] from rfl, show (⟨#[]⟩ : ByteArray).data.toList = [] from rfl, e1, e2, e3]
  rfl

theorem LgF.r4 {h S : ByteArray} (F : LgF h S) (wx : World) (hx : ML wx) : Calls Try.prog 16 #[.string (S ++ ⟨#[122]⟩), .string ⟨#[122]⟩, .string ⟨#[]⟩, .int .i64 1] wx fun e w' => e = .returned (.tuple #[.string S, .int .i64 1, .int .i64 0]) ∧ Below wx.heap.size wx w' := F.r4k 1 rfl wx hx

set_option maxRecDepth 100000 in
set_option maxHeartbeats 4000000 in
theorem clong_law (w : World) (hm : ML w) : Calls Try.prog 5 #[] w fun e w' => e = .returned (.bool true) ∧ Below w.heap.size w w' := by
  obtain ⟨N, hN⟩ : ∃ N : Nat, N = 8388608 := ⟨_, rfl⟩
  have F := hid (LgF.mk' N hN)
  have RW : Hid (Calls Try.prog 13 #[.int .i64 8388608] w fun e w' => e = .returned (.string (Ch.tx (Ch.ra N))) ∧ Below w.heap.size w w') := by
    have q := lrow_any N w (by omega)
    have e : (N : Int) = 8388608 := by omega
    rw [e] at q
    exact q
  clear hN
  have MW : Hid (∀ w', Below w.heap.size w w' → ML w') := fun w' b => hm.b b
  clear hm
  generalize Ch.tx (Ch.ra N ++ Ch.ra N) = S at *
  generalize Ch.tx (Ch.ra N) = h at *
  have hsz : (h.size : Int) = 8388608 := by have := F.out.hs; omega
  have ssz : (S.size : Int) = 16777216 := by have := F.out.ss; omega
  have hszn : h.size = 8388608 := F.out.hs
  have sszn : S.size = 16777216 := F.out.ss
  go_enter Try.func5, Try.ntmps5
  go_wp2_with fail
  refine RW.out.mono ?_
  rintro e w1 ⟨rfl, hb⟩
  have B1 := hid hb
  clear hb RW
  have J1 := hid (F.out.j1 w1)
  go_wp2_with fail
  refine J1.out.mono ?_
  rintro e w2 ⟨rfl, hb⟩
  have B2 := hid (below_on B1.out hb)
  clear hb J1 B1
  have J2 := hid (F.out.j2 w2)
  go_wp2_with fail
  refine J2.out.mono ?_
  rintro e w3 ⟨rfl, hb⟩
  have B3 := hid (below_on B2.out hb)
  clear hb J2 B2
  have J3 := hid (F.out.j3 w3)
  go_wp2_with fail
  refine J3.out.mono ?_
  rintro e w4 ⟨rfl, hb⟩
  have B4 := hid (below_on B3.out hb)
  clear hb J3 B3
  have J4 := hid (F.out.j4 w4)
  go_wp2_with fail
  refine J4.out.mono ?_
  rintro e w5 ⟨rfl, hb⟩
  have B5 := hid (below_on B4.out hb)
  clear hb J4 B4
  have R1 := hid (F.out.r1 w5 (MW.out _ B5.out))
  go_wp2_with fail
  refine R1.out.mono ?_
  rintro e w6 ⟨rfl, hb⟩
  have B6 := hid (below_on B5.out hb)
  clear hb R1 B5
  have R2 := hid (F.out.r2 w6 (MW.out _ B6.out))
  go_wp2_with fail
  refine R2.out.mono ?_
  rintro e w7 ⟨rfl, hb⟩
  have B7 := hid (below_on B6.out hb)
  clear hb R2 B6
  have R3 := hid (F.out.r3 w7 (MW.out _ B7.out))
  go_wp2_with fail
  refine R3.out.mono ?_
  rintro e w8 ⟨rfl, hb⟩
  have B8' := hid (below_on B7.out hb)
  clear hb R3 B7
  have R4 := hid (F.out.r4 w8 (MW.out _ B8'.out))
  go_wp2_with fail
  refine R4.out.mono ?_
  rintro e w9 ⟨rfl, hb⟩
  have B9 := hid (below_on B8'.out hb)
  clear hb R4 B8'
  go_wp2_with fail
  go_ret
  exact ⟨rfl, B9.out⟩
end Go.Proofs.Ytgliefdefklfeaa
