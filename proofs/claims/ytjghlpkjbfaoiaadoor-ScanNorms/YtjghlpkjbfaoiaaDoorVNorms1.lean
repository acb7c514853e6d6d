/-
  abacusref08's Text; law08's norms and cmps.
-/
import Derived.Test.YtjghlpkjbfaoiaaDoorVRCmp2
import Derived.Test.YtjghlpkjbfaoiaaDoorVLongest
namespace Go.Proofs.YtjghlpkjbfaoiaaDoor
open Go Go.RowKit Go.Deep

theorem txt_str2 {N : Sc.D} {t : ByteArray} (ht : Str t N.ds) :
    (N.neg = true → N.e = 0 → Str (⟨#[45]⟩ ++ t) (Sc.txt N)) ∧ (N.neg = false → N.e = 0 → Str t (Sc.txt N)) ∧
    (N.neg = true → N.e ≠ 0 → Str (⟨#[45]⟩ ++ t ++ ⟨#[101]⟩ ++ ⟨(Lib.itoa N.e).toArray⟩) (Sc.txt N)) ∧ (N.neg = false → N.e ≠ 0 → Str (t ++ ⟨#[101]⟩ ++ ⟨(Lib.itoa N.e).toArray⟩) (Sc.txt N)) := by
  obtain ⟨h1, h2, h3, h4⟩ := txt_str ht
  refine ⟨h1, h2, fun a b => ?_, fun a b => ?_⟩
  · rw [ByteArray.append_assoc]; exact h3 a b
  · rw [ByteArray.append_assoc]; exact h4 a b

set_option maxRecDepth 100000 in
set_option maxHeartbeats 2000000 in
theorem rtext_any (neg : Bool) (s : ByteArray) (xs : List Int) (e : Int) (w : World) (hs : Str s xs) (hn : xs.length ≤ 140737488355328) (hT : Tab10 w) :
    Calls Tryd.prog 29 #[decV neg s e] w fun r w' => TextTold neg xs e w r w' := by
  have T := hid (fun wx => rnorm_any neg s xs e wx hs (by omega))
  have Z := hid (LS1.new w (.bool neg) (.string s) (.int .i64 e))
  have bb := nmd_e neg xs e (by omega)
  have NN : Hid (Sc.IsDec xs e → nmd neg xs e = Sc.nrm neg xs e) := fun c => by unfold nmd; rw [if_pos c]
  have HT := hid hT
  have LN : (nmd neg xs e).ds.length ≤ 140737488355329 := by
    unfold nmd
    split
    · have := Sc.nrm_len neg xs e; omega
    · simp
  clear hs hn hT
  unfold decV at T ⊢
  by_cases hd : Sc.IsDec xs e
  · have E : Hid (errOf xs e = 0) := by show _ = _; unfold errOf; rw [if_pos hd]
    have N1 := hid (NN.out hd)
    have FF : Hid (∀ t w', Str t (Sc.txt (nmd neg xs e)) → Below w.heap.size w w' → TextTold neg xs e w (.returned (.tuple #[.string t, .int .i64 0])) w') := fun t w' h b => ⟨.inl ⟨hd, t, rfl, by rw [← N1.out]; exact h⟩, b⟩
    clear hd NN N1
    go_enter Tryd.func29, Tryd.ntmps29
    go_wp2_with fail
    refine (T.out _).mono ?_
    rintro r w1 ⟨v, rfl, ⟨t, hv, ht⟩, hB⟩
    unfold decV at hv
    subst hv
    rw [E.out]
    have S : Hid (LSt w (w1.alloc (.cells #[.bool (nmd neg xs e).neg, .string t, .int .i64 (nmd neg xs e).e] 29)) w1.heap.size (.bool (nmd neg xs e).neg) (.string t) (.int .i64 (nmd neg xs e).e)) := LSt.new (Z.out.on hB).1 _ _ _
    have H2 := hid ht
    have hz := ht.size
    clear hB ht Z T E
    generalize nmd neg xs e = N at *
    have IT := hid (fun wx (hx : Tab10 wx) => itoa_any N.e wx (by omega) (by omega) hx)
    have IL := (itl_len N.e (by omega) (by omega)).2
    have IZ : (⟨(Lib.itoa N.e).toArray⟩ : ByteArray).size = (itl N.e).length := (itl_str N.e).size
    have TA : Hid (Tab10 (w1.alloc (.cells #[.bool N.neg, .string t, .int .i64 N.e] 29))) := HT.out.below S.out.1
    by_cases h0 : N.e = 0
    · have FG := hid (txt_str2 H2.out)
      obtain ⟨n, hn⟩ : ∃ n, N.neg = n := ⟨_, rfl⟩
      have r1 : ¬ (9223372036854775807 < 1 + N.ds.length) := by omega
      cases n with
      | true =>
        have G := hid (FG.out.1 hn h0)
        clear FG
        go_wp2_with fail
        go_ret2
        exact FF.out _ _ G.out (by rw [hn, h0] at S; exact S.out.1)
      | false =>
        have G := hid (FG.out.2.1 hn h0)
        clear FG
        go_wp2_with fail
        go_ret2
        exact FF.out _ _ G.out (by rw [hn, h0] at S; exact S.out.1)
    · have r0 : (N.e != 0) = true := by simpa using h0
      have r2 : (N.e == 0) = false := by rw [beq_eq_false_iff_ne]; exact h0
      have FG := hid (txt_str2 H2.out)
      obtain ⟨n, hn⟩ : ∃ n, N.neg = n := ⟨_, rfl⟩
      have IT2 := hid (IT.out _ TA.out)
      clear IT
      have HH0 := hid h0
      clear h0
      cases n with
      | true =>
        have G := hid (FG.out.2.2.1 hn HH0.out)
        rw [hn] at IT2 S
        clear FG
        go_wp2_with fail
        all_goals first | (exfalso; omega) | skip
        refine (IT2.out).mono ?_
        rintro r w2 ⟨rfl, hB⟩
        have D := hid (below_on S.out.1 hB)
        clear hB
        go_wp2_with fail
        all_goals first | (exfalso; simp only [ByteArray.size_append] at *; omega) | skip
        go_ret2
        exact FF.out _ _ G.out D.out
      | false =>
        have G := hid (FG.out.2.2.2 hn HH0.out)
        rw [hn] at IT2 S
        clear FG
        go_wp2_with fail
        refine (IT2.out).mono ?_
        rintro r w2 ⟨rfl, hB⟩
        have D := hid (below_on S.out.1 hB)
        clear hB
        go_wp2_with fail
        all_goals first | (exfalso; simp only [ByteArray.size_append] at *; omega) | skip
        go_ret2
        exact FF.out _ _ G.out D.out
  · have E : Hid (errOf xs e = 80) := by show _ = _; unfold errOf; rw [if_neg hd]
    have EN : Hid (nmd neg xs e = ⟨false, [], 0⟩) := by show _ = _; unfold nmd; rw [if_neg hd]
    have FF : Hid (∀ w', Below w.heap.size w w' → TextTold neg xs e w (.returned (.tuple #[.string ⟨#[]⟩, .int .i64 80])) w') := fun w' b => ⟨.inr ⟨hd, rfl⟩, b⟩
    clear hd NN bb LN
    go_enter Tryd.func29, Tryd.ntmps29
    go_wp2_with fail
    refine (T.out _).mono ?_
    rintro r w1 ⟨v, rfl, ⟨t, hv, ht⟩, hB⟩
    unfold decV at hv
    subst hv
    rw [E.out, EN.out]
    have S : Hid (Below w.heap.size w (w1.alloc (.cells #[.bool false, .string t, .int .i64 0] 29))) := below_on (Z.out.on hB).1 (alloc_b _ _)
    clear hB ht Z T E EN
    go_wp2_with fail
    go_ret2
    exact FF.out _ S.out

theorem TextTold.two {neg : Bool} {xs : List Int} {e : Int} {w w1 wb wc : World} {r r1 : Ending} (h : TextTold neg xs e w r wb) (k : TextTold neg xs e w1 r1 wc) : r = r1 ∧ ∃ (t : ByteArray) (x : Int), r = .returned (.tuple #[.string t, .int .i64 x]) := by
  rcases h.1 with ⟨h1, t, rfl, h2⟩ | ⟨h1, rfl⟩
  · rcases k.1 with ⟨k1, t1, rfl, k2⟩ | ⟨k1, rfl⟩
    · rw [h2.inj k2]; exact ⟨rfl, _, _, rfl⟩
    · exact absurd h1 k1
  · rcases k.1 with ⟨k1, t1, rfl, k2⟩ | ⟨k1, rfl⟩
    · exact absurd k1 h1
    · exact ⟨rfl, _, _, rfl⟩

set_option maxRecDepth 100000 in
set_option maxHeartbeats 2000000 in
theorem norms_any (neg : Bool) (s : ByteArray) (xs : List Int) (e : Int) (w : World) (hs : Str s xs) (hn : xs.length ≤ 140737488355328) (hT : Tab10 w) :
    Calls Tryd.prog 12 #[.agg #[.bool neg, .string s, .int .i64 e]] w fun r w' => r = .returned (.bool true) ∧ Below w.heap.size w w' := by
  have RN := hid (fun wx => rnorm_any neg s xs e wx hs (by omega))
  have PN := hid (fun wx => norm_any neg s xs e wx hs (by omega))
  have RT := hid (fun wx (hx : Tab10 wx) => rtext_any neg s xs e wx hs hn hx)
  have PT := hid (fun wx (hx : Tab10 wx) => text_any neg s xs e wx hs hn hx)
  have Z := hid (LS1.new w (.bool neg) (.string s) (.int .i64 e))
  have HT := hid hT
  clear hs hn hT
  unfold decV at RN PN RT PT
  go_enter Tryd.func12, Tryd.ntmps12
  go_wp2_with fail
  refine (RN.out _).mono ?_
  rintro r w1 ⟨v, rfl, hv, hB⟩
  obtain ⟨s1, hv1, hs1⟩ := id hv
  unfold decV at hv1
  subst hv1
  have HV := hid hv
  have S1 := hid ((Z.out.on hB).on (alloc_b w1 (.cells #[.bool (nmd neg xs e).neg, .string s1, .int .i64 (nmd neg xs e).e] 29)))
  have A1 : Hid (Row3 (w1.alloc (.cells #[.bool (nmd neg xs e).neg, .string s1, .int .i64 (nmd neg xs e).e] 29)) w1.heap.size (.bool (nmd neg xs e).neg) (.string s1) (.int .i64 (nmd neg xs e).e)) := Row3.new _ _ _ _
  clear hB hv hs1 Z RN
  obtain ⟨⟨c0, c1, c2⟩, -⟩ := S1.out.2.cells
  go_wp2_with fail
  generalize w1.alloc (.cells #[.bool (nmd neg xs e).neg, .string s1, .int .i64 (nmd neg xs e).e] 29) = w2 at *
  generalize w1.heap.size = g at *
  refine (PN.out _).mono ?_
  rintro r w3 ⟨v, rfl, hv, hB⟩
  have hv2 := hv.two HV.out
  subst hv2
  have S2 := hid ((S1.out.on hB).on (alloc_b w3 (.cells #[.bool (nmd neg xs e).neg, .string s1, .int .i64 (nmd neg xs e).e] 29)))
  have A2 := hid ((A1.out.below hB A1.out.lt).below (alloc_b w3 (.cells #[.bool (nmd neg xs e).neg, .string s1, .int .i64 (nmd neg xs e).e] 29)) (A1.out.below hB A1.out.lt).lt)
  clear hB hv HV S1 A1 PN c0 c1 c2
  obtain ⟨⟨c0, c1, c2⟩, -⟩ := S2.out.2.cells
  obtain ⟨⟨a0, a1, a2⟩, -⟩ := A2.out.cells
  have RT2 := hid (RT.out _ (HT.out.below S2.out.1))
  clear RT
  generalize nmd neg xs e = N at *
  generalize errOf xs e = E at *
  go_wp2_with fail
  generalize w3.alloc (.cells #[.bool N.neg, .string s1, .int .i64 N.e] 29) = w4 at *
  refine (RT2.out).mono ?_
  intro r w5 h5
  have S3 := hid (S2.out.on h5.2)
  have PT2 := hid (PT.out _ (HT.out.below S3.out.1))
  obtain ⟨-, t1, x1, ht1⟩ := h5.two h5
  have H5 := hid h5
  clear h5 S2 A2 PT c0 c1 c2 a0 a1 a2 RT2
  obtain ⟨⟨c0, c1, c2⟩, -⟩ := S3.out.2.cells
  subst ht1
  go_wp2_with fail
  refine (PT2.out).mono ?_
  intro r w6 h6
  obtain ⟨hr, -⟩ := h6.two H5.out
  have S4 := hid (S3.out.on h6.2)
  subst hr
  clear h6 H5 S3
  go_wp2_with fail
  go_ret
  exact ⟨rfl, S4.out.1⟩

set_option maxRecDepth 100000 in
set_option maxHeartbeats 2000000 in
theorem cmps_any (na nb : Bool) (s t : ByteArray) (xs ys : List Int) (ea eb : Int) (w : World) (hs : Str s xs) (ht : Str t ys) (hn : xs.length ≤ 281474976710655) (hm : ys.length ≤ 281474976710655) :
    Calls Tryd.prog 13 #[.agg #[.bool na, .string s, .int .i64 ea], .agg #[.bool nb, .string t, .int .i64 eb]] w fun r w' => r = .returned (.bool true) ∧ Below w.heap.size w w' := by
  have RC := hid (fun wx => rcmp_any na nb s t xs ys ea eb wx hs ht hn hm)
  have PC := hid (fun wx => cmp_any na nb s t xs ys ea eb wx hs ht (by omega) (by omega))
  have Z := hid (Two3.new w (.bool na) (.string s) (.int .i64 ea) (.bool nb) (.string t) (.int .i64 eb))
  clear hs ht hn hm
  unfold decV at RC PC
  generalize cmpE na xs ea nb ys eb = C at *
  obtain ⟨x, y⟩ := C
  go_enter Tryd.func13, Tryd.ntmps13
  go_wp2_with fail
  refine (RC.out _).mono ?_
  rintro r w1 ⟨rfl, hB⟩
  have S1 := hid (Z.out.on hB)
  clear hB Z RC
  obtain ⟨⟨c0, c1, c2⟩, -⟩ := S1.out.2.1.cells
  obtain ⟨⟨c3, c4, c5⟩, -⟩ := S1.out.2.2.cells
  go_wp2_with fail
  refine (PC.out _).mono ?_
  rintro r w2 ⟨rfl, hB⟩
  have S2 := hid (S1.out.on hB)
  clear hB S1 PC
  go_wp2_with fail
  go_ret
  exact ⟨rfl, S2.out.1⟩
end Go.Proofs.YtjghlpkjbfaoiaaDoor
