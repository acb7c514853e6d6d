/-
  scan's Text.
-/
import Derived.Test.YtjghlpkjbfaoiaaDoorVCmp2
import Derived.Test.YtjghlpkjbfaoiaaDoorVBackN
namespace Go.Proofs.YtjghlpkjbfaoiaaDoor
open Go Go.RowKit Go.Deep

theorem Tab10.below {w w' : World} (h : Tab10 w) (k : Below w.heap.size w w') : Tab10 w' := by
  unfold Tab10 Lib.TabIs World.var? at *
  cases hg : Tryd.prog.globalNamed "internal/strconv.uint64pow10" with
  | none => rw [hg] at h; simp at h
  | some g =>
    rw [hg] at h
    simp only [Option.bind_some] at h ⊢
    have hl : g < w.heap.size := by
      rcases Nat.lt_or_ge g w.heap.size with c | c
      · exact c
      · rw [Array.getElem?_eq_none c] at h; simp at h
    rw [k.block g hl]; exact h

theorem dl_len (u : Nat) (h : u < 18446744073709551616) : (Sc.dl u).length ≤ 20 := by
  unfold Sc.dl
  rw [List.length_map, Lib.decDigits_length]
  by_cases c : u < 10
  · rw [Lib.nDigits_small c]; omega
  · obtain ⟨k, hk⟩ : ∃ k, Lib.nDigits u = k + 1 := ⟨Lib.nDigits u - 1, by have := Lib.nDigits_pos u; omega⟩
    rcases Nat.lt_or_ge (Lib.nDigits u) 21 with d | d
    · omega
    · exfalso
      have := (Lib.numDigits_eq u (by omega) h)
      have h1 := this.1
      have h2 := this.2
      split at h1 <;> omega
theorem itl_len (n : Int) (h0 : -9223372036854775808 ≤ n) (h1 : n ≤ 9223372036854775807) : (Sc.dl n.natAbs).length ≤ 20 ∧ (itl n).length ≤ 21 := by
  have := dl_len n.natAbs (by omega)
  refine ⟨this, ?_⟩
  rw [Sc.itl_is]
  split <;> simp <;> omega

theorem txt_str {N : Sc.D} {t : ByteArray} (ht : Str t N.ds) :
    (N.neg = true → N.e = 0 → Str (⟨#[45]⟩ ++ t) (Sc.txt N)) ∧ (N.neg = false → N.e = 0 → Str t (Sc.txt N)) ∧
    (N.neg = true → N.e ≠ 0 → Str (⟨#[45]⟩ ++ t ++ (⟨#[101]⟩ ++ ⟨(Lib.itoa N.e).toArray⟩)) (Sc.txt N)) ∧ (N.neg = false → N.e ≠ 0 → Str (t ++ (⟨#[101]⟩ ++ ⟨(Lib.itoa N.e).toArray⟩)) (Sc.txt N)) := by
  have hE : Str (⟨#[101]⟩ ++ ⟨(Lib.itoa N.e).toArray⟩) (101 :: itl N.e) := Str.append (xs := [101]) rfl (itl_str N.e)
  have h45 : Str (⟨#[45]⟩ ++ t) ([45] ++ N.ds) := Str.append rfl ht
  refine ⟨fun a b => ?_, fun a b => ?_, fun a b => ?_, fun a b => ?_⟩
  · unfold Sc.txt; rw [if_pos a, if_neg (by simpa using b), List.append_nil]; exact h45
  · unfold Sc.txt; rw [if_neg (by rw [a]; simp), if_neg (by simpa using b), List.append_nil]; exact ht
  · unfold Sc.txt; rw [if_pos a, if_pos b]; exact h45.append hE
  · unfold Sc.txt; rw [if_neg (by rw [a]; simp), if_pos b]; exact ht.append hE

/-- What Text tells. -/
def TextTold (neg : Bool) (xs : List Int) (e : Int) (w : World) (r : Ending) (w' : World) : Prop :=
  ((Sc.IsDec xs e ∧ ∃ t, r = .returned (.tuple #[.string t, .int .i64 0]) ∧ Str t (Sc.txt (Sc.nrm neg xs e))) ∨ (¬ Sc.IsDec xs e ∧ r = .returned (.tuple #[.string ⟨#[]⟩, .int .i64 80]))) ∧ Below w.heap.size w w'

def LS1 (w wx : World) (v0 v1 v2 : Value) : Prop := Below w.heap.size w wx ∧ Row3 wx w.heap.size v0 v1 v2
theorem LS1.new (w : World) (v0 v1 v2 : Value) : LS1 w (w.alloc (.cells #[v0, v1, v2] 29)) v0 v1 v2 := ⟨alloc_b _ _, heap_alloc_new _ _⟩
theorem LS1.on {w wx w' : World} {v0 v1 v2 : Value} (h : LS1 w wx v0 v1 v2) (k : Below wx.heap.size wx w') : LS1 w w' v0 v1 v2 := ⟨below_on h.1 k, h.2.below k h.2.lt⟩
theorem LS1.put {w wx : World} {v0 v1 v2 : Value} (h : LS1 w wx v0 v1 v2) (x0 x1 x2 : Value) : LS1 w (((wx.setCell ⟨w.heap.size, 0, none⟩ x0).setCell ⟨w.heap.size, 1, none⟩ x1).setCell ⟨w.heap.size, 2, none⟩ x2) x0 x1 x2 := ⟨set3_below h.1 (Nat.le_refl _), h.2.put _ _ _⟩

set_option maxRecDepth 100000 in
set_option maxHeartbeats 2000000 in
theorem text_any (neg : Bool) (s : ByteArray) (xs : List Int) (e : Int) (w : World) (hs : Str s xs) (hn : xs.length ≤ 140737488355328) (hT : Tab10 w) :
    Calls Tryd.prog 20 #[decV neg s e] w fun r w' => TextTold neg xs e w r w' := by
  have T := hid (fun wx => norm_any neg s xs e wx hs (by omega))
  have Z := hid (LS1.new w (.bool neg) (.string s) (.int .i64 e))
  have bb := nmd_e neg xs e (by omega)
  have NN : Hid (Sc.IsDec xs e → nmd neg xs e = Sc.nrm neg xs e) := fun c => by unfold nmd; rw [if_pos c]
  have HT := hid hT
  have LN : (nmd neg xs e).ds.length ≤ 140737488355329 := by
    unfold nmd
    split
    · have := Sc.nrm_len neg xs e; omega
    · simp
  clear hs hn hT
  unfold decV at T ⊢
  by_cases hd : Sc.IsDec xs e
  · have E : Hid (errOf xs e = 0) := by show _ = _; unfold errOf; rw [if_pos hd]
    have N1 := hid (NN.out hd)
    have FF : Hid (∀ t w', Str t (Sc.txt (nmd neg xs e)) → Below w.heap.size w w' → TextTold neg xs e w (.returned (.tuple #[.string t, .int .i64 0])) w') := fun t w' h b => ⟨.inl ⟨hd, t, rfl, by rw [← N1.out]; exact h⟩, b⟩
    clear hd NN N1
    go_enter Tryd.func20, Tryd.ntmps20
    go_wp2_with fail
    refine (T.out _).mono ?_
    rintro r w1 ⟨v, rfl, ⟨t, hv, ht⟩, hB⟩
    unfold decV at hv
    subst hv
    rw [E.out]
    have S := hid ((Z.out.on hB).put (.bool (nmd neg xs e).neg) (.string t) (.int .i64 (nmd neg xs e).e))
    obtain ⟨⟨c0, c1, c2⟩, f0, f1, f2⟩ := (Z.out.on hB).2.cells
    have H2 := hid ht
    have hz := ht.size
    clear hB ht Z T E
    generalize nmd neg xs e = N at *
    have IT := hid (fun wx (hx : Tab10 wx) => itoa_any N.e wx (by omega) (by omega) hx)
    have IL := (itl_len N.e (by omega) (by omega)).2
    have IZ : (⟨(Lib.itoa N.e).toArray⟩ : ByteArray).size = (itl N.e).length := (itl_str N.e).size
    have TA : Hid (Tab10 (((w1.setCell ⟨w.heap.size, 0, none⟩ (.bool N.neg)).setCell ⟨w.heap.size, 1, none⟩ (.string t)).setCell ⟨w.heap.size, 2, none⟩ (.int .i64 N.e))) := HT.out.below S.out.1
    by_cases h0 : N.e = 0
    · have FG := hid (txt_str H2.out)
      obtain ⟨n, hn⟩ : ∃ n, N.neg = n := ⟨_, rfl⟩
      have r1 : ¬ (9223372036854775807 < 1 + N.ds.length) := by omega
      cases n with
      | true =>
        have G := hid (FG.out.1 hn h0)
        clear FG
        go_wp2_with fail
        go_ret2
        exact FF.out _ _ G.out (by rw [hn, h0] at S; exact S.out.1)
      | false =>
        have G := hid (FG.out.2.1 hn h0)
        clear FG
        go_wp2_with fail
        go_ret2
        exact FF.out _ _ G.out (by rw [hn, h0] at S; exact S.out.1)
    · have r0 : (N.e != 0) = true := by simpa using h0
      have r2 : (N.e == 0) = false := by rw [beq_eq_false_iff_ne]; exact h0
      have FG := hid (txt_str H2.out)
      obtain ⟨n, hn⟩ : ∃ n, N.neg = n := ⟨_, rfl⟩
      have IT2 := hid (IT.out _ TA.out)
      clear IT
      have HH0 := hid h0
      clear h0
      cases n with
      | true =>
        have G := hid (FG.out.2.2.1 hn HH0.out)
        rw [hn] at IT2 S
        clear FG
        go_wp2_with fail
        all_goals first | (exfalso; omega) | skip
        refine (IT2.out).mono ?_
        rintro r w2 ⟨rfl, hB⟩
        have D := hid (below_on S.out.1 hB)
        clear hB
        go_wp2_with fail
        all_goals first | (exfalso; simp only [ByteArray.size_append] at *; omega) | skip
        go_ret2
        exact FF.out _ _ G.out D.out
      | false =>
        have G := hid (FG.out.2.2.2 hn HH0.out)
        rw [hn] at IT2 S
        clear FG
        go_wp2_with fail
        refine (IT2.out).mono ?_
        rintro r w2 ⟨rfl, hB⟩
        have D := hid (below_on S.out.1 hB)
        clear hB
        go_wp2_with fail
        all_goals first | (exfalso; simp only [ByteArray.size_append] at *; omega) | skip
        go_ret2
        exact FF.out _ _ G.out D.out
  · have E : Hid (errOf xs e = 80) := by show _ = _; unfold errOf; rw [if_neg hd]
    have EN : Hid (nmd neg xs e = ⟨false, [], 0⟩) := by show _ = _; unfold nmd; rw [if_neg hd]
    have FF : Hid (∀ w', Below w.heap.size w w' → TextTold neg xs e w (.returned (.tuple #[.string ⟨#[]⟩, .int .i64 80])) w') := fun w' b => ⟨.inr ⟨hd, rfl⟩, b⟩
    clear hd NN bb LN
    go_enter Tryd.func20, Tryd.ntmps20
    go_wp2_with fail
    refine (T.out _).mono ?_
    rintro r w1 ⟨v, rfl, ⟨t, hv, ht⟩, hB⟩
    unfold decV at hv
    subst hv
    rw [E.out, EN.out]
    have S := hid ((Z.out.on hB).put (.bool false) (.string t) (.int .i64 0))
    obtain ⟨⟨c0, c1, c2⟩, f0, f1, f2⟩ := (Z.out.on hB).2.cells
    clear hB ht Z T E EN
    go_wp2_with fail
    go_ret2
    exact FF.out _ S.out.1
end Go.Proofs.YtjghlpkjbfaoiaaDoor
