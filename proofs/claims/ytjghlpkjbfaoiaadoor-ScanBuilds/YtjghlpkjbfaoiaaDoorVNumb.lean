/-
  scan's own, a literal's dec, Number, Whole.
-/
import Derived.Test.YtjghlpkjbfaoiaaDoorVDec
import Derived.Test.YtjghlpkjbfaoiaaDoorVRead
import Derived.Deep.Cut
import Derived.Deep.RegionHeld3
namespace Go.Proofs.YtjghlpkjbfaoiaaDoor
open Go Go.RowKit Go.Deep

theorem Two3.one {w w' : World} {v0 v1 v2 u0 u1 u2 : Value} (h : Two3 w w' v0 v1 v2 u0 u1 u2) (x : Value) : Two3 w (w'.setCell ⟨w.heap.size, 1, none⟩ x) v0 x v2 u0 u1 u2 :=
  ⟨h.1.setCell (p := ⟨w.heap.size, 1, none⟩) (Nat.le_refl _) x, set1 h.2.1 (by simp [Array.setIfInBounds]), h.2.2.far (by omega)⟩

set_option maxRecDepth 100000 in
theorem own_any (neg : Bool) (s : ByteArray) (e : Int) (w : World) (hs : s.size ≤ 281474976710656) :
    Calls Tryd.prog 38 #[decV neg s e] w fun r w' => r = .returned (decV neg s e) ∧ Below w.heap.size w w' := by
  have C := hid (fun wx => clone_any s wx hs)
  have Z := hid (Two3.new w (.bool neg) (.string s) (.int .i64 e) (.bool false) (.string ⟨#[]⟩) (.int .i64 0))
  unfold decV
  clear hs
  go_enter Tryd.func38, Tryd.ntmps38
  go_wp2_with fail
  refine (C.out _).mono ?_
  rintro r w1 ⟨rfl, hB⟩
  have S := hid (Z.out.on hB)
  obtain ⟨⟨c0, c1, c2⟩, f0, f1, f2⟩ := S.out.2.1.cells
  obtain ⟨⟨d0, d1, d2⟩, g0, g1, g2⟩ := S.out.2.2.cells
  clear hB Z C
  go_wp2_with fail
  (try simp only [Exit.inBlock, Exit.then])
  refine bodyPost_ret (results_cell_row rfl _ _ (w.heap.size + 1) 29 _ (0, 0) _ rfl ((S.out.one _).putB _ _ _).2.2 Tryd.underlying29 rfl (by kernel_rfl)) rfl ?_
  exact ⟨rfl, ((S.out.one _).putB _ _ _).1⟩

theorem Str.append {s t : ByteArray} {xs ys : List Int} (h : Str s xs) (k : Str t ys) : Str (s ++ t) (xs ++ ys) := by
  unfold Str at *
  rw [ByteArray.data_append, Array.toList_append, List.map_append, h, k]

/-- A literal's box and room for a Dec. -/
def LitBox (w w' : World) (neg : Bool) (A B : ByteArray) (sc en : Int) : Prop := Below w.heap.size w w' ∧ Row5 w' w.heap.size 54 (.bool neg) (.string A) (.string B) (.int .i64 sc) (.int .i64 en) ∧ Row3 w' (w.heap.size + 1) (.bool false) (.string ⟨#[]⟩) (.int .i64 0)
theorem LitBox.new (w : World) (neg : Bool) (A B : ByteArray) (sc en : Int) : LitBox w ((w.alloc (.cells #[.bool neg, .string A, .string B, .int .i64 sc, .int .i64 en] 54)).alloc (.cells #[.bool false, .string ⟨#[]⟩, .int .i64 0] 29)) neg A B sc en :=
  ⟨below_on (alloc_b _ _) (alloc_b _ _), heap_alloc2_old _ _ _, heap_alloc2_new _ _ _⟩
theorem LitBox.on {w w' w'' : World} {neg : Bool} {A B : ByteArray} {sc en : Int} (h : LitBox w w' neg A B sc en) (k : Below w'.heap.size w' w'') : LitBox w w'' neg A B sc en :=
  ⟨below_on h.1 k, h.2.1.below k h.2.1.lt, h.2.2.below k h.2.2.lt⟩
theorem LitBox.put {w w' : World} {neg : Bool} {A B : ByteArray} {sc en : Int} (h : LitBox w w' neg A B sc en) (x0 x1 x2 : Value) :
    Row3 (((w'.setCell ⟨w.heap.size + 1, 0, none⟩ x0).setCell ⟨w.heap.size + 1, 1, none⟩ x1).setCell ⟨w.heap.size + 1, 2, none⟩ x2) (w.heap.size + 1) x0 x1 x2 ∧ Below w.heap.size w (((w'.setCell ⟨w.heap.size + 1, 0, none⟩ x0).setCell ⟨w.heap.size + 1, 1, none⟩ x1).setCell ⟨w.heap.size + 1, 2, none⟩ x2) :=
  ⟨h.2.2.put _ _ _, set3_below h.1 (Nat.le_succ _)⟩

theorem nrm_ds_len (neg : Bool) (ds : List Int) (e : Int) (h : ds.length ≤ 281474976710655) : (Sc.nrm neg ds e).ds.length ≤ 281474976710656 := by
  have := Sc.nrm_len neg ds e
  omega

set_option maxRecDepth 100000 in
set_option maxHeartbeats 1000000 in
theorem ldec_any (neg : Bool) (A B : ByteArray) (xs ys : List Int) (sc en : Int) (w : World) (hA : Str A xs) (hB : Str B ys) (hn : xs.length + ys.length ≤ 281474976710655) (s0 : -1000000000000000 ≤ sc) (s1 : sc ≤ 1000000000000000) :
    Calls Tryd.prog 33 #[litV neg A B sc en] w fun r w' => ∃ v, r = .returned v ∧ DecIs v (Sc.nrm neg (xs ++ ys) (sc - ys.length)) ∧ Below w.heap.size w w' := by
  have T := hid (fun wx => trim_any neg (A ++ B) (xs ++ ys) (sc - ys.length) wx (hA.append hB) (by simp; omega) (by omega) (by omega))
  have O : Hid (∀ s wx, Str s (Sc.nrm neg (xs ++ ys) (sc - ys.length)).ds → Calls Tryd.prog 38 #[decV (Sc.nrm neg (xs ++ ys) (sc - ys.length)).neg s (Sc.nrm neg (xs ++ ys) (sc - ys.length)).e] wx fun r w' => r = .returned (decV (Sc.nrm neg (xs ++ ys) (sc - ys.length)).neg s (Sc.nrm neg (xs ++ ys) (sc - ys.length)).e) ∧ Below wx.heap.size wx w') := fun s wx h => own_any _ s _ wx (by rw [h.size]; exact nrm_ds_len _ _ _ (by simp; omega))
  have Z := hid (LitBox.new w neg A B sc en)
  have hsA := hA.size
  have hsB := hB.size
  have yb : (ys.length : Int) ≤ 281474976710655 := by omega
  have ncat : ¬ (9223372036854775807 < xs.length + ys.length) := by omega
  clear hA hB hn
  generalize Sc.nrm neg (xs ++ ys) (sc - ys.length) = D at *
  unfold litV
  unfold decV at T O
  go_enter Tryd.func33, Tryd.ntmps33
  go_wp2_with fail
  refine (T.out _).mono ?_
  rintro r w1 ⟨v, rfl, ⟨s2, hv, h2⟩, hB⟩
  unfold decV at hv
  subst hv
  have O2 := hid (fun wx => O.out s2 wx h2)
  have H2 := hid h2
  have S1 := hid (Z.out.on hB)
  clear h2 hB O T Z
  go_wp2_with fail
  refine (O2.out _).mono ?_
  rintro r w2 ⟨rfl, hB⟩
  have S2 := hid (S1.out.on hB)
  obtain ⟨⟨d0, d1, d2⟩, g0, g1, g2⟩ := S2.out.2.2.cells
  clear hB S1 O2
  go_wp2_with fail
  (try simp only [Exit.inBlock, Exit.then])
  refine bodyPost_ret (results_cell_row rfl _ _ (w.heap.size + 1) 29 _ (0, 0) _ rfl (S2.out.put _ _ _).1 Tryd.underlying29 rfl (by kernel_rfl)) rfl ?_
  exact dec_ret ⟨_, rfl, H2.out⟩ (S2.out.put _ _ _).2

/-- Room for the answer; the literal in its box. -/
def NSt (w wx : World) (b : Nat) (neg : Bool) (A B : ByteArray) (sc en : Int) : Prop :=
  Below w.heap.size w wx ∧ Row3 wx w.heap.size (.bool false) (.string ⟨#[]⟩) (.int .i64 0) ∧ Row5 wx b 54 (.bool neg) (.string A) (.string B) (.int .i64 sc) (.int .i64 en)
theorem NSt.new {w w1 : World} (hB : Below (w.alloc (.cells #[.bool false, .string ⟨#[]⟩, .int .i64 0] 29)).heap.size (w.alloc (.cells #[.bool false, .string ⟨#[]⟩, .int .i64 0] 29)) w1) (neg : Bool) (A B : ByteArray) (sc en : Int) :
    NSt w (w1.alloc (.cells #[.bool neg, .string A, .string B, .int .i64 sc, .int .i64 en] 54)) w1.heap.size neg A B sc en := by
  have r := (Row3.new w (.bool false) (.string ⟨#[]⟩) (.int .i64 0)).below hB (Row3.new w _ _ _).lt
  exact ⟨below_on (below_on (alloc_b _ _) hB) (alloc_b _ _), r.below (alloc_b _ _) r.lt, heap_alloc_new _ _⟩
theorem NSt.on {w wx w' : World} {b : Nat} {neg : Bool} {A B : ByteArray} {sc en : Int} (h : NSt w wx b neg A B sc en) (k : Below wx.heap.size wx w') : NSt w w' b neg A B sc en :=
  ⟨below_on h.1 k, h.2.1.below k h.2.1.lt, h.2.2.below k h.2.2.lt⟩
theorem NSt.drew {w wx : World} {b : Nat} {neg : Bool} {A B : ByteArray} {sc en : Int} (h : NSt w wx b neg A B sc en) : NSt w wx.drew b neg A B sc en :=
  h.on (below_drewN (Below.refl _ _) 1)
theorem NSt.flat {w wx : World} {b : Nat} {neg : Bool} {A B : ByteArray} {sc en : Int} (h : NSt w wx b neg A B sc en) :
    (wx.cell? ⟨b, 0, none⟩ = some (.bool neg) ∧ wx.cell? ⟨b, 1, none⟩ = some (.string A) ∧ wx.cell? ⟨b, 2, none⟩ = some (.string B) ∧ wx.cell? ⟨b, 3, none⟩ = some (.int .i64 sc) ∧ wx.cell? ⟨b, 4, none⟩ = some (.int .i64 en)) ∧
    (wx.cell? ⟨w.heap.size, 0, none⟩ = some (.bool false) ∧ wx.cell? ⟨w.heap.size, 1, none⟩ = some (.string ⟨#[]⟩) ∧ wx.cell? ⟨w.heap.size, 2, none⟩ = some (.int .i64 0)) ∧
    (wx.frozen? ⟨w.heap.size, 0, none⟩ = false ∧ wx.frozen? ⟨w.heap.size, 1, none⟩ = false ∧ wx.frozen? ⟨w.heap.size, 2, none⟩ = false) :=
  ⟨h.2.2.cells.1, h.2.1.cells.1, h.2.1.cells.2⟩
def Five (wx : World) (b : Nat) (neg : Bool) (A B : ByteArray) (sc en : Int) : Prop := wx.cell? ⟨b, 0, none⟩ = some (.bool neg) ∧ wx.cell? ⟨b, 1, none⟩ = some (.string A) ∧ wx.cell? ⟨b, 2, none⟩ = some (.string B) ∧ wx.cell? ⟨b, 3, none⟩ = some (.int .i64 sc) ∧ wx.cell? ⟨b, 4, none⟩ = some (.int .i64 en)
theorem NSt.five {w wx : World} {b : Nat} {neg : Bool} {A B : ByteArray} {sc en : Int} (h : NSt w wx b neg A B sc en) : wx.cell? ⟨b, 0, none⟩ = some (.bool neg) ∧ wx.cell? ⟨b, 1, none⟩ = some (.string A) ∧ wx.cell? ⟨b, 2, none⟩ = some (.string B) ∧ wx.cell? ⟨b, 3, none⟩ = some (.int .i64 sc) ∧ wx.cell? ⟨b, 4, none⟩ = some (.int .i64 en) := h.2.2.cells.1
theorem NSt.fiveP {w wx : World} {b : Nat} {neg : Bool} {A B : ByteArray} {sc en : Int} (h : NSt w wx b neg A B sc en) (hb : w.heap.size ≠ b) (x0 x1 x2 : Value) :
    (((wx.setCell ⟨w.heap.size, 0, none⟩ x0).setCell ⟨w.heap.size, 1, none⟩ x1).setCell ⟨w.heap.size, 2, none⟩ x2).cell? ⟨b, 0, none⟩ = some (.bool neg) ∧ (((wx.setCell ⟨w.heap.size, 0, none⟩ x0).setCell ⟨w.heap.size, 1, none⟩ x1).setCell ⟨w.heap.size, 2, none⟩ x2).cell? ⟨b, 1, none⟩ = some (.string A) ∧ (((wx.setCell ⟨w.heap.size, 0, none⟩ x0).setCell ⟨w.heap.size, 1, none⟩ x1).setCell ⟨w.heap.size, 2, none⟩ x2).cell? ⟨b, 2, none⟩ = some (.string B) ∧ (((wx.setCell ⟨w.heap.size, 0, none⟩ x0).setCell ⟨w.heap.size, 1, none⟩ x1).setCell ⟨w.heap.size, 2, none⟩ x2).cell? ⟨b, 3, none⟩ = some (.int .i64 sc) ∧ (((wx.setCell ⟨w.heap.size, 0, none⟩ x0).setCell ⟨w.heap.size, 1, none⟩ x1).setCell ⟨w.heap.size, 2, none⟩ x2).cell? ⟨b, 4, none⟩ = some (.int .i64 en) :=
  (((h.2.2.set_far hb).set_far hb).set_far hb).cells.1
theorem NSt.put {w wx : World} {b : Nat} {neg : Bool} {A B : ByteArray} {sc en : Int} (h : NSt w wx b neg A B sc en) (x0 x1 x2 : Value) :
    Row3 (((wx.setCell ⟨w.heap.size, 0, none⟩ x0).setCell ⟨w.heap.size, 1, none⟩ x1).setCell ⟨w.heap.size, 2, none⟩ x2) w.heap.size x0 x1 x2 ∧ Below w.heap.size w (((wx.setCell ⟨w.heap.size, 0, none⟩ x0).setCell ⟨w.heap.size, 1, none⟩ x1).setCell ⟨w.heap.size, 2, none⟩ x2) :=
  ⟨h.2.1.put _ _ _, set3_below h.1 (Nat.le_refl _)⟩

/-- What Number tells. -/
def NumTold (xs : List Int) (w : World) (e : Ending) (w' : World) : Prop := ∃ v, e = .returned (.tuple #[v, .int .i64 ((Sc.num xs).2 : Nat)]) ∧ DecIs v (Sc.num xs).1 ∧ Below w.heap.size w w'
def WhlTold (xs : List Int) (w : World) (e : Ending) (w' : World) : Prop := ∃ v, e = .returned (.tuple #[v, .bool (Sc.whl xs).2]) ∧ DecIs v (Sc.whl xs).1 ∧ Below w.heap.size w w'

set_option maxRecDepth 100000 in
set_option maxHeartbeats 2000000 in
theorem number_any (s : ByteArray) (xs : List Int) (w : World) (hs : Str s xs) (hn : xs.length ≤ 562949953421312) (hn2 : Sc.some? xs (Sc.run Sc.bl xs 0) → (Sc.lit xs (Sc.run Sc.bl xs 0)).ah.length + (Sc.lit xs (Sc.run Sc.bl xs 0)).bh.length ≤ 281474976710655) :
    Calls Tryd.prog 14 #[.string s] w fun e w' => NumTold xs w e w' := by
  have BL : Hid (∀ wx, Calls Tryd.prog 32 #[.string s, .int .i64 0] wx fun e w' => e = .returned (.int .i64 (Sc.run Sc.bl xs 0 : Nat)) ∧ w' = wx) := fun wx => by
    have := blanks_any s xs 0 wx hs hn (Nat.zero_le _)
    rw [Nat.zero_add] at this
    exact this
  have RD := hid (fun wx => read_any s xs (Sc.run Sc.bl xs 0) wx hs hn (by have := Sc.run_le Sc.bl xs 0; omega))
  have NE : Hid (Sc.some? xs (Sc.run Sc.bl xs 0) → Sc.num xs = ((Sc.lit xs (Sc.run Sc.bl xs 0)).d, (Sc.lit xs (Sc.run Sc.bl xs 0)).en)) := fun c => by unfold Sc.num; rw [if_pos c]
  have NZ : Hid (¬ Sc.some? xs (Sc.run Sc.bl xs 0) → Sc.num xs = (⟨false, [], 0⟩, 0)) := fun c => by unfold Sc.num; rw [if_neg c]
  have LS := hid (Sc.lit_sc xs (Sc.run Sc.bl xs 0))
  have H2 := hid hn2
  clear hs hn hn2
  generalize Sc.run Sc.bl xs 0 = K at *
  go_enter Tryd.func14, Tryd.ntmps14
  go_wp2_with fail
  refine (BL.out _).mono ?_
  rintro e w1 ⟨rfl, rfl⟩
  go_wp2_with fail
  refine (RD.out _).mono ?_
  rintro e w1 ⟨h | ⟨h, rfl⟩, hB⟩
  · obtain ⟨hs, A, B, rfl, hA, hB'⟩ := h
    have ST := hid (NSt.new hB (Sc.lit xs K).neg A B (Sc.lit xs K).sc ((Sc.lit xs K).en : Nat))
    have DC := hid (fun wx => ldec_any (Sc.lit xs K).neg A B (Sc.lit xs K).ah (Sc.lit xs K).bh (Sc.lit xs K).sc ((Sc.lit xs K).en : Nat) wx hA hB' (H2.out hs) LS.out.1 LS.out.2)
    have NB0 : Hid (w.heap.size ≠ w1.heap.size) := by
      have := hB.size
      rw [show (w.alloc (.cells #[.bool false, .string ⟨#[]⟩, .int .i64 0] 29)).heap.size = w.heap.size + 1 by simp] at this
      show _ ≠ _; omega
    have NE' := hid (NE.out hs)
    clear hB hA hB' hs H2 LS NE NZ RD BL
    have ED : Hid (Sc.nrm (Sc.lit xs K).neg ((Sc.lit xs K).ah ++ (Sc.lit xs K).bh) ((Sc.lit xs K).sc - (Sc.lit xs K).bh.length) = (Sc.num xs).1) := by rw [NE'.out]; rfl
    have EE : Hid ((Sc.lit xs K).en = (Sc.num xs).2) := by rw [NE'.out]; rfl
    rw [ED.out] at DC
    rw [EE.out] at DC ST
    unfold litV at DC ⊢
    rw [EE.out]
    clear ED EE NE'
    generalize Sc.lit xs K = l at *
    go_upto_region 4 with fail
    generalize w1.alloc (.cells #[.bool l.neg, .string A, .string B, .int .i64 l.sc, .int .i64 ((Sc.num xs).2 : Nat)] 54) = wA at *
    have NB : Hid (w.heap.size ≠ w1.heap.size) := NB0.out
    generalize w1.heap.size = b at *
    have SD := hid ST.out.drew
    have FF : Hid (∀ v, DecIs v (Sc.num xs).1 → ∃ t, v = .agg #[.bool (Sc.num xs).1.neg, .string t, .int .i64 (Sc.num xs).1.e] ∧ Str t (Sc.num xs).1.ds) := fun v h => h
    go_region_held3 (fun w' => w'.cell? ⟨b, 0, none⟩ = some (.bool l.neg) ∧ w'.cell? ⟨b, 1, none⟩ = some (.string A) ∧ w'.cell? ⟨b, 2, none⟩ = some (.string B) ∧ w'.cell? ⟨b, 3, none⟩ = some (.int .i64 l.sc) ∧ w'.cell? ⟨b, 4, none⟩ = some (.int .i64 ((Sc.num xs).2 : Nat))) (first | (with_reducible exact T1.out.fiveP NB.out _ _ _) | (with_reducible exact T1.out.five) | (with_reducible exact SD.out.five)) (first | (go_at_call 33; refine (DC.out _).mono ?_; rintro e w2 ⟨v, rfl, hv, hB⟩; obtain ⟨t, rfl, ht⟩ := FF.out _ hv; have HT := hid ht; have T1 := hid (SD.out.on hB); obtain ⟨-, ⟨d0, d1, d2⟩, g0, g1, g2⟩ := T1.out.flat; clear hv hB ht))
    all_goals go_wp2_with fail
    all_goals (try simp only [Exit.inBlock, Exit.then])
    all_goals (refine bodyPost_ret (results_row_tmp rfl _ _ w.heap.size 29 _ (0, 0) _ rfl (T1.out.put _ _ _).1 Tryd.underlying29 rfl (by kernel_rfl)) rfl ?_; exact ⟨_, rfl, ⟨_, rfl, HT.out⟩, (T1.out.put _ _ _).2⟩)
  · have ST := hid (NSt.new hB false ⟨#[]⟩ ⟨#[]⟩ 0 0)
    obtain ⟨-, ⟨d0, d1, d2⟩, g0, g1, g2⟩ := ST.out.flat
    have NZ' := hid (NZ.out h)
    clear hB h H2 LS NE NZ RD BL
    have EE : Hid ((Sc.num xs).2 = 0) := by rw [NZ'.out]; rfl
    unfold litV
    have F : Hid (∀ w', Below w.heap.size w w' → NumTold xs w (.returned (.tuple #[.agg #[.bool false, .string ⟨#[]⟩, .int .i64 0], .int .i64 0])) w') := fun w' b => ⟨_, by rw [NZ'.out]; rfl, by rw [NZ'.out]; exact ⟨_, rfl, str_nil0⟩, b⟩
    clear EE NZ'
    go_wp2_with fail
    (try simp only [Exit.inBlock, Exit.then])
    refine bodyPost_ret (results_row_tmp rfl _ _ w.heap.size 29 _ (0, 0) _ rfl (ST.out.put _ _ _).1 Tryd.underlying29 rfl (by kernel_rfl)) rfl ?_
    exact F.out _ (ST.out.put _ _ _).2

set_option maxRecDepth 100000 in
set_option maxHeartbeats 2000000 in
theorem whole_any (s : ByteArray) (xs : List Int) (w : World) (hs : Str s xs) (hn : xs.length ≤ 562949953421312) (hn2 : Sc.some? xs (Sc.run Sc.bl xs 0) → (Sc.lit xs (Sc.run Sc.bl xs 0)).ah.length + (Sc.lit xs (Sc.run Sc.bl xs 0)).bh.length ≤ 281474976710655) :
    Calls Tryd.prog 15 #[.string s] w fun e w' => WhlTold xs w e w' := by
  have hk := Sc.run_le Sc.bl xs 0
  have BL : Hid (∀ wx, Calls Tryd.prog 32 #[.string s, .int .i64 0] wx fun e w' => e = .returned (.int .i64 (Sc.run Sc.bl xs 0 : Nat)) ∧ w' = wx) := fun wx => by
    have := blanks_any s xs 0 wx hs hn (Nat.zero_le _)
    rw [Nat.zero_add] at this
    exact this
  have RD := hid (fun wx => read_any s xs (Sc.run Sc.bl xs 0) wx hs hn (by omega))
  have NE : Hid (Sc.some? xs (Sc.run Sc.bl xs 0) → (Sc.lit xs (Sc.run Sc.bl xs 0)).en + Sc.run Sc.bl xs (Sc.lit xs (Sc.run Sc.bl xs 0)).en = xs.length → Sc.whl xs = ((Sc.lit xs (Sc.run Sc.bl xs 0)).d, true)) := fun c d => by unfold Sc.whl; rw [if_pos ⟨c, d⟩]
  have NZ : Hid (¬ (Sc.some? xs (Sc.run Sc.bl xs 0) ∧ (Sc.lit xs (Sc.run Sc.bl xs 0)).en + Sc.run Sc.bl xs (Sc.lit xs (Sc.run Sc.bl xs 0)).en = xs.length) → Sc.whl xs = (⟨false, [], 0⟩, false)) := fun c => by unfold Sc.whl; rw [if_neg c]
  have LS := hid (Sc.lit_sc xs (Sc.run Sc.bl xs 0))
  have B2 : Hid (∀ (p : Nat) wx, p = (Sc.lit xs (Sc.run Sc.bl xs 0)).en + Sc.run Sc.bl xs (Sc.lit xs (Sc.run Sc.bl xs 0)).en → Calls Tryd.prog 32 #[.string s, .int .i64 ((Sc.lit xs (Sc.run Sc.bl xs 0)).en : Nat)] wx fun e w' => e = .returned (.int .i64 (p : Nat)) ∧ w' = wx) := fun p wx hp => by
    subst hp
    exact blanks_any s xs _ wx hs hn (Sc.en_le xs _ (by omega))
  have PL : Hid ((Sc.lit xs (Sc.run Sc.bl xs 0)).en + Sc.run Sc.bl xs (Sc.lit xs (Sc.run Sc.bl xs 0)).en ≤ xs.length) := by
    have h1 := Sc.en_le xs (Sc.run Sc.bl xs 0) (by omega)
    have h2 := Sc.run_le Sc.bl xs (Sc.lit xs (Sc.run Sc.bl xs 0)).en
    show _ ≤ _; omega
  have H2 := hid hn2
  have hsz := hs.size
  clear hs hn hn2 hk
  generalize Sc.run Sc.bl xs 0 = K at *
  have ZF : Hid (Sc.whl xs = (⟨false, [], 0⟩, false) → ∀ w', Below w.heap.size w w' → WhlTold xs w (.returned (.tuple #[.agg #[.bool false, .string ⟨#[]⟩, .int .i64 0], .bool false])) w') := fun z w' b => ⟨_, by rw [z], by rw [z]; exact ⟨_, rfl, str_nil0⟩, b⟩
  go_enter Tryd.func15, Tryd.ntmps15
  go_wp2_with fail
  refine (BL.out _).mono ?_
  rintro e w1 ⟨rfl, rfl⟩
  go_wp2_with fail
  refine (RD.out _).mono ?_
  rintro e w1 ⟨h | ⟨h, rfl⟩, hB⟩
  · obtain ⟨hs, A, B, rfl, hA, hB'⟩ := h
    have ST := hid (NSt.new hB (Sc.lit xs K).neg A B (Sc.lit xs K).sc ((Sc.lit xs K).en : Nat))
    have DC := hid (fun wx => ldec_any (Sc.lit xs K).neg A B (Sc.lit xs K).ah (Sc.lit xs K).bh (Sc.lit xs K).sc ((Sc.lit xs K).en : Nat) wx hA hB' (H2.out hs) LS.out.1 LS.out.2)
    clear hB hA hB' H2 LS RD BL
    obtain ⟨⟨c0, c1, c2, c3, c4⟩, ⟨d0, d1, d2⟩, g0, g1, g2⟩ := ST.out.flat
    by_cases hp : (Sc.lit xs K).en + Sc.run Sc.bl xs (Sc.lit xs K).en = xs.length
    · have NE' := hid (NE.out hs hp)
      have B3 := hid (fun wx => B2.out xs.length wx hp.symm)
      have ED : Hid (Sc.nrm (Sc.lit xs K).neg ((Sc.lit xs K).ah ++ (Sc.lit xs K).bh) ((Sc.lit xs K).sc - (Sc.lit xs K).bh.length) = (Sc.whl xs).1) := by rw [NE'.out]; rfl
      have E2 : Hid ((Sc.whl xs).2 = true) := by rw [NE'.out]; rfl
      rw [ED.out] at DC
      have FF : Hid (∀ v, DecIs v (Sc.whl xs).1 → ∃ t, v = .agg #[.bool (Sc.whl xs).1.neg, .string t, .int .i64 (Sc.whl xs).1.e] ∧ Str t (Sc.whl xs).1.ds) := fun v h => h
      have GG : Hid (∀ t w', Str t (Sc.whl xs).1.ds → Below w.heap.size w w' → WhlTold xs w (.returned (.tuple #[.agg #[.bool (Sc.whl xs).1.neg, .string t, .int .i64 (Sc.whl xs).1.e], .bool true])) w') := fun t w' ht b => ⟨_, by rw [E2.out]; rfl, ⟨_, rfl, ht⟩, b⟩
      clear ED E2 NE' NE NZ ZF B2 PL hs hp
      unfold litV at DC ⊢
      generalize Sc.lit xs K = l at *
      go_wp2_with fail
      refine (B3.out _).mono ?_
      rintro e w2 ⟨rfl, rfl⟩
      go_wp2_with fail
      refine (DC.out _).mono ?_
      rintro e w2 ⟨v, rfl, hv, hB⟩
      obtain ⟨t, rfl, ht⟩ := FF.out _ hv
      have HT := hid ht
      have T1 := hid (ST.out.on hB)
      clear hv hB ht c0 c1 c2 c3 c4 d0 d1 d2 g0 g1 g2
      obtain ⟨-, ⟨d0, d1, d2⟩, g0, g1, g2⟩ := T1.out.flat
      go_wp2_with fail
      (try simp only [Exit.inBlock, Exit.then])
      refine bodyPost_ret (results_row_tmp rfl _ _ w.heap.size 29 _ (0, 0) _ rfl (T1.out.put _ _ _).1 Tryd.underlying29 rfl (by kernel_rfl)) rfl ?_
      exact GG.out _ _ HT.out (T1.out.put _ _ _).2
    · have Z2 := hid (ZF.out (NZ.out fun c => hp c.2))
      obtain ⟨p, hpe⟩ : ∃ p, p = (Sc.lit xs K).en + Sc.run Sc.bl xs (Sc.lit xs K).en := ⟨_, rfl⟩
      have B3 := hid (fun wx => B2.out p wx hpe)
      have hpl : (p : Int) < (xs.length : Int) := by have := PL.out; omega
      clear NE NZ ZF B2 PL hs hp hpe DC
      unfold litV
      generalize Sc.lit xs K = l at *
      go_wp2_with fail
      refine (B3.out _).mono ?_
      rintro e w2 ⟨rfl, rfl⟩
      go_wp2_with fail
      (try simp only [Exit.inBlock, Exit.then])
      refine bodyPost_ret (results_row_tmp rfl _ _ w.heap.size 29 _ (0, 0) _ rfl (ST.out.put _ _ _).1 Tryd.underlying29 rfl (by kernel_rfl)) rfl ?_
      exact Z2.out _ (ST.out.put _ _ _).2
  · have ST := hid (NSt.new hB false ⟨#[]⟩ ⟨#[]⟩ 0 0)
    obtain ⟨-, ⟨d0, d1, d2⟩, g0, g1, g2⟩ := ST.out.flat
    have Z2 := hid (ZF.out (NZ.out fun c => h c.1))
    clear hB h H2 LS NE NZ RD BL ZF B2 PL
    unfold litV
    go_wp2_with fail
    (try simp only [Exit.inBlock, Exit.then])
    refine bodyPost_ret (results_row_tmp rfl _ _ w.heap.size 29 _ (0, 0) _ rfl (ST.out.put _ _ _).1 Tryd.underlying29 rfl (by kernel_rfl)) rfl ?_
    exact Z2.out _ (ST.out.put _ _ _).2
end Go.Proofs.YtjghlpkjbfaoiaaDoor
