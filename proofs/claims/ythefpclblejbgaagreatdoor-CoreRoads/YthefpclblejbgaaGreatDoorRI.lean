/-
  Texts put together: VNumb, PParse, KOne, PClosed, TRoads, KTab.
-/
import Derived.Test.YthefpclblejbgaaGreatDoorRD
import Derived.Test.YthefpclblejbgaaGreatDoorRH
import Derived.Deep.Cut
import Derived.Deep.RegionHeld3
import Derived.Test.YthefpclblejbgaaGreatDoorRG
import Derived.Test.YthefpclblejbgaaGreatDoorRE
import Derived.Lib.LaidTab
namespace Go.Proofs.YthefpclblejbgaaGreatDoor
open Go Go.RowKit Go.Deep




theorem Str.append {s t : ByteArray} {xs ys : List Int} (h : Str s xs) (k : Str t ys) : Str (s ++ t) (xs ++ ys) := by
  unfold Str at *
  rw [ByteArray.data_append, Array.toList_append, List.map_append, h, k]

/-- A literal's box and room for a Dec. -/
def LitBox (w w' : World) (neg : Bool) (A B : ByteArray) (sc en : Int) : Prop := Below w.heap.size w w' ∧ Row5 w' w.heap.size 56 (.bool neg) (.string A) (.string B) (.int .i64 sc) (.int .i64 en) ∧ Row3 w' (w.heap.size + 1) (.bool false) (.string ⟨#[]⟩) (.int .i64 0)
theorem LitBox.new (w : World) (neg : Bool) (A B : ByteArray) (sc en : Int) : LitBox w ((w.alloc (.cells #[.bool neg, .string A, .string B, .int .i64 sc, .int .i64 en] 56)).alloc (.cells #[.bool false, .string ⟨#[]⟩, .int .i64 0] 35)) neg A B sc en :=
  ⟨below_on (alloc_b _ _) (alloc_b _ _), heap_alloc2_old _ _ _, heap_alloc2_new _ _ _⟩
theorem LitBox.on {w w' w'' : World} {neg : Bool} {A B : ByteArray} {sc en : Int} (h : LitBox w w' neg A B sc en) (k : Below w'.heap.size w' w'') : LitBox w w'' neg A B sc en :=
  ⟨below_on h.1 k, h.2.1.below k h.2.1.lt, h.2.2.below k h.2.2.lt⟩
theorem LitBox.put {w w' : World} {neg : Bool} {A B : ByteArray} {sc en : Int} (h : LitBox w w' neg A B sc en) (x0 x1 x2 : Value) :
    Row3 (((w'.setCell ⟨w.heap.size + 1, 0, none⟩ x0).setCell ⟨w.heap.size + 1, 1, none⟩ x1).setCell ⟨w.heap.size + 1, 2, none⟩ x2) (w.heap.size + 1) x0 x1 x2 ∧ Below w.heap.size w (((w'.setCell ⟨w.heap.size + 1, 0, none⟩ x0).setCell ⟨w.heap.size + 1, 1, none⟩ x1).setCell ⟨w.heap.size + 1, 2, none⟩ x2) :=
  ⟨h.2.2.put _ _ _, set3_below h.1 (Nat.le_succ _)⟩



set_option maxRecDepth 100000 in
set_option maxHeartbeats 1000000 in
theorem ldec_any (neg : Bool) (A B : ByteArray) (xs ys : List Int) (sc en : Int) (w : World) (hA : Str A xs) (hB : Str B ys) (hn : xs.length + ys.length ≤ 281474976710655) (s0 : -1000000000000000 ≤ sc) (s1 : sc ≤ 1000000000000000) :
    Calls Tryz.prog 26 #[litV neg A B sc en] w fun r w' => ∃ v, r = .returned v ∧ DecIs v (Sc.nrm neg (xs ++ ys) (sc - ys.length)) ∧ Below w.heap.size w w' := by
  have T := hid (fun wx => dtrim_any neg (A ++ B) (xs ++ ys) (sc - ys.length) wx (hA.append hB) (by simp; omega) (by omega) (by omega))
  have O : Hid (∀ s wx, Str s (Sc.nrm neg (xs ++ ys) (sc - ys.length)).ds → Calls Tryz.prog 46 #[decV (Sc.nrm neg (xs ++ ys) (sc - ys.length)).neg s (Sc.nrm neg (xs ++ ys) (sc - ys.length)).e] wx fun r w' => r = .returned (decV (Sc.nrm neg (xs ++ ys) (sc - ys.length)).neg s (Sc.nrm neg (xs ++ ys) (sc - ys.length)).e) ∧ Below wx.heap.size wx w') := fun s wx h => own_any _ s _ wx (by rw [h.size]; exact nrm_ds_len _ _ _ (by simp; omega))
  have Z := hid (LitBox.new w neg A B sc en)
  have hsA := hA.size
  have hsB := hB.size
  have yb : (ys.length : Int) ≤ 281474976710655 := by omega
  have ncat : ¬ (9223372036854775807 < xs.length + ys.length) := by omega
  clear hA hB hn
  generalize Sc.nrm neg (xs ++ ys) (sc - ys.length) = D at *
  unfold litV
  unfold decV at T O
  go_enter Tryz.func26, Tryz.ntmps26
  go_wp2_with fail
  refine (T.out _).mono ?_
  rintro r w1 ⟨v, rfl, ⟨s2, hv, h2⟩, hB⟩
  unfold decV at hv
  subst hv
  have O2 := hid (fun wx => O.out s2 wx h2)
  have H2 := hid h2
  have S1 := hid (Z.out.on hB)
  clear h2 hB O T Z
  go_wp2_with fail
  refine (O2.out _).mono ?_
  rintro r w2 ⟨rfl, hB⟩
  have S2 := hid (S1.out.on hB)
  obtain ⟨⟨d0, d1, d2⟩, g0, g1, g2⟩ := S2.out.2.2.cells
  clear hB S1 O2
  go_wp2_with fail
  (try simp only [Exit.inBlock, Exit.then])
  refine bodyPost_ret (results_cell_row rfl _ _ (w.heap.size + 1) 35 _ (0, 0) _ rfl (S2.out.put _ _ _).1 Tryz.underlying35 rfl (by kernel_rfl)) rfl ?_
  exact dec_ret ⟨_, rfl, H2.out⟩ (S2.out.put _ _ _).2

/-- Room for the answer; the literal in its box. -/
def NSt (w wx : World) (b : Nat) (neg : Bool) (A B : ByteArray) (sc en : Int) : Prop :=
  Below w.heap.size w wx ∧ Row3 wx w.heap.size (.bool false) (.string ⟨#[]⟩) (.int .i64 0) ∧ Row5 wx b 56 (.bool neg) (.string A) (.string B) (.int .i64 sc) (.int .i64 en)
theorem NSt.new {w w1 : World} (hB : Below (w.alloc (.cells #[.bool false, .string ⟨#[]⟩, .int .i64 0] 35)).heap.size (w.alloc (.cells #[.bool false, .string ⟨#[]⟩, .int .i64 0] 35)) w1) (neg : Bool) (A B : ByteArray) (sc en : Int) :
    NSt w (w1.alloc (.cells #[.bool neg, .string A, .string B, .int .i64 sc, .int .i64 en] 56)) w1.heap.size neg A B sc en := by
  have r := (Row3.new w (.bool false) (.string ⟨#[]⟩) (.int .i64 0)).below hB (Row3.new w _ _ _).lt
  exact ⟨below_on (below_on (alloc_b _ _) hB) (alloc_b _ _), r.below (alloc_b _ _) r.lt, heap_alloc_new _ _⟩
theorem NSt.on {w wx w' : World} {b : Nat} {neg : Bool} {A B : ByteArray} {sc en : Int} (h : NSt w wx b neg A B sc en) (k : Below wx.heap.size wx w') : NSt w w' b neg A B sc en :=
  ⟨below_on h.1 k, h.2.1.below k h.2.1.lt, h.2.2.below k h.2.2.lt⟩
theorem NSt.drew {w wx : World} {b : Nat} {neg : Bool} {A B : ByteArray} {sc en : Int} (h : NSt w wx b neg A B sc en) : NSt w wx.drew b neg A B sc en :=
  h.on (below_drewN (Below.refl _ _) 1)
theorem NSt.flat {w wx : World} {b : Nat} {neg : Bool} {A B : ByteArray} {sc en : Int} (h : NSt w wx b neg A B sc en) :
    (wx.cell? ⟨b, 0, none⟩ = some (.bool neg) ∧ wx.cell? ⟨b, 1, none⟩ = some (.string A) ∧ wx.cell? ⟨b, 2, none⟩ = some (.string B) ∧ wx.cell? ⟨b, 3, none⟩ = some (.int .i64 sc) ∧ wx.cell? ⟨b, 4, none⟩ = some (.int .i64 en)) ∧
    (wx.cell? ⟨w.heap.size, 0, none⟩ = some (.bool false) ∧ wx.cell? ⟨w.heap.size, 1, none⟩ = some (.string ⟨#[]⟩) ∧ wx.cell? ⟨w.heap.size, 2, none⟩ = some (.int .i64 0)) ∧
    (wx.frozen? ⟨w.heap.size, 0, none⟩ = false ∧ wx.frozen? ⟨w.heap.size, 1, none⟩ = false ∧ wx.frozen? ⟨w.heap.size, 2, none⟩ = false) :=
  ⟨h.2.2.cells.1, h.2.1.cells.1, h.2.1.cells.2⟩
def Five (wx : World) (b : Nat) (neg : Bool) (A B : ByteArray) (sc en : Int) : Prop := wx.cell? ⟨b, 0, none⟩ = some (.bool neg) ∧ wx.cell? ⟨b, 1, none⟩ = some (.string A) ∧ wx.cell? ⟨b, 2, none⟩ = some (.string B) ∧ wx.cell? ⟨b, 3, none⟩ = some (.int .i64 sc) ∧ wx.cell? ⟨b, 4, none⟩ = some (.int .i64 en)
theorem NSt.five {w wx : World} {b : Nat} {neg : Bool} {A B : ByteArray} {sc en : Int} (h : NSt w wx b neg A B sc en) : wx.cell? ⟨b, 0, none⟩ = some (.bool neg) ∧ wx.cell? ⟨b, 1, none⟩ = some (.string A) ∧ wx.cell? ⟨b, 2, none⟩ = some (.string B) ∧ wx.cell? ⟨b, 3, none⟩ = some (.int .i64 sc) ∧ wx.cell? ⟨b, 4, none⟩ = some (.int .i64 en) := h.2.2.cells.1
theorem NSt.fiveP {w wx : World} {b : Nat} {neg : Bool} {A B : ByteArray} {sc en : Int} (h : NSt w wx b neg A B sc en) (hb : w.heap.size ≠ b) (x0 x1 x2 : Value) :
    (((wx.setCell ⟨w.heap.size, 0, none⟩ x0).setCell ⟨w.heap.size, 1, none⟩ x1).setCell ⟨w.heap.size, 2, none⟩ x2).cell? ⟨b, 0, none⟩ = some (.bool neg) ∧ (((wx.setCell ⟨w.heap.size, 0, none⟩ x0).setCell ⟨w.heap.size, 1, none⟩ x1).setCell ⟨w.heap.size, 2, none⟩ x2).cell? ⟨b, 1, none⟩ = some (.string A) ∧ (((wx.setCell ⟨w.heap.size, 0, none⟩ x0).setCell ⟨w.heap.size, 1, none⟩ x1).setCell ⟨w.heap.size, 2, none⟩ x2).cell? ⟨b, 2, none⟩ = some (.string B) ∧ (((wx.setCell ⟨w.heap.size, 0, none⟩ x0).setCell ⟨w.heap.size, 1, none⟩ x1).setCell ⟨w.heap.size, 2, none⟩ x2).cell? ⟨b, 3, none⟩ = some (.int .i64 sc) ∧ (((wx.setCell ⟨w.heap.size, 0, none⟩ x0).setCell ⟨w.heap.size, 1, none⟩ x1).setCell ⟨w.heap.size, 2, none⟩ x2).cell? ⟨b, 4, none⟩ = some (.int .i64 en) :=
  (((h.2.2.set_far hb).set_far hb).set_far hb).cells.1
theorem NSt.put {w wx : World} {b : Nat} {neg : Bool} {A B : ByteArray} {sc en : Int} (h : NSt w wx b neg A B sc en) (x0 x1 x2 : Value) :
    Row3 (((wx.setCell ⟨w.heap.size, 0, none⟩ x0).setCell ⟨w.heap.size, 1, none⟩ x1).setCell ⟨w.heap.size, 2, none⟩ x2) w.heap.size x0 x1 x2 ∧ Below w.heap.size w (((wx.setCell ⟨w.heap.size, 0, none⟩ x0).setCell ⟨w.heap.size, 1, none⟩ x1).setCell ⟨w.heap.size, 2, none⟩ x2) :=
  ⟨h.2.1.put _ _ _, set3_below h.1 (Nat.le_refl _)⟩

/-- What Number tells. -/
def NumTold (xs : List Int) (w : World) (e : Ending) (w' : World) : Prop := ∃ v, e = .returned (.tuple #[v, .int .i64 ((Sc.num xs).2 : Nat)]) ∧ DecIs v (Sc.num xs).1 ∧ Below w.heap.size w w'
def WhlTold (xs : List Int) (w : World) (e : Ending) (w' : World) : Prop := ∃ v, e = .returned (.tuple #[v, .bool (Sc.whl xs).2]) ∧ DecIs v (Sc.whl xs).1 ∧ Below w.heap.size w w'

set_option maxRecDepth 100000 in
set_option maxHeartbeats 2000000 in
theorem number_any (s : ByteArray) (xs : List Int) (w : World) (hs : Str s xs) (hn : xs.length ≤ 562949953421312) (hn2 : Sc.some? xs (Sc.run Sc.bl xs 0) → (Sc.lit xs (Sc.run Sc.bl xs 0)).ah.length + (Sc.lit xs (Sc.run Sc.bl xs 0)).bh.length ≤ 281474976710655) :
    Calls Tryz.prog 11 #[.string s] w fun e w' => NumTold xs w e w' := by
  have BL : Hid (∀ wx, Calls Tryz.prog 25 #[.string s, .int .i64 0] wx fun e w' => e = .returned (.int .i64 (Sc.run Sc.bl xs 0 : Nat)) ∧ w' = wx) := fun wx => by
    have := blanks_any s xs 0 wx hs hn (Nat.zero_le _)
    rw [Nat.zero_add] at this
    exact this
  have RD := hid (fun wx => vread_any s xs (Sc.run Sc.bl xs 0) wx hs hn (by have := Sc.run_le Sc.bl xs 0; omega))
  have NE : Hid (Sc.some? xs (Sc.run Sc.bl xs 0) → Sc.num xs = ((Sc.lit xs (Sc.run Sc.bl xs 0)).d, (Sc.lit xs (Sc.run Sc.bl xs 0)).en)) := fun c => by unfold Sc.num; rw [if_pos c]
  have NZ : Hid (¬ Sc.some? xs (Sc.run Sc.bl xs 0) → Sc.num xs = (⟨false, [], 0⟩, 0)) := fun c => by unfold Sc.num; rw [if_neg c]
  have LS := hid (Sc.lit_sc xs (Sc.run Sc.bl xs 0))
  have H2 := hid hn2
  clear hs hn hn2
  generalize Sc.run Sc.bl xs 0 = K at *
  go_enter Tryz.func11, Tryz.ntmps11
  go_wp2_with fail
  refine (BL.out _).mono ?_
  rintro e w1 ⟨rfl, rfl⟩
  go_wp2_with fail
  refine (RD.out _).mono ?_
  rintro e w1 ⟨h | ⟨h, rfl⟩, hB⟩
  · obtain ⟨hs, A, B, rfl, hA, hB'⟩ := h
    have ST := hid (NSt.new hB (Sc.lit xs K).neg A B (Sc.lit xs K).sc ((Sc.lit xs K).en : Nat))
    have DC := hid (fun wx => ldec_any (Sc.lit xs K).neg A B (Sc.lit xs K).ah (Sc.lit xs K).bh (Sc.lit xs K).sc ((Sc.lit xs K).en : Nat) wx hA hB' (H2.out hs) LS.out.1 LS.out.2)
    have NB0 : Hid (w.heap.size ≠ w1.heap.size) := by
      have := hB.size
      rw [show (w.alloc (.cells #[.bool false, .string ⟨#[]⟩, .int .i64 0] 35)).heap.size = w.heap.size + 1 by simp] at this
      show _ ≠ _; omega
    have NE' := hid (NE.out hs)
    clear hB hA hB' hs H2 LS NE NZ RD BL
    have ED : Hid (Sc.nrm (Sc.lit xs K).neg ((Sc.lit xs K).ah ++ (Sc.lit xs K).bh) ((Sc.lit xs K).sc - (Sc.lit xs K).bh.length) = (Sc.num xs).1) := by rw [NE'.out]; rfl
    have EE : Hid ((Sc.lit xs K).en = (Sc.num xs).2) := by rw [NE'.out]; rfl
    rw [ED.out] at DC
    rw [EE.out] at DC ST
    unfold litV at DC ⊢
    rw [EE.out]
    clear ED EE NE'
    generalize Sc.lit xs K = l at *
    go_upto_region 4 with fail
    generalize w1.alloc (.cells #[.bool l.neg, .string A, .string B, .int .i64 l.sc, .int .i64 ((Sc.num xs).2 : Nat)] 56) = wA at *
    have NB : Hid (w.heap.size ≠ w1.heap.size) := NB0.out
    generalize w1.heap.size = b at *
    have SD := hid ST.out.drew
    have FF : Hid (∀ v, DecIs v (Sc.num xs).1 → ∃ t, v = .agg #[.bool (Sc.num xs).1.neg, .string t, .int .i64 (Sc.num xs).1.e] ∧ Str t (Sc.num xs).1.ds) := fun v h => h
    go_region_held3 (fun w' => w'.cell? ⟨b, 0, none⟩ = some (.bool l.neg) ∧ w'.cell? ⟨b, 1, none⟩ = some (.string A) ∧ w'.cell? ⟨b, 2, none⟩ = some (.string B) ∧ w'.cell? ⟨b, 3, none⟩ = some (.int .i64 l.sc) ∧ w'.cell? ⟨b, 4, none⟩ = some (.int .i64 ((Sc.num xs).2 : Nat))) (first | (with_reducible exact T1.out.fiveP NB.out _ _ _) | (with_reducible exact T1.out.five) | (with_reducible exact SD.out.five)) (first | (go_at_call 26; refine (DC.out _).mono ?_; rintro e w2 ⟨v, rfl, hv, hB⟩; obtain ⟨t, rfl, ht⟩ := FF.out _ hv; have HT := hid ht; have T1 := hid (SD.out.on hB); obtain ⟨-, ⟨d0, d1, d2⟩, g0, g1, g2⟩ := T1.out.flat; clear hv hB ht))
    all_goals go_wp2_with fail
    all_goals (try simp only [Exit.inBlock, Exit.then])
    all_goals (refine bodyPost_ret (results_row_tmp rfl _ _ w.heap.size 35 _ (0, 0) _ rfl (T1.out.put _ _ _).1 Tryz.underlying35 rfl (by kernel_rfl)) rfl ?_; exact ⟨_, rfl, ⟨_, rfl, HT.out⟩, (T1.out.put _ _ _).2⟩)
  · have ST := hid (NSt.new hB false ⟨#[]⟩ ⟨#[]⟩ 0 0)
    obtain ⟨-, ⟨d0, d1, d2⟩, g0, g1, g2⟩ := ST.out.flat
    have NZ' := hid (NZ.out h)
    clear hB h H2 LS NE NZ RD BL
    have EE : Hid ((Sc.num xs).2 = 0) := by rw [NZ'.out]; rfl
    unfold litV
    have F : Hid (∀ w', Below w.heap.size w w' → NumTold xs w (.returned (.tuple #[.agg #[.bool false, .string ⟨#[]⟩, .int .i64 0], .int .i64 0])) w') := fun w' b => ⟨_, by rw [NZ'.out]; rfl, by rw [NZ'.out]; exact ⟨_, rfl, str_nil0⟩, b⟩
    clear EE NZ'
    go_wp2_with fail
    (try simp only [Exit.inBlock, Exit.then])
    refine bodyPost_ret (results_row_tmp rfl _ _ w.heap.size 35 _ (0, 0) _ rfl (ST.out.put _ _ _).1 Tryz.underlying35 rfl (by kernel_rfl)) rfl ?_
    exact F.out _ (ST.out.put _ _ _).2

end Go.Proofs.YthefpclblejbgaaGreatDoor

namespace Go.Proofs.YthefpclblejbgaaGreatDoor
open Go Go.RowKit Go.Deep

/-- What Parse tells. -/
def ParTold (xs : List Int) (y : Int) (w : World) (r : Ending) (w' : World) : Prop :=
  r = .returned (.tuple #[.int .u64 (if (Sc.num xs).2 = 0 then 0 else Ie.sg (Sc.num xs).1.neg y), .int .i64 ((Sc.num xs).2 : Nat)]) ∧ Below w.heap.size w w'

theorem num_any10 (s : ByteArray) (xs : List Int) (w : World) (hs : Str s xs) (hn : xs.length ≤ 281474976710654) : Calls Tryz.prog 11 #[.string s] w fun e w' => NumTold xs w e w' :=
  number_any s xs w hs (by omega) (fun _ => by have := Sc.lit_len xs (Sc.run Sc.bl xs 0); omega)

set_option maxRecDepth 100000 in
set_option maxHeartbeats 1000000 in
theorem parse_any10 (s : ByteArray) (xs : List Int) (y : Int) (w : World) (hT : Tab w) (hX : Tens w) (hs : Str s xs) (hn : xs.length ≤ 281474976710654) (hy : 0 < (Sc.num xs).2 → Dr (Sc.num xs).1.ds (Sc.num xs).1.e y) :
    Calls Tryz.prog 8 #[.string s] w fun r w' => ParTold xs y w r w' := by
  have NM := hid (fun wx => num_any10 s xs wx hs hn)
  have TV : Hid (0 < (Sc.num xs).2 → ∀ t b wx, Str t (Sc.num xs).1.ds → Below w.heap.size w wx → RL true wx b → Calls Tryz.prog 20 #[.agg #[.bool (Sc.num xs).1.neg, .string t, .int .i64 (Sc.num xs).1.e], .slice (some ⟨b, 0, none⟩) 2 2] wx fun r w' => TravTold true (Sc.num xs).1.neg (Sc.num xs).1.ds (Sc.num xs).1.e y wx r w') := fun h t b wx ht k hl =>
    travel_any10 true (Sc.num xs).1.neg t (Sc.num xs).1.ds (Sc.num xs).1.e y b wx (hT.below k) (hX.below k) hl ht (num_nml h hn).2 (num_nml h hn).1 (hy h)
  have F0 : Hid ((Sc.num xs).2 = 0 → ∀ w', Below w.heap.size w w' → ParTold xs y w (.returned (.tuple #[.int .u64 0, .int .i64 0])) w') := fun h w' k => ⟨by rw [h, if_pos rfl]; rfl, k⟩
  have F1 : Hid (0 < (Sc.num xs).2 → ∀ w', Below w.heap.size w w' → ParTold xs y w (.returned (.tuple #[.int .u64 (Ie.sg (Sc.num xs).1.neg y), .int .i64 ((Sc.num xs).2 : Nat)])) w') := fun h w' k => ⟨by rw [if_neg (by omega)], k⟩
  have RO := hid roads_any10
  have ub : ((Sc.num xs).2 : Int) ≤ 281474976710654 := by have := Sc.num_le xs; omega
  clear hs hn hy hT hX
  go_enter Tryz.func8, Tryz.ntmps8
  go_wp2_with fail
  with_reducible refine (NM.out _).mono ?_
  rintro r w1 ⟨v, rfl, ⟨t, rfl, ht⟩, hB⟩
  unfold decV
  have Z := hid (DX.new' hB (Sc.num xs).1.neg t (Sc.num xs).1.e)
  by_cases hz : (Sc.num xs).2 = 0
  · have F := hid (F0.out hz)
    rw [hz]
    clear ht hB TV F0 F1 NM hz
    generalize (Sc.num xs).1 = N at *
    go_wp2_with fail
    go_ret2
    exact F.out _ Z.out.1
  · have hp : 0 < (Sc.num xs).2 := by omega
    have F := hid (F1.out hp)
    have T1 := hid (fun b wx => TV.out hp t b wx ht)
    have hz2 : (((Sc.num xs).2 : Int) == 0) = false := by rw [beq_eq_false_iff_ne]; omega
    clear ht TV F0 F1 NM hz hp hB
    generalize (Sc.num xs).1 = N at *
    generalize (Sc.num xs).2 = u at *
    go_upto_region 4 with fail
    generalize hW : w1.alloc (.cells #[.bool N.neg, .string t, .int .i64 N.e] 35) = W at *
    clear hW
    generalize w1.heap.size = g at *
    have SD := hid Z.out.drew
    clear Z
    go_region_held3 (fun w' => w'.cell? ⟨g, 0, none⟩ = some (.bool N.neg) ∧ w'.cell? ⟨g, 1, none⟩ = some (.string t) ∧ w'.cell? ⟨g, 2, none⟩ = some (.int .i64 N.e)) (first | (with_reducible exact U2.out.three) | (with_reducible exact U1.out.three) | (with_reducible exact SD.out.three)) (first
      | (go_at_call 21; refine (RO.out _).mono ?_; rintro r w2 ⟨⟨b, rfl, hl⟩, hB⟩; have U1 := hid (SD.out.on hB); have HL := hid hl; have b2 := U1.out.1; clear hB hl)
      | (go_at_call 20; refine (T1.out _ _ b2 HL.out).mono ?_; rintro r w3 ⟨k, _, rfl, hB⟩; have U2 := hid (U1.out.on hB); clear hB b2))
    all_goals go_wp2_with fail
    all_goals go_ret2
    all_goals exact F.out _ U2.out.1

/-- What Road tells. -/
def RoadTold (xs : List Int) (w : World) (r : Ending) (w' : World) : Prop :=
  (((Sc.num xs).2 = 0 ∧ r = .returned (.int .i64 0)) ∨ (0 < (Sc.num xs).2 ∧ ∃ su x, TellIs (Sc.num xs).1.ds (Sc.num xs).1.e x su ∧ r = .returned (.int .i64 (if su = true then 1 else 2)))) ∧ Below w.heap.size w w'

set_option maxRecDepth 100000 in
set_option maxHeartbeats 1000000 in
theorem road_any10 (s : ByteArray) (xs : List Int) (w : World) (hT : Tab w) (hX : Tens w) (hs : Str s xs) (hn : xs.length ≤ 281474976710654) :
    Calls Tryz.prog 10 #[.string s] w fun r w' => RoadTold xs w r w' := by
  obtain ⟨y, hy⟩ := dr_ex (Sc.num xs).1.ds (Sc.num xs).1.e
  have NM := hid (fun wx => num_any10 s xs wx hs hn)
  have TV : Hid (0 < (Sc.num xs).2 → ∀ t b wx, Str t (Sc.num xs).1.ds → Below w.heap.size w wx → RL true wx b → Calls Tryz.prog 20 #[.agg #[.bool (Sc.num xs).1.neg, .string t, .int .i64 (Sc.num xs).1.e], .slice (some ⟨b, 0, none⟩) 2 2] wx fun r w' => TravTold true (Sc.num xs).1.neg (Sc.num xs).1.ds (Sc.num xs).1.e y wx r w') := fun h t b wx ht k hl =>
    travel_any10 true (Sc.num xs).1.neg t (Sc.num xs).1.ds (Sc.num xs).1.e y b wx (hT.below k) (hX.below k) hl ht (num_nml h hn).2 (num_nml h hn).1 hy
  have F0 : Hid ((Sc.num xs).2 = 0 → ∀ w', Below w.heap.size w w' → RoadTold xs w (.returned (.int .i64 0)) w') := fun h w' k => ⟨.inl ⟨h, rfl⟩, k⟩
  have F1 : Hid (0 < (Sc.num xs).2 → ∀ k w', (∃ su x, TellIs (Sc.num xs).1.ds (Sc.num xs).1.e x su ∧ k = if su = true then (1 : Int) else 2) → Below w.heap.size w w' → RoadTold xs w (.returned (.int .i64 k)) w') := by
    rintro h k w' ⟨su, x, h1, rfl⟩ kb
    exact ⟨.inr ⟨h, su, x, h1, rfl⟩, kb⟩
  have RO := hid roads_any10
  have ub : ((Sc.num xs).2 : Int) ≤ 281474976710654 := by have := Sc.num_le xs; omega
  clear hs hn hy hT hX
  go_enter Tryz.func10, Tryz.ntmps10
  go_wp2_with fail
  with_reducible refine (NM.out _).mono ?_
  rintro r w1 ⟨v, rfl, ⟨t, rfl, ht⟩, hB⟩
  unfold decV
  have Z := hid (DX.new' hB (Sc.num xs).1.neg t (Sc.num xs).1.e)
  by_cases hz : (Sc.num xs).2 = 0
  · have F := hid (F0.out hz)
    rw [hz]
    clear ht hB TV F0 F1 NM hz
    generalize (Sc.num xs).1 = N at *
    go_wp2_with fail
    go_ret
    exact F.out _ Z.out.1
  · have hp : 0 < (Sc.num xs).2 := by omega
    have F := hid (F1.out hp)
    have T1 := hid (fun b wx => TV.out hp t b wx ht)
    have hz2 : (((Sc.num xs).2 : Int) == 0) = false := by rw [beq_eq_false_iff_ne]; omega
    clear ht TV F0 F1 NM hz hp hB
    generalize (Sc.num xs).1 = N at *
    generalize (Sc.num xs).2 = u at *
    go_upto_region 4 with fail
    generalize hW : w1.alloc (.cells #[.bool N.neg, .string t, .int .i64 N.e] 35) = W at *
    clear hW
    generalize w1.heap.size = g at *
    have SD := hid Z.out.drew
    clear Z
    go_region_held3 (fun w' => w'.cell? ⟨g, 0, none⟩ = some (.bool N.neg) ∧ w'.cell? ⟨g, 1, none⟩ = some (.string t) ∧ w'.cell? ⟨g, 2, none⟩ = some (.int .i64 N.e)) (first | (with_reducible exact U2.out.three) | (with_reducible exact U1.out.three) | (with_reducible exact SD.out.three)) (first
      | (go_at_call 21; refine (RO.out _).mono ?_; rintro r w2 ⟨⟨b, rfl, hl⟩, hB⟩; have U1 := hid (SD.out.on hB); have HL := hid hl; have b2 := U1.out.1; clear hB hl)
      | (go_at_call 20; refine (T1.out _ _ b2 HL.out).mono ?_; rintro r w3 ⟨k, hk, rfl, hB⟩; have U2 := hid (U1.out.on hB); have G := hid (F.out k _ (hk rfl) U2.out.1); clear hB b2 hk))
    all_goals go_wp2_with fail
    all_goals go_ret
    all_goals exact G.out
end Go.Proofs.YthefpclblejbgaaGreatDoor

namespace Go.Proofs.YthefpclblejbgaaGreatDoor
open Go Go.RowKit Go.Deep

theorem TellIs.one {xs : List Int} {e x y : Int} {s t : Bool} (h : TellIs xs e x s) (k : TellIs xs e y t) : x = y ∧ s = t := by
  rcases h with ⟨l, h⟩ | ⟨l, x1, s1, h1, h⟩ <;> rcases k with ⟨l', k⟩ | ⟨l', y1, t1, k1, k⟩
  · rcases h with ⟨a, b, c, hs, h⟩ | ⟨a, h⟩ <;> rcases k with ⟨a', b', c', ks, k⟩ | ⟨a', k⟩
    · exact ⟨Ie.Rnd.one (a := 0) (a' := 0) (Int.pow_pos (by decide)) (Int.pow_pos (by decide)) h k (by omega) rfl, by rw [hs, ks]⟩
    · omega
    · omega
    · exact h.one k
  · omega
  · omega
  · obtain ⟨rfl, rfl⟩ := h1.one k1
    rcases h with ⟨a, b, c⟩ | ⟨a, x2, s2, h2, h⟩ <;> rcases k with ⟨a', b', c'⟩ | ⟨a', y2, t2, k2, k⟩
    · exact ⟨by rw [b, b'], by rw [c, c']⟩
    · rw [a] at a'; cases a'
    · rw [a] at a'; cases a'
    · obtain ⟨rfl, rfl⟩ := h2.one k2
      rcases h with ⟨g1, g2, g3, g4⟩ | ⟨g1, g2, g3⟩ <;> rcases k with ⟨j1, j2, j3, j4⟩ | ⟨j1, j2, j3⟩
      · exact ⟨by rw [g3, j3], by rw [g4, j4]⟩
      · exact absurd ⟨g1, g2⟩ j1
      · exact absurd ⟨j1, j2⟩ g1
      · exact ⟨by rw [g2, j2], by rw [g3, j3]⟩
end Go.Proofs.YthefpclblejbgaaGreatDoor

namespace Go.Proofs.YthefpclblejbgaaGreatDoor
open Go Go.RowKit Go.Deep

theorem near_tenth : Ie.Near (1 * 2 ^ 1075) 10 false 4591870180066957722 := by unfold Ie.Near; decide +kernel
theorem near_12 : Ie.Near (12 * 2 ^ 1075) 10 false 4608083138725491507 := by unfold Ie.Near; decide +kernel
theorem near_15 : Ie.Near (15 * 2 ^ 1075) 1 false 4624633867356078080 := by unfold Ie.Near; decide +kernel
theorem near_0 : Ie.Near (0 * 2 ^ 1075) 1 false 0 := by unfold Ie.Near; decide +kernel

theorem dr_of {xs : List Int} {e x n d : Int} (h : Ie.Near (n * 2 ^ 1075) d false x) (h1 : dw xs * 10 ^ e.toNat = n) (h2 : (10 : Int) ^ (-e).toNat = d) : Dr xs e x := by
  unfold Dr
  rw [h1, h2]
  exact Ie.Rnd.of (e := 0) (a := 1075) (b := 0) (by decide) (by rw [Int.pow_zero, Int.mul_one]; exact h)

theorem dr_tenth : Dr [49] (-1) 4591870180066957722 := dr_of near_tenth (by decide +kernel) (by decide +kernel)
theorem dr_12 : Dr [49, 50] (-1) 4608083138725491507 := dr_of near_12 (by decide +kernel) (by decide +kernel)
theorem dr_15 : Dr [49, 53] 0 4624633867356078080 := dr_of near_15 (by decide +kernel) (by decide +kernel)
theorem dr_0 : Dr [48] 0 0 := dr_of near_0 (by decide +kernel) (by decide +kernel)

theorem num_a : Sc.num [32, 48, 46, 49, 120] = (⟨false, [49], -1⟩, 4) := by decide +kernel
theorem num_x : Sc.num [120] = (⟨false, [], 0⟩, 0) := by decide +kernel
theorem num_12 : Sc.num [49, 50] = (⟨false, [49, 50], 0⟩, 2) := by decide +kernel
theorem num_r1 : Sc.num [32, 45, 49, 46, 53, 101, 49, 120] = (⟨true, [49, 53], 0⟩, 7) := by decide +kernel
theorem num_r2 : Sc.num [48, 120, 49, 112, 51] = (⟨false, [48], 0⟩, 1) := by decide +kernel

theorem tell_12 {x : Int} {s : Bool} (h : TellIs [49, 50] 0 x s) : s = true := by
  have d : dw [49, 50] = 12 := by decide
  rcases h with ⟨_, ⟨_, _, _, h, _⟩ | ⟨h, _⟩⟩ | ⟨h, _⟩
  · exact h
  · rw [d] at h; omega
  · simp at h

theorem road_x (w : World) (hT : Tab w) (hX : Tens w) : Calls Tryz.prog 10 #[.string ⟨#[120]⟩] w fun r w' => r = .returned (.int .i64 0) ∧ Below w.heap.size w w' := by
  refine (road_any10 ⟨#[120]⟩ [120] w hT hX rfl (by decide)).mono ?_
  rintro r w' ⟨h, hB⟩
  rw [num_x] at h
  rcases h with ⟨_, h⟩ | ⟨h, _⟩
  · exact ⟨h, hB⟩
  · simp at h
theorem road_12 (w : World) (hT : Tab w) (hX : Tens w) : Calls Tryz.prog 10 #[.string ⟨#[49, 50]⟩] w fun r w' => r = .returned (.int .i64 1) ∧ Below w.heap.size w w' := by
  refine (road_any10 ⟨#[49, 50]⟩ [49, 50] w hT hX rfl (by decide)).mono ?_
  rintro r w' ⟨h, hB⟩
  rw [num_12] at h
  rcases h with ⟨h, _⟩ | ⟨_, su, x, h, hr⟩
  · simp at h
  · rw [tell_12 h] at hr
    exact ⟨hr, hB⟩
theorem parse_at (s : ByteArray) (xs : List Int) (D : Sc.D) (u : Nat) (y : Int) (w : World) (hT : Tab w) (hX : Tens w) (hs : Str s xs) (hn : xs.length ≤ 281474976710654) (hu : 0 < u) (e : Sc.num xs = (D, u)) (hy : Dr D.ds D.e y) :
    Calls Tryz.prog 8 #[.string s] w fun r w' => r = .returned (.tuple #[.int .u64 (Ie.sg D.neg y), .int .i64 (u : Nat)]) ∧ Below w.heap.size w w' := by
  refine (parse_any10 s xs y w hT hX hs hn (fun _ => by rw [e]; exact hy)).mono ?_
  rintro r w' ⟨rfl, hB⟩
  rw [e]
  refine ⟨?_, hB⟩
  rw [if_neg (show ¬ (D, u).2 = 0 by show ¬ u = 0; omega)]
end Go.Proofs.YthefpclblejbgaaGreatDoor

namespace Go.Proofs.YthefpclblejbgaaGreatDoor
open Go Go.RowKit Go.Deep

set_option maxRecDepth 100000 in
set_option maxHeartbeats 1000000 in
theorem reads_any10 (w : World) (hT : Tab w) (hX : Tens w) : Calls Tryz.prog 6 #[] w fun r w' => r = .returned (.bool true) ∧ Below w.heap.size w w' := by
  have P1 : Hid (∀ wx, Below w.heap.size w wx → Calls Tryz.prog 8 #[.string ⟨#[32, 45, 49, 46, 53, 101, 49, 120]⟩] wx fun r w' => r = .returned (.tuple #[.int .u64 13848005904210853888, .int .i64 7]) ∧ Below wx.heap.size wx w') := fun wx k => parse_at ⟨#[32, 45, 49, 46, 53, 101, 49, 120]⟩ _ _ 7 _ wx (hT.below k) (hX.below k) rfl (by decide) (by decide) num_r1 dr_15
  have P2 : Hid (∀ wx, Below w.heap.size w wx → Calls Tryz.prog 8 #[.string ⟨#[48, 120, 49, 112, 51]⟩] wx fun r w' => r = .returned (.tuple #[.int .u64 0, .int .i64 1]) ∧ Below wx.heap.size wx w') := fun wx k => parse_at ⟨#[48, 120, 49, 112, 51]⟩ _ _ 1 _ wx (hT.below k) (hX.below k) rfl (by decide) (by decide) num_r2 dr_0
  clear hT hX
  go_enter Tryz.func6, Tryz.ntmps6
  go_wp2_with fail
  with_reducible refine (P1.out _ (Below.refl _ _)).mono ?_
  rintro r w1 ⟨rfl, b1⟩
  go_wp2_with fail
  with_reducible refine (P2.out _ b1).mono ?_
  rintro r w2 ⟨rfl, hB⟩
  have B2 := hid (below_on b1 hB)
  clear hB b1
  go_wp2_with fail
  go_ret
  exact ⟨rfl, B2.out⟩

set_option maxRecDepth 100000 in
set_option maxHeartbeats 4000000 in
theorem coreRoads_law (t : ByteArray) (ys : List Int) (w : World) (hT : Tab w) (hX : Tens w) (ht : Str t ys) (hm : ys.length ≤ 140737488355328) :
    Calls Tryz.prog 4 #[.string t] w fun r w' => r = .returned (.bool true) ∧ Below w.heap.size w w' := by
  obtain ⟨z, hz⟩ := dr_ex (Sc.num ys).1.ds (Sc.num ys).1.e
  have AW := hid (fun wx (k : Below w.heap.size w wx) => reads_any10 wx (hT.below k) (hX.below k))
  have R0 := hid (fun wx (k : Below w.heap.size w wx) => road_x wx (hT.below k) (hX.below k))
  have R1 := hid (fun wx (k : Below w.heap.size w wx) => road_12 wx (hT.below k) (hX.below k))
  have NU := hid (fun wx => num_any10 t ys wx ht (by omega))
  have PA := hid (fun wx (k : Below w.heap.size w wx) => parse_any10 t ys z wx (hT.below k) (hX.below k) ht (by omega) (fun _ => hz))
  have RD := hid (fun wx (k : Below w.heap.size w wx) => road_any10 t ys wx (hT.below k) (hX.below k) ht (by omega))
  have ln : 0 < (Sc.num ys).2 → (Sc.num ys).1.ds.length ≤ ys.length + 1 := fun h => by
    obtain ⟨_, e⟩ := Sc.num_pos h
    rw [e]
    have h1 := Sc.nrm_len (Sc.lit ys (Sc.run Sc.bl ys 0)).neg ((Sc.lit ys (Sc.run Sc.bl ys 0)).ah ++ (Sc.lit ys (Sc.run Sc.bl ys 0)).bh) ((Sc.lit ys (Sc.run Sc.bl ys 0)).sc - ((Sc.lit ys (Sc.run Sc.bl ys 0)).bh.length : Int))
    rw [List.length_append] at h1
    have h2 := Sc.lit_len ys (Sc.run Sc.bl ys 0)
    exact Nat.le_trans h1 (by omega)
  have EL : Hid (0 < (Sc.num ys).2 → ∀ t' wx, Str t' (Sc.num ys).1.ds → Below w.heap.size w wx → Calls Tryz.prog 12 #[.agg #[.bool (Sc.num ys).1.neg, .string t', .int .i64 (Sc.num ys).1.e]] wx fun r w' => r = .returned (.tuple #[.int .u64 (Ie.sg (Sc.num ys).1.neg z), .int .i64 0]) ∧ Below wx.heap.size wx w') := fun h t' wx ht' k => by
    have n1 := (num_nml h (show ys.length ≤ 281474976710654 by omega)).1
    refine (exact_any10 (Sc.num ys).1.neg t' (Sc.num ys).1.ds (Sc.num ys).1.e z wx (hT.below k) (hX.below k) ht' (by have := ln h; omega) hz).mono ?_
    rintro r w' ⟨rfl, hB⟩
    unfold errOf
    rw [if_pos n1.1, if_pos n1.1]
    exact ⟨rfl, hB⟩
  have DL : Hid (0 < (Sc.num ys).2 → ∀ t' wx, Str t' (Sc.num ys).1.ds → Below w.heap.size w wx → Calls Tryz.prog 13 #[.agg #[.bool (Sc.num ys).1.neg, .string t', .int .i64 (Sc.num ys).1.e]] wx fun r w' => r = .returned (.tuple #[.int .u64 (Ie.sg (Sc.num ys).1.neg z), .int .i64 0]) ∧ Below wx.heap.size wx w') := fun h t' wx ht' k => by
    have n1 := (num_nml h (show ys.length ≤ 281474976710654 by omega)).1
    refine (double_any10 (Sc.num ys).1.neg t' (Sc.num ys).1.ds (Sc.num ys).1.e z wx (hT.below k) (hX.below k) ht' (by have := ln h; omega) hz).mono ?_
    rintro r w' ⟨rfl, hB⟩
    unfold errOf
    rw [if_pos n1.1, if_pos n1.1]
    exact ⟨rfl, hB⟩
  have TL : Hid (0 < (Sc.num ys).2 → ∀ t' wx, Str t' (Sc.num ys).1.ds → Below w.heap.size w wx → Calls Tryz.prog 14 #[.agg #[.bool (Sc.num ys).1.neg, .string t', .int .i64 (Sc.num ys).1.e]] wx fun r w' => TryY (Sc.num ys).1.neg (Sc.num ys).1.ds (Sc.num ys).1.e z wx r w') := fun h t' wx ht' k =>
    try_y10 (Sc.num ys).1.neg t' (Sc.num ys).1.ds (Sc.num ys).1.e z wx (hT.below k) (hX.below k) ht' (num_nml h (by omega)).2 (num_nml h (by omega)).1 hz
  have ub : ((Sc.num ys).2 : Int) ≤ 281474976710654 := by have := Sc.num_le ys; omega
  obtain ⟨P, hP1⟩ : ∃ P, (if (Sc.num ys).2 = 0 then 0 else Ie.sg (Sc.num ys).1.neg z) = P := ⟨_, rfl⟩
  unfold ParTold at PA
  rw [hP1] at PA
  have HPP := hid hP1
  clear ht hm hz hT hX hP1 ln
  go_enter Tryz.func4, Tryz.ntmps4
  go_wp2_with fail
  with_reducible refine (AW.out _ (Below.refl _ _)).mono ?_
  rintro r w1 ⟨rfl, b1⟩
  go_wp2_with fail
  with_reducible refine (R1.out _ b1).mono ?_
  rintro r w2 ⟨rfl, hB⟩
  have b2 := below_on b1 hB
  clear hB b1
  go_wp2_with fail
  with_reducible refine (R0.out _ b2).mono ?_
  rintro r w3 ⟨rfl, hB⟩
  have bb := below_on b2 hB
  clear hB b2 AW R0 R1
  go_wp2_with fail
  with_reducible refine (NU.out _).mono ?_
  rintro r w9 ⟨v9, rfl, ⟨t9, rfl, ht9⟩, hB⟩
  unfold decV
  have Z9 := hid (DX.new' (below_on bb hB) (Sc.num ys).1.neg t9 (Sc.num ys).1.e)
  have b9 := Z9.out.1
  have E9 := hid (fun wx k h => EL.out h t9 wx ht9 k)
  have D9 := hid (fun wx k h => DL.out h t9 wx ht9 k)
  have T9 := hid (fun wx k h => TL.out h t9 wx ht9 k)
  clear hB ht9 bb NU EL TL DL
  go_upto_region 4 with fail
  generalize hW : w9.alloc (.cells #[.bool (Sc.num ys).1.neg, .string t9, .int .i64 (Sc.num ys).1.e] 35) = W9 at *
  clear hW
  generalize w9.heap.size = g9 at *
  go_wp2_with fail
  with_reducible refine (PA.out _ b9).mono ?_
  rintro r w10 ⟨rfl, hB⟩
  have Z10 := hid (Z9.out.on hB)
  have b10 := Z10.out.1
  clear hB b9 Z9 PA
  by_cases hz : (Sc.num ys).2 = 0
  · obtain rfl : P = 0 := by rw [← HPP.out, if_pos hz]
    rw [hz]
    have HZ := hid hz
    clear E9 T9 D9 HPP hz
    go_wp2_with fail
    with_reducible refine (RD.out _ b10).mono ?_
    rintro r w11 ⟨hr, hB⟩
    have hr0 : r = .returned (.int .i64 0) := by
      rcases hr with ⟨_, h⟩ | ⟨h, _⟩
      · exact h
      · have := HZ.out; omega
    subst hr0
    have B11 := hid (below_on b10 hB)
    clear hB b10 hr HZ RD
    go_wp2_with fail
    go_ret
    exact ⟨rfl, B11.out⟩
  · have hp : 0 < (Sc.num ys).2 := by omega
    have E8 := hid (fun wx k => E9.out wx k hp)
    have D8 := hid (fun wx k => D9.out wx k hp)
    have T8 := hid (fun wx k => T9.out wx k hp)
    have hz2 : (((Sc.num ys).2 : Int) == 0) = false := by rw [beq_eq_false_iff_ne]; omega
    have HP := hid hp
    have PZ : Hid (P = Ie.sg (Sc.num ys).1.neg z) := by show _ = _; rw [← HPP.out, if_neg hz]
    clear E9 T9 D9 hz hp HPP
    go_wp2_with fail
    with_reducible refine (RD.out _ b10).mono ?_
    rintro r w11 ⟨hr, hB⟩
    obtain ⟨su, x, hx, rfl⟩ : ∃ su x, TellIs (Sc.num ys).1.ds (Sc.num ys).1.e x su ∧ r = .returned (.int .i64 (if su = true then 1 else 2)) := by
      rcases hr with ⟨h, _⟩ | ⟨_, h⟩
      · have := HP.out; omega
      · exact h
    have Z11 := hid (Z10.out.on hB)
    have b11 := Z11.out.1
    have HX := hid hx
    obtain ⟨c0, c1, c2⟩ := Z11.out.three
    obtain ⟨K, hK⟩ : ∃ K : Int, (if su = true then 1 else 2) = K := ⟨_, rfl⟩
    rw [hK]
    have HK := hid hK
    clear hB b10 hr RD hx Z10 hK
    go_wp2_with fail
    with_reducible refine (E8.out _ b11).mono ?_
    rw [← PZ.out]
    rintro r w12 ⟨rfl, hB⟩
    have Z12 := hid (Z11.out.on hB)
    have b12 := Z12.out.1
    clear hB b11 Z11 c0 c1 c2 E8
    obtain ⟨c0, c1, c2⟩ := Z12.out.three
    go_wp2_with fail
    with_reducible refine (D8.out _ b12).mono ?_
    rw [← PZ.out]
    rintro r w13 ⟨rfl, hB⟩
    have Z13 := hid (Z12.out.on hB)
    have b13 := Z13.out.1
    clear hB b12 Z12 c0 c1 c2 D8
    obtain ⟨c0, c1, c2⟩ := Z13.out.three
    go_wp2_with fail
    with_reducible refine (T8.out _ b13).mono ?_
    rintro r w14 ⟨su2, ⟨x2, hx2⟩, rfl, hB⟩
    obtain ⟨_, rfl⟩ := HX.out.one hx2
    have B14 := hid (below_on b13 hB)
    clear hB b13 Z13 c0 c1 c2 T8 hx2 HX
    have hk := HK.out
    clear HK
    cases su with
    | true =>
      obtain rfl : K = 1 := hk.symm
      clear hk
      rw [if_pos rfl, ← PZ.out]
      clear PZ
      go_wp2_with fail
      go_ret
      exact ⟨rfl, B14.out⟩
    | false =>
      obtain rfl : K = 2 := hk.symm
      clear hk
      rw [if_neg (by simp)]
      clear PZ
      go_wp2_with fail
      go_ret
      exact ⟨rfl, B14.out⟩
end Go.Proofs.YthefpclblejbgaaGreatDoor

namespace Go.Proofs.YthefpclblejbgaaGreatDoor
open Go Go.RowKit Go.Deep

theorem laid_tail9 {P : Program} {W : World} {x : String × DataW Unit} {rest : List (String × DataW Unit)} (h : laidMet P (x :: rest) W) : laidMet P rest W := by
  obtain ⟨ps, ⟨g, t, cs, fuel, p, q, _, _, _, _, hr, rfl⟩, hn, hc⟩ := h
  exact ⟨q, hr, (List.nodup_append.1 hn).2.1, fun b off hm => hc b off (List.mem_append_right _ hm)⟩

/-- An array of arrays of integers. -/
theorem cells_of_tab2 {H : Type} {enc : TypeId × Value → H} {P : Program} {w : World} {base : Nat} {sp : Nat → Bool} {held : Bool} {fuel : Nat} {t e f : TypeId} {n m : Nat} {k : IntKind} {cs : List Value} {zss : List (List Int)} {p : List MemPlace}
    (ht : P.underlying t = some (.array n e)) (he : P.underlying e = some (.array m f)) (hf : P.underlying f = some (.int k)) (hcf : P.cellsOf f = 1) (hce : P.cellsOf e = m)
    (h : DataW.trod enc P w base sp held fuel t cs = some (.agg (zss.map (Lib.tabData k)), p)) : ∀ i, i < n → ∀ zs, zss[i]? = some zs → (cs.drop (i * m)).take m = zs.map fun z => Value.int k z := by
  intro i hi zs hzs
  cases fuel with
  | zero => simp [DataW.trod] at h
  | succ fuel =>
    simp only [DataW.trod, ht, hce] at h
    split at h
    · obtain ⟨xs, hm, hx⟩ := Option.map_eq_some_iff.1 h
      have hxs : xs.map (·.1) = zss.map (Lib.tabData k) := by
        have := congrArg Prod.fst hx
        simpa using this
      obtain ⟨b, hb, hfb⟩ := Lib.mapM_at hm i i (by simp [hi])
      have h2 : (xs.map (·.1))[i]? = some b.1 := by simp [hb]
      rw [hxs, List.getElem?_map, hzs] at h2
      simp only [Option.map_some, Option.some.injEq] at h2
      obtain ⟨b1, b2⟩ := b
      simp only at h2
      subst h2
      exact Lib.cells_of_tab he hf hcf hce hfb
    · cases h

def tensZ : List (List Int) := (List.range 23).map fun j => [lo64 (10 ^ j), hi64 (10 ^ j)]
theorem tens_laid : (Rows.laid_abacus_quick_tens : DataW Unit) = .agg (tensZ.map (Lib.tabData .u64)) := by kernel_rfl
theorem tab_laid : (Rows.laid_math_bits_deBruijn64tab : DataW Unit) = Lib.tabData .u8 (List.map Int.ofNat Lib.deBruijn64tab) := by kernel_rfl

theorem tens_of {W : World} {rest : List (String × DataW Unit)} (h : laidMet Tryz.prog (("abacus/quick.tens", Rows.laid_abacus_quick_tens) :: rest) W) : Tens W := by
  rw [tens_laid] at h
  obtain ⟨ps, ⟨g', t', cs, fuel, p, q, hg', ht', hvar, hd, _, _⟩, _⟩ := h
  have hg : Tryz.prog.globalNamed "abacus/quick.tens" = some 0 := by kernel_rfl
  have hty : (Tryz.prog.globals[0]?).map (·.type) = some 104 := by kernel_rfl
  obtain rfl := Option.some.inj (hg.symm.trans hg')
  obtain rfl := Option.some.inj (hty.symm.trans ht')
  have hc := cells_of_tab2 (n := 23) (m := 2) (e := 103) (f := 27) Tryz.underlying104 Tryz.underlying103 Tryz.underlying27 (by kernel_rfl) (by kernel_rfl) hd
  intro j hj
  have hz : tensZ[j]? = some [lo64 (10 ^ j), hi64 (10 ^ j)] := by simp [tensZ, hj]
  have h1 := hc j hj _ hz
  have c0 : cs[j * 2]? = some (.int .u64 (lo64 (10 ^ j))) := by
    have := congrArg (·[0]?) h1
    simpa [List.getElem?_take, List.getElem?_drop] using this
  have c1 : cs[j * 2 + 1]? = some (.int .u64 (hi64 (10 ^ j))) := by
    have := congrArg (·[1]?) h1
    simpa [List.getElem?_take, List.getElem?_drop] using this
  have v0 := World.var?_cell hg hvar (j * 2)
  have v1 := World.var?_cell hg hvar (j * 2 + 1)
  refine ⟨?_, ?_⟩
  · rw [v0]; simpa using c0
  · rw [v1]; simpa using c1

theorem tab_of {W : World} {rest : List (String × DataW Unit)} (h : laidMet Tryz.prog (("math/bits.deBruijn64tab", Rows.laid_math_bits_deBruijn64tab) :: rest) W) : Tab W := by
  rw [tab_laid] at h
  have ht := Lib.tabIs_of_head (g := 4) (t := 164) (e := 5) (n := 64) (k := .u8) (zs := List.map Int.ofNat Lib.deBruijn64tab) (by kernel_rfl) (by kernel_rfl) Tryz.underlying164 Tryz.underlying5 (by kernel_rfl) (by kernel_rfl) h
  intro j hj
  have hl : (List.map Int.ofNat Lib.deBruijn64tab).length = Lib.deBruijn64tab.length := by simp
  rw [ht.cell (g := 4) (by kernel_rfl) j (by omega)]
  simp [List.getD, hj]

theorem tables9 {W : World} {b d : String × DataW Unit} (h : laidMet Tryz.prog [("math/bits.deBruijn64tab", Rows.laid_math_bits_deBruijn64tab), b, ("abacus/quick.tens", Rows.laid_abacus_quick_tens), d] W) : Tab W ∧ Tens W :=
  ⟨tab_of h, tens_of (laid_tail9 (laid_tail9 h))⟩
end Go.Proofs.YthefpclblejbgaaGreatDoor
