/-
  Texts put together: LSpan, VWalk1, VRead0.
-/
import Derived.Test.YtbmlkfkhmaahnaaGreatDoorRD
import Derived.Test.YtbmlkfkhmaahnaaGreatDoorRB
import Derived.Laws.ResultCell
namespace Go.Proofs.YtbmlkfkhmaahnaaGreatDoor
open Go Go.RowKit Go.Deep

/-- A span: a double, its bounds. -/
def spanV (P A B : Sc.D) (s1 s2 s3 : ByteArray) (c : Bool) : Value := .agg #[.bool P.neg, .string s1, .int .i64 P.e, .bool A.neg, .string s2, .int .i64 A.e, .bool B.neg, .string s3, .int .i64 B.e, .bool c]
def SpanIs (v : Value) (a : Int) : Prop := ∃ s1 s2 s3, v = spanV (Sh.dd (Sh.V a)) (Sh.dd (Sh.A a)) (Sh.dd (Sh.B a)) s1 s2 s3 (decide (a % 2 = 0)) ∧ Str s1 (Sh.dd (Sh.V a)).ds ∧ Str s2 (Sh.dd (Sh.A a)).ds ∧ Str s3 (Sh.dd (Sh.B a)).ds

theorem Sh.dnP {a : Int} (h0 : 0 < a) (h1 : a < 9218868437227405312) : Ie.dnd a = a - 1 := by
  have k : ∀ x : Int, x = a ∨ x = a + 9223372036854775808 → Ie.okd x = true := by
    intro x hx
    unfold Ie.okd
    apply decide_eq_true
    omega
  have n1 : Ie.ng a = a + 9223372036854775808 := by unfold Ie.ng; rw [if_pos (by omega)]
  unfold Ie.dnd
  rw [if_neg (by rw [k a (.inl rfl)]; decide), n1]
  unfold Ie.upd
  rw [if_neg (by rw [k _ (.inr rfl)]; decide), if_neg (by omega), if_neg (by omega), if_pos (by omega)]
  unfold Ie.ng
  rw [if_neg (by omega)]
  omega
theorem dec_open {k : Nat} {vs : Array Value} {D : Sc.D} (h : ∀ wx : World, Calls Tryz.prog k vs wx fun r w' => ∃ v, r = .returned v ∧ DecIs v D ∧ Below wx.heap.size wx w') :
    ∀ wx : World, Calls Tryz.prog k vs wx fun r w' => ∃ t, r = .returned (.agg #[.bool D.neg, .string t, .int .i64 D.e]) ∧ Hid (Str t D.ds) ∧ Below wx.heap.size wx w' := by
  intro wx
  refine (h wx).mono ?_
  rintro e w' ⟨v, rfl, ⟨t, hv, ht⟩, hB⟩
  exact ⟨t, by rw [hv]; rfl, ht, hB⟩
theorem set_far {w : World} {b c o i : Nat} {v : Value} (h : b ≠ c) : (w.setCell ⟨b, o, none⟩ v).cell? ⟨c, i, none⟩ = w.cell? ⟨c, i, none⟩ := by
  simp only [World.setCell, World.cell?, Array.getElem?_modify]
  rw [if_neg h]
theorem Sh.A0 : Sh.A 0 = 0 := by rw [Sh.A, if_pos rfl]
theorem Sh.AP {a : Int} (h : 0 < a) : Sh.A a = Sh.B (a - 1) := by rw [Sh.A, if_neg (by omega)]
theorem Sh.z00 : (0 : Int) * 2 ^ ((0 : Int) + 1075).toNat * Sh.T5 = 0 := by rw [Int.zero_mul, Int.zero_mul]

set_option maxRecDepth 100000 in
set_option maxHeartbeats 1000000 in
theorem zspan_any (d : Int) (w : World) (h0 : 0 ≤ d) (h1 : d < 18446744073709551616) (hf : d % 9223372036854775808 < 9218868437227405312) :
    Calls Tryz.prog 15 #[.int .u64 d] w fun r w' => ∃ v, r = .returned v ∧ SpanIs v (d % 9223372036854775808) ∧ Below w.heap.size w w' := by
  have AB := hid (fun wx : World => abs_any d wx h0 h1)
  obtain ⟨a, ha⟩ : ∃ a, d % 9223372036854775808 = a := ⟨_, rfl⟩
  have a0 : 0 ≤ a := by omega
  rw [ha] at hf AB ⊢
  have D := hid (fun wx : World => decode_any a wx a0 (by omega))
  have E0' := fun wx : World => zexact_any 0 0 wx (by omega) (by omega) (by omega) (by omega)
  rw [Sh.z00] at E0'
  have E0 := hid (dec_open E0')
  clear E0'
  have HI := hid (dec_open (fun wx : World => zhalfway_any a wx a0 hf))
  simp only [partsOf] at D
  have G : Hid (∀ s1 s2 s3, Str s1 (Sh.dd (Sh.V a)).ds → Str s2 (Sh.dd (Sh.A a)).ds → Str s3 (Sh.dd (Sh.B a)).ds → SpanIs (spanV (Sh.dd (Sh.V a)) (Sh.dd (Sh.A a)) (Sh.dd (Sh.B a)) s1 s2 s3 (decide (a % 2 = 0))) a) := fun s1 s2 s3 g1 g2 g3 => ⟨s1, s2, s3, rfl, g1, g2, g3⟩
  have cl : (a.tmod 2 == 0) = decide (a % 2 = 0) := by rw [Int.tmod_eq_emod_of_nonneg a0]; by_cases q : a % 2 = 0 <;> simp [q]
  have TZ : Hid (Ten (w.alloc (.cells #[.bool false, .string ⟨#[]⟩, .int .i64 0, .bool false, .string ⟨#[]⟩, .int .i64 0, .bool false, .string ⟨#[]⟩, .int .i64 0, .bool false] 41)) w.heap.size (.bool false) (.string ⟨#[]⟩) (.int .i64 0) (.bool false) (.string ⟨#[]⟩) (.int .i64 0) (.bool false) (.string ⟨#[]⟩) (.int .i64 0) (.bool false)) := RB.new w 41 _
  have ZB := hid (alloc_b w (.cells #[.bool false, .string ⟨#[]⟩, .int .i64 0, .bool false, .string ⟨#[]⟩, .int .i64 0, .bool false, .string ⟨#[]⟩, .int .i64 0, .bool false] 41))
  clear ha h0 h1
  rcases (show a = 0 ∨ 0 < a by omega) with hz | hp
  · subst hz
    obtain ⟨k1, k2, k3⟩ := Sh.cls0
    rw [k1, k2, k3] at D
    rw [Sh.A0, Sh.V_zero, show decide ((0 : Int) % 2 = 0) = true from rfl] at G
    have EV := E0
    clear k1 k2 k3 hf a0
    generalize decide (9223372036854775808 ≤ (0 : Int)) = neg at *
    generalize Sh.dd 0 = DA at *
    generalize Sh.dd (Sh.B 0) = DB at *
    go_enter Tryz.func15, Tryz.ntmps15
    go_wp2_with fail
    refine (AB.out _).mono ?_
    rintro e wz ⟨rfl, hz⟩
    subst hz
    go_wp2_with fail
    refine (D.out _).mono ?_
    rintro e w1 ⟨rfl, B1⟩
    have PC : Hid ((w1.alloc (.cells #[.bool neg, .int .i64 0, .int .u64 0, .int .i64 0] 61)).cell? ⟨w1.heap.size, 2, none⟩ = some (.int .u64 0) ∧ (w1.alloc (.cells #[.bool neg, .int .i64 0, .int .u64 0, .int .i64 0] 61)).cell? ⟨w1.heap.size, 3, none⟩ = some (.int .i64 0)) := ⟨(RB.new w1 61 _).cell 2 _ rfl, (RB.new w1 61 _).cell 3 _ rfl⟩
    have HS1 : Hid (w.heap.size < w1.heap.size) := Nat.lt_of_lt_of_le (RB.lt TZ.out) B1.size
    have PC0 : Hid ((w1.alloc (.cells #[.bool neg, .int .i64 0, .int .u64 0, .int .i64 0] 61)).cell? ⟨w1.heap.size, 1, none⟩ = some (.int .i64 0)) := (RB.new w1 61 _).cell 1 _ rfl
    have HB1 := hid (B1.trans ((alloc_b w1 (.cells #[.bool neg, .int .i64 0, .int .u64 0, .int .i64 0] 61)).mono B1.size))
    clear B1 D AB
    go_wp2_with fail
    refine (E0.out _).mono ?_
    rintro e w2 ⟨t2, rfl, HT2, B2⟩
    have HB2 := hid (HB1.out.trans (B2.mono HB1.out.size))
    have PC : Hid (w2.cell? ⟨w1.heap.size, 2, none⟩ = some (.int .u64 0) ∧ w2.cell? ⟨w1.heap.size, 3, none⟩ = some (.int .i64 0)) := ⟨(B2.cell (cell_lt PC.out.1)).trans PC.out.1, (B2.cell (cell_lt PC.out.2)).trans PC.out.2⟩
    have HBs : Hid (w.heap.size < w1.heap.size ∧ w1.heap.size < w2.heap.size) := ⟨HS1.out, Nat.lt_of_lt_of_le (RB.lt (RB.new w1 61 _)) B2.size⟩
    have PC1 : Hid (w2.cell? ⟨w1.heap.size, 1, none⟩ = some (.int .i64 0)) := (B2.cell (cell_lt PC0.out)).trans PC0.out
    clear B2 E0 HB1
    have hbL := hid (HB2.out.trans ((alloc_b w2 (.cells #[.bool DA.neg, .string t2, .int .i64 DA.e] 25)).mono HB2.out.size))
    obtain ⟨SS, KS, CS, BS, MS⟩ := state (fun w' => Ten w' w.heap.size (.bool false) (.string ⟨#[]⟩) (.int .i64 0) (.bool false) (.string ⟨#[]⟩) (.int .i64 0) (.bool false) (.string ⟨#[]⟩) (.int .i64 0) (.bool false) ∧ (w'.cell? ⟨w1.heap.size, 2, none⟩ = some (.int .u64 0) ∧ w'.cell? ⟨w1.heap.size, 3, none⟩ = some (.int .i64 0)) ∧ (w'.cell? ⟨w2.heap.size, 0, none⟩ = some (.bool DA.neg) ∧ w'.cell? ⟨w2.heap.size, 1, none⟩ = some (.string t2) ∧ w'.cell? ⟨w2.heap.size, 2, none⟩ = some (.int .i64 DA.e))) w
      (Stays.and (fun _ _ g hB => RB.below g hB (RB.lt g)) (((Stays.cell _ _).and (Stays.cell _ _)).and ((Stays.cell _ _).and ((Stays.cell _ _).and (Stays.cell _ _)))))
    have P3 := FR3.new w2 (.bool DA.neg) (.string t2) (.int .i64 DA.e)
    have aL := alloc_b w2 (.cells #[.bool DA.neg, .string t2, .int .i64 DA.e] 25)
    have S0 := hid (MS.out _ ⟨RB.below TZ.out hbL.out (RB.lt TZ.out), ⟨(aL.cell (cell_lt PC.out.1)).trans PC.out.1, (aL.cell (cell_lt PC.out.2)).trans PC.out.2⟩, P3.cells.1⟩ (ZB.out.trans (hbL.out.mono ZB.out.size)))
    have lt1 : w.heap.size ≠ w1.heap.size := by have := HBs.out; omega
    have lt2 : w.heap.size ≠ w2.heap.size := by have := HBs.out; omega
    obtain ⟨g, hg⟩ : ∃ g : World → Nat → Value, Hid (∀ w' i, g w' i = (w'.cell? ⟨w.heap.size, i, none⟩).getD (.bool false)) := ⟨_, fun _ _ => rfl⟩
    have TG : Hid (∀ (wx : World) (x0 x1 x2 x3 x4 x5 x6 x7 x8 x9 : Value), Ten wx w.heap.size x0 x1 x2 x3 x4 x5 x6 x7 x8 x9 → (wx.cell? ⟨w.heap.size, 0, none⟩ = some (g wx 0) ∧ wx.frozen? ⟨w.heap.size, 0, none⟩ = false) ∧ (wx.cell? ⟨w.heap.size, 1, none⟩ = some (g wx 1) ∧ wx.frozen? ⟨w.heap.size, 1, none⟩ = false) ∧ (wx.cell? ⟨w.heap.size, 2, none⟩ = some (g wx 2) ∧ wx.frozen? ⟨w.heap.size, 2, none⟩ = false) ∧ (wx.cell? ⟨w.heap.size, 3, none⟩ = some (g wx 3) ∧ wx.frozen? ⟨w.heap.size, 3, none⟩ = false) ∧ (wx.cell? ⟨w.heap.size, 4, none⟩ = some (g wx 4) ∧ wx.frozen? ⟨w.heap.size, 4, none⟩ = false) ∧ (wx.cell? ⟨w.heap.size, 5, none⟩ = some (g wx 5) ∧ wx.frozen? ⟨w.heap.size, 5, none⟩ = false) ∧ (wx.cell? ⟨w.heap.size, 6, none⟩ = some (g wx 6) ∧ wx.frozen? ⟨w.heap.size, 6, none⟩ = false) ∧ (wx.cell? ⟨w.heap.size, 7, none⟩ = some (g wx 7) ∧ wx.frozen? ⟨w.heap.size, 7, none⟩ = false) ∧ (wx.cell? ⟨w.heap.size, 8, none⟩ = some (g wx 8) ∧ wx.frozen? ⟨w.heap.size, 8, none⟩ = false) ∧ (wx.cell? ⟨w.heap.size, 9, none⟩ = some (g wx 9) ∧ wx.frozen? ⟨w.heap.size, 9, none⟩ = false)) := by
      intro wx x0 x1 x2 x3 x4 x5 x6 x7 x8 x9 h
      have key : ∀ i v, wx.cell? ⟨w.heap.size, i, none⟩ = some v → wx.cell? ⟨w.heap.size, i, none⟩ = some (g wx i) := fun i v q => by rw [hg.out, q]; rfl
      exact ⟨⟨key 0 _ (RB.cell h 0 _ rfl), RB.free h 0⟩, ⟨key 1 _ (RB.cell h 1 _ rfl), RB.free h 1⟩, ⟨key 2 _ (RB.cell h 2 _ rfl), RB.free h 2⟩, ⟨key 3 _ (RB.cell h 3 _ rfl), RB.free h 3⟩, ⟨key 4 _ (RB.cell h 4 _ rfl), RB.free h 4⟩, ⟨key 5 _ (RB.cell h 5 _ rfl), RB.free h 5⟩, ⟨key 6 _ (RB.cell h 6 _ rfl), RB.free h 6⟩, ⟨key 7 _ (RB.cell h 7 _ rfl), RB.free h 7⟩, ⟨key 8 _ (RB.cell h 8 _ rfl), RB.free h 8⟩, ⟨key 9 _ (RB.cell h 9 _ rfl), RB.free h 9⟩⟩
    have FT : Hid (∀ wx : World, SS wx → (((wx.cell? ⟨w1.heap.size, 2, none⟩ = some (.int .u64 0) ∧ wx.cell? ⟨w1.heap.size, 3, none⟩ = some (.int .i64 0)) ∧ (wx.cell? ⟨w2.heap.size, 0, none⟩ = some (.bool DA.neg) ∧ wx.cell? ⟨w2.heap.size, 1, none⟩ = some (.string t2) ∧ wx.cell? ⟨w2.heap.size, 2, none⟩ = some (.int .i64 DA.e))) ∧ (wx.cell? ⟨w.heap.size, 0, none⟩ = some (g wx 0) ∧ wx.frozen? ⟨w.heap.size, 0, none⟩ = false) ∧ (wx.cell? ⟨w.heap.size, 1, none⟩ = some (g wx 1) ∧ wx.frozen? ⟨w.heap.size, 1, none⟩ = false) ∧ (wx.cell? ⟨w.heap.size, 2, none⟩ = some (g wx 2) ∧ wx.frozen? ⟨w.heap.size, 2, none⟩ = false) ∧ (wx.cell? ⟨w.heap.size, 3, none⟩ = some (g wx 3) ∧ wx.frozen? ⟨w.heap.size, 3, none⟩ = false) ∧ (wx.cell? ⟨w.heap.size, 4, none⟩ = some (g wx 4) ∧ wx.frozen? ⟨w.heap.size, 4, none⟩ = false) ∧ (wx.cell? ⟨w.heap.size, 5, none⟩ = some (g wx 5) ∧ wx.frozen? ⟨w.heap.size, 5, none⟩ = false) ∧ (wx.cell? ⟨w.heap.size, 6, none⟩ = some (g wx 6) ∧ wx.frozen? ⟨w.heap.size, 6, none⟩ = false) ∧ (wx.cell? ⟨w.heap.size, 7, none⟩ = some (g wx 7) ∧ wx.frozen? ⟨w.heap.size, 7, none⟩ = false) ∧ (wx.cell? ⟨w.heap.size, 8, none⟩ = some (g wx 8) ∧ wx.frozen? ⟨w.heap.size, 8, none⟩ = false) ∧ (wx.cell? ⟨w.heap.size, 9, none⟩ = some (g wx 9) ∧ wx.frozen? ⟨w.heap.size, 9, none⟩ = false))) := fun wx h => ⟨(CS.out wx h).2, TG.out wx _ _ _ _ _ _ _ _ _ _ (CS.out wx h).1⟩
    have FS : Hid (∀ (wx : World) (x0 x1 x2 x3 x4 x5 x6 x7 x8 x9 : Value), SS wx → (((((((((((((wx.setCell ⟨w.heap.size, 0, none⟩ x0).setCell ⟨w.heap.size, 1, none⟩ x1).setCell ⟨w.heap.size, 2, none⟩ x2).setCell ⟨w.heap.size, 3, none⟩ x3).setCell ⟨w.heap.size, 4, none⟩ x4).setCell ⟨w.heap.size, 5, none⟩ x5).setCell ⟨w.heap.size, 6, none⟩ x6).setCell ⟨w.heap.size, 7, none⟩ x7).setCell ⟨w.heap.size, 8, none⟩ x8).setCell ⟨w.heap.size, 9, none⟩ x9).cell? ⟨w1.heap.size, 2, none⟩ = some (.int .u64 0) ∧ ((((((((((wx.setCell ⟨w.heap.size, 0, none⟩ x0).setCell ⟨w.heap.size, 1, none⟩ x1).setCell ⟨w.heap.size, 2, none⟩ x2).setCell ⟨w.heap.size, 3, none⟩ x3).setCell ⟨w.heap.size, 4, none⟩ x4).setCell ⟨w.heap.size, 5, none⟩ x5).setCell ⟨w.heap.size, 6, none⟩ x6).setCell ⟨w.heap.size, 7, none⟩ x7).setCell ⟨w.heap.size, 8, none⟩ x8).setCell ⟨w.heap.size, 9, none⟩ x9).cell? ⟨w1.heap.size, 3, none⟩ = some (.int .i64 0)) ∧ (((((((((((wx.setCell ⟨w.heap.size, 0, none⟩ x0).setCell ⟨w.heap.size, 1, none⟩ x1).setCell ⟨w.heap.size, 2, none⟩ x2).setCell ⟨w.heap.size, 3, none⟩ x3).setCell ⟨w.heap.size, 4, none⟩ x4).setCell ⟨w.heap.size, 5, none⟩ x5).setCell ⟨w.heap.size, 6, none⟩ x6).setCell ⟨w.heap.size, 7, none⟩ x7).setCell ⟨w.heap.size, 8, none⟩ x8).setCell ⟨w.heap.size, 9, none⟩ x9).cell? ⟨w2.heap.size, 0, none⟩ = some (.bool DA.neg) ∧ ((((((((((wx.setCell ⟨w.heap.size, 0, none⟩ x0).setCell ⟨w.heap.size, 1, none⟩ x1).setCell ⟨w.heap.size, 2, none⟩ x2).setCell ⟨w.heap.size, 3, none⟩ x3).setCell ⟨w.heap.size, 4, none⟩ x4).setCell ⟨w.heap.size, 5, none⟩ x5).setCell ⟨w.heap.size, 6, none⟩ x6).setCell ⟨w.heap.size, 7, none⟩ x7).setCell ⟨w.heap.size, 8, none⟩ x8).setCell ⟨w.heap.size, 9, none⟩ x9).cell? ⟨w2.heap.size, 1, none⟩ = some (.string t2) ∧ ((((((((((wx.setCell ⟨w.heap.size, 0, none⟩ x0).setCell ⟨w.heap.size, 1, none⟩ x1).setCell ⟨w.heap.size, 2, none⟩ x2).setCell ⟨w.heap.size, 3, none⟩ x3).setCell ⟨w.heap.size, 4, none⟩ x4).setCell ⟨w.heap.size, 5, none⟩ x5).setCell ⟨w.heap.size, 6, none⟩ x6).setCell ⟨w.heap.size, 7, none⟩ x7).setCell ⟨w.heap.size, 8, none⟩ x8).setCell ⟨w.heap.size, 9, none⟩ x9).cell? ⟨w2.heap.size, 2, none⟩ = some (.int .i64 DA.e))) ∧ (((((((((((wx.setCell ⟨w.heap.size, 0, none⟩ x0).setCell ⟨w.heap.size, 1, none⟩ x1).setCell ⟨w.heap.size, 2, none⟩ x2).setCell ⟨w.heap.size, 3, none⟩ x3).setCell ⟨w.heap.size, 4, none⟩ x4).setCell ⟨w.heap.size, 5, none⟩ x5).setCell ⟨w.heap.size, 6, none⟩ x6).setCell ⟨w.heap.size, 7, none⟩ x7).setCell ⟨w.heap.size, 8, none⟩ x8).setCell ⟨w.heap.size, 9, none⟩ x9).cell? ⟨w.heap.size, 0, none⟩ = some (g ((((((((((wx.setCell ⟨w.heap.size, 0, none⟩ x0).setCell ⟨w.heap.size, 1, none⟩ x1).setCell ⟨w.heap.size, 2, none⟩ x2).setCell ⟨w.heap.size, 3, none⟩ x3).setCell ⟨w.heap.size, 4, none⟩ x4).setCell ⟨w.heap.size, 5, none⟩ x5).setCell ⟨w.heap.size, 6, none⟩ x6).setCell ⟨w.heap.size, 7, none⟩ x7).setCell ⟨w.heap.size, 8, none⟩ x8).setCell ⟨w.heap.size, 9, none⟩ x9) 0) ∧ ((((((((((wx.setCell ⟨w.heap.size, 0, none⟩ x0).setCell ⟨w.heap.size, 1, none⟩ x1).setCell ⟨w.heap.size, 2, none⟩ x2).setCell ⟨w.heap.size, 3, none⟩ x3).setCell ⟨w.heap.size, 4, none⟩ x4).setCell ⟨w.heap.size, 5, none⟩ x5).setCell ⟨w.heap.size, 6, none⟩ x6).setCell ⟨w.heap.size, 7, none⟩ x7).setCell ⟨w.heap.size, 8, none⟩ x8).setCell ⟨w.heap.size, 9, none⟩ x9).frozen? ⟨w.heap.size, 0, none⟩ = false) ∧ (((((((((((wx.setCell ⟨w.heap.size, 0, none⟩ x0).setCell ⟨w.heap.size, 1, none⟩ x1).setCell ⟨w.heap.size, 2, none⟩ x2).setCell ⟨w.heap.size, 3, none⟩ x3).setCell ⟨w.heap.size, 4, none⟩ x4).setCell ⟨w.heap.size, 5, none⟩ x5).setCell ⟨w.heap.size, 6, none⟩ x6).setCell ⟨w.heap.size, 7, none⟩ x7).setCell ⟨w.heap.size, 8, none⟩ x8).setCell ⟨w.heap.size, 9, none⟩ x9).cell? ⟨w.heap.size, 1, none⟩ = some (g ((((((((((wx.setCell ⟨w.heap.size, 0, none⟩ x0).setCell ⟨w.heap.size, 1, none⟩ x1).setCell ⟨w.heap.size, 2, none⟩ x2).setCell ⟨w.heap.size, 3, none⟩ x3).setCell ⟨w.heap.size, 4, none⟩ x4).setCell ⟨w.heap.size, 5, none⟩ x5).setCell ⟨w.heap.size, 6, none⟩ x6).setCell ⟨w.heap.size, 7, none⟩ x7).setCell ⟨w.heap.size, 8, none⟩ x8).setCell ⟨w.heap.size, 9, none⟩ x9) 1) ∧ ((((((((((wx.setCell ⟨w.heap.size, 0, none⟩ x0).setCell ⟨w.heap.size, 1, none⟩ x1).setCell ⟨w.heap.size, 2, none⟩ x2).setCell ⟨w.heap.size, 3, none⟩ x3).setCell ⟨w.heap.size, 4, none⟩ x4).setCell ⟨w.heap.size, 5, none⟩ x5).setCell ⟨w.heap.size, 6, none⟩ x6).setCell ⟨w.heap.size, 7, none⟩ x7).setCell ⟨w.heap.size, 8, none⟩ x8).setCell ⟨w.heap.size, 9, none⟩ x9).frozen? ⟨w.heap.size, 1, none⟩ = false) ∧ (((((((((((wx.setCell ⟨w.heap.size, 0, none⟩ x0).setCell ⟨w.heap.size, 1, none⟩ x1).setCell ⟨w.heap.size, 2, none⟩ x2).setCell ⟨w.heap.size, 3, none⟩ x3).setCell ⟨w.heap.size, 4, none⟩ x4).setCell ⟨w.heap.size, 5, none⟩ x5).setCell ⟨w.heap.size, 6, none⟩ x6).setCell ⟨w.heap.size, 7, none⟩ x7).setCell ⟨w.heap.size, 8, none⟩ x8).setCell ⟨w.heap.size, 9, none⟩ x9).cell? ⟨w.heap.size, 2, none⟩ = some (g ((((((((((wx.setCell ⟨w.heap.size, 0, none⟩ x0).setCell ⟨w.heap.size, 1, none⟩ x1).setCell ⟨w.heap.size, 2, none⟩ x2).setCell ⟨w.heap.size, 3, none⟩ x3).setCell ⟨w.heap.size, 4, none⟩ x4).setCell ⟨w.heap.size, 5, none⟩ x5).setCell ⟨w.heap.size, 6, none⟩ x6).setCell ⟨w.heap.size, 7, none⟩ x7).setCell ⟨w.heap.size, 8, none⟩ x8).setCell ⟨w.heap.size, 9, none⟩ x9) 2) ∧ ((((((((((wx.setCell ⟨w.heap.size, 0, none⟩ x0).setCell ⟨w.heap.size, 1, none⟩ x1).setCell ⟨w.heap.size, 2, none⟩ x2).setCell ⟨w.heap.size, 3, none⟩ x3).setCell ⟨w.heap.size, 4, none⟩ x4).setCell ⟨w.heap.size, 5, none⟩ x5).setCell ⟨w.heap.size, 6, none⟩ x6).setCell ⟨w.heap.size, 7, none⟩ x7).setCell ⟨w.heap.size, 8, none⟩ x8).setCell ⟨w.heap.size, 9, none⟩ x9).frozen? ⟨w.heap.size, 2, none⟩ = false) ∧ (((((((((((wx.setCell ⟨w.heap.size, 0, none⟩ x0).setCell ⟨w.heap.size, 1, none⟩ x1).setCell ⟨w.heap.size, 2, none⟩ x2).setCell ⟨w.heap.size, 3, none⟩ x3).setCell ⟨w.heap.size, 4, none⟩ x4).setCell ⟨w.heap.size, 5, none⟩ x5).setCell ⟨w.heap.size, 6, none⟩ x6).setCell ⟨w.heap.size, 7, none⟩ x7).setCell ⟨w.heap.size, 8, none⟩ x8).setCell ⟨w.heap.size, 9, none⟩ x9).cell? ⟨w.heap.size, 3, none⟩ = some (g ((((((((((wx.setCell ⟨w.heap.size, 0, none⟩ x0).setCell ⟨w.heap.size, 1, none⟩ x1).setCell ⟨w.heap.size, 2, none⟩ x2).setCell ⟨w.heap.size, 3, none⟩ x3).setCell ⟨w.heap.size, 4, none⟩ x4).setCell ⟨w.heap.size, 5, none⟩ x5).setCell ⟨w.heap.size, 6, none⟩ x6).setCell ⟨w.heap.size, 7, none⟩ x7).setCell ⟨w.heap.size, 8, none⟩ x8).setCell ⟨w.heap.size, 9, none⟩ x9) 3) ∧ ((((((((((wx.setCell ⟨w.heap.size, 0, none⟩ x0).setCell ⟨w.heap.size, 1, none⟩ x1).setCell ⟨w.heap.size, 2, none⟩ x2).setCell ⟨w.heap.size, 3, none⟩ x3).setCell ⟨w.heap.size, 4, none⟩ x4).setCell ⟨w.heap.size, 5, none⟩ x5).setCell ⟨w.heap.size, 6, none⟩ x6).setCell ⟨w.heap.size, 7, none⟩ x7).setCell ⟨w.heap.size, 8, none⟩ x8).setCell ⟨w.heap.size, 9, none⟩ x9).frozen? ⟨w.heap.size, 3, none⟩ = false) ∧ (((((((((((wx.setCell ⟨w.heap.size, 0, none⟩ x0).setCell ⟨w.heap.size, 1, none⟩ x1).setCell ⟨w.heap.size, 2, none⟩ x2).setCell ⟨w.heap.size, 3, none⟩ x3).setCell ⟨w.heap.size, 4, none⟩ x4).setCell ⟨w.heap.size, 5, none⟩ x5).setCell ⟨w.heap.size, 6, none⟩ x6).setCell ⟨w.heap.size, 7, none⟩ x7).setCell ⟨w.heap.size, 8, none⟩ x8).setCell ⟨w.heap.size, 9, none⟩ x9).cell? ⟨w.heap.size, 4, none⟩ = some (g ((((((((((wx.setCell ⟨w.heap.size, 0, none⟩ x0).setCell ⟨w.heap.size, 1, none⟩ x1).setCell ⟨w.heap.size, 2, none⟩ x2).setCell ⟨w.heap.size, 3, none⟩ x3).setCell ⟨w.heap.size, 4, none⟩ x4).setCell ⟨w.heap.size, 5, none⟩ x5).setCell ⟨w.heap.size, 6, none⟩ x6).setCell ⟨w.heap.size, 7, none⟩ x7).setCell ⟨w.heap.size, 8, none⟩ x8).setCell ⟨w.heap.size, 9, none⟩ x9) 4) ∧ ((((((((((wx.setCell ⟨w.heap.size, 0, none⟩ x0).setCell ⟨w.heap.size, 1, none⟩ x1).setCell ⟨w.heap.size, 2, none⟩ x2).setCell ⟨w.heap.size, 3, none⟩ x3).setCell ⟨w.heap.size, 4, none⟩ x4).setCell ⟨w.heap.size, 5, none⟩ x5).setCell ⟨w.heap.size, 6, none⟩ x6).setCell ⟨w.heap.size, 7, none⟩ x7).setCell ⟨w.heap.size, 8, none⟩ x8).setCell ⟨w.heap.size, 9, none⟩ x9).frozen? ⟨w.heap.size, 4, none⟩ = false) ∧ (((((((((((wx.setCell ⟨w.heap.size, 0, none⟩ x0).setCell ⟨w.heap.size, 1, none⟩ x1).setCell ⟨w.heap.size, 2, none⟩ x2).setCell ⟨w.heap.size, 3, none⟩ x3).setCell ⟨w.heap.size, 4, none⟩ x4).setCell ⟨w.heap.size, 5, none⟩ x5).setCell ⟨w.heap.size, 6, none⟩ x6).setCell ⟨w.heap.size, 7, none⟩ x7).setCell ⟨w.heap.size, 8, none⟩ x8).setCell ⟨w.heap.size, 9, none⟩ x9).cell? ⟨w.heap.size, 5, none⟩ = some (g ((((((((((wx.setCell ⟨w.heap.size, 0, none⟩ x0).setCell ⟨w.heap.size, 1, none⟩ x1).setCell ⟨w.heap.size, 2, none⟩ x2).setCell ⟨w.heap.size, 3, none⟩ x3).setCell ⟨w.heap.size, 4, none⟩ x4).setCell ⟨w.heap.size, 5, none⟩ x5).setCell ⟨w.heap.size, 6, none⟩ x6).setCell ⟨w.heap.size, 7, none⟩ x7).setCell ⟨w.heap.size, 8, none⟩ x8).setCell ⟨w.heap.size, 9, none⟩ x9) 5) ∧ ((((((((((wx.setCell ⟨w.heap.size, 0, none⟩ x0).setCell ⟨w.heap.size, 1, none⟩ x1).setCell ⟨w.heap.size, 2, none⟩ x2).setCell ⟨w.heap.size, 3, none⟩ x3).setCell ⟨w.heap.size, 4, none⟩ x4).setCell ⟨w.heap.size, 5, none⟩ x5).setCell ⟨w.heap.size, 6, none⟩ x6).setCell ⟨w.heap.size, 7, none⟩ x7).setCell ⟨w.heap.size, 8, none⟩ x8).setCell ⟨w.heap.size, 9, none⟩ x9).frozen? ⟨w.heap.size, 5, none⟩ = false) ∧ (((((((((((wx.setCell ⟨w.heap.size, 0, none⟩ x0).setCell ⟨w.heap.size, 1, none⟩ x1).setCell ⟨w.heap.size, 2, none⟩ x2).setCell ⟨w.heap.size, 3, none⟩ x3).setCell ⟨w.heap.size, 4, none⟩ x4).setCell ⟨w.heap.size, 5, none⟩ x5).setCell ⟨w.heap.size, 6, none⟩ x6).setCell ⟨w.heap.size, 7, none⟩ x7).setCell ⟨w.heap.size, 8, none⟩ x8).setCell ⟨w.heap.size, 9, none⟩ x9).cell? ⟨w.heap.size, 6, none⟩ = some (g ((((((((((wx.setCell ⟨w.heap.size, 0, none⟩ x0).setCell ⟨w.heap.size, 1, none⟩ x1).setCell ⟨w.heap.size, 2, none⟩ x2).setCell ⟨w.heap.size, 3, none⟩ x3).setCell ⟨w.heap.size, 4, none⟩ x4).setCell ⟨w.heap.size, 5, none⟩ x5).setCell ⟨w.heap.size, 6, none⟩ x6).setCell ⟨w.heap.size, 7, none⟩ x7).setCell ⟨w.heap.size, 8, none⟩ x8).setCell ⟨w.heap.size, 9, none⟩ x9) 6) ∧ ((((((((((wx.setCell ⟨w.heap.size, 0, none⟩ x0).setCell ⟨w.heap.size, 1, none⟩ x1).setCell ⟨w.heap.size, 2, none⟩ x2).setCell ⟨w.heap.size, 3, none⟩ x3).setCell ⟨w.heap.size, 4, none⟩ x4).setCell ⟨w.heap.size, 5, none⟩ x5).setCell ⟨w.heap.size, 6, none⟩ x6).setCell ⟨w.heap.size, 7, none⟩ x7).setCell ⟨w.heap.size, 8, none⟩ x8).setCell ⟨w.heap.size, 9, none⟩ x9).frozen? ⟨w.heap.size, 6, none⟩ = false) ∧ (((((((((((wx.setCell ⟨w.heap.size, 0, none⟩ x0).setCell ⟨w.heap.size, 1, none⟩ x1).setCell ⟨w.heap.size, 2, none⟩ x2).setCell ⟨w.heap.size, 3, none⟩ x3).setCell ⟨w.heap.size, 4, none⟩ x4).setCell ⟨w.heap.size, 5, none⟩ x5).setCell ⟨w.heap.size, 6, none⟩ x6).setCell ⟨w.heap.size, 7, none⟩ x7).setCell ⟨w.heap.size, 8, none⟩ x8).setCell ⟨w.heap.size, 9, none⟩ x9).cell? ⟨w.heap.size, 7, none⟩ = some (g ((((((((((wx.setCell ⟨w.heap.size, 0, none⟩ x0).setCell ⟨w.heap.size, 1, none⟩ x1).setCell ⟨w.heap.size, 2, none⟩ x2).setCell ⟨w.heap.size, 3, none⟩ x3).setCell ⟨w.heap.size, 4, none⟩ x4).setCell ⟨w.heap.size, 5, none⟩ x5).setCell ⟨w.heap.size, 6, none⟩ x6).setCell ⟨w.heap.size, 7, none⟩ x7).setCell ⟨w.heap.size, 8, none⟩ x8).setCell ⟨w.heap.size, 9, none⟩ x9) 7) ∧ ((((((((((wx.setCell ⟨w.heap.size, 0, none⟩ x0).setCell ⟨w.heap.size, 1, none⟩ x1).setCell ⟨w.heap.size, 2, none⟩ x2).setCell ⟨w.heap.size, 3, none⟩ x3).setCell ⟨w.heap.size, 4, none⟩ x4).setCell ⟨w.heap.size, 5, none⟩ x5).setCell ⟨w.heap.size, 6, none⟩ x6).setCell ⟨w.heap.size, 7, none⟩ x7).setCell ⟨w.heap.size, 8, none⟩ x8).setCell ⟨w.heap.size, 9, none⟩ x9).frozen? ⟨w.heap.size, 7, none⟩ = false) ∧ (((((((((((wx.setCell ⟨w.heap.size, 0, none⟩ x0).setCell ⟨w.heap.size, 1, none⟩ x1).setCell ⟨w.heap.size, 2, none⟩ x2).setCell ⟨w.heap.size, 3, none⟩ x3).setCell ⟨w.heap.size, 4, none⟩ x4).setCell ⟨w.heap.size, 5, none⟩ x5).setCell ⟨w.heap.size, 6, none⟩ x6).setCell ⟨w.heap.size, 7, none⟩ x7).setCell ⟨w.heap.size, 8, none⟩ x8).setCell ⟨w.heap.size, 9, none⟩ x9).cell? ⟨w.heap.size, 8, none⟩ = some (g ((((((((((wx.setCell ⟨w.heap.size, 0, none⟩ x0).setCell ⟨w.heap.size, 1, none⟩ x1).setCell ⟨w.heap.size, 2, none⟩ x2).setCell ⟨w.heap.size, 3, none⟩ x3).setCell ⟨w.heap.size, 4, none⟩ x4).setCell ⟨w.heap.size, 5, none⟩ x5).setCell ⟨w.heap.size, 6, none⟩ x6).setCell ⟨w.heap.size, 7, none⟩ x7).setCell ⟨w.heap.size, 8, none⟩ x8).setCell ⟨w.heap.size, 9, none⟩ x9) 8) ∧ ((((((((((wx.setCell ⟨w.heap.size, 0, none⟩ x0).setCell ⟨w.heap.size, 1, none⟩ x1).setCell ⟨w.heap.size, 2, none⟩ x2).setCell ⟨w.heap.size, 3, none⟩ x3).setCell ⟨w.heap.size, 4, none⟩ x4).setCell ⟨w.heap.size, 5, none⟩ x5).setCell ⟨w.heap.size, 6, none⟩ x6).setCell ⟨w.heap.size, 7, none⟩ x7).setCell ⟨w.heap.size, 8, none⟩ x8).setCell ⟨w.heap.size, 9, none⟩ x9).frozen? ⟨w.heap.size, 8, none⟩ = false) ∧ (((((((((((wx.setCell ⟨w.heap.size, 0, none⟩ x0).setCell ⟨w.heap.size, 1, none⟩ x1).setCell ⟨w.heap.size, 2, none⟩ x2).setCell ⟨w.heap.size, 3, none⟩ x3).setCell ⟨w.heap.size, 4, none⟩ x4).setCell ⟨w.heap.size, 5, none⟩ x5).setCell ⟨w.heap.size, 6, none⟩ x6).setCell ⟨w.heap.size, 7, none⟩ x7).setCell ⟨w.heap.size, 8, none⟩ x8).setCell ⟨w.heap.size, 9, none⟩ x9).cell? ⟨w.heap.size, 9, none⟩ = some (g ((((((((((wx.setCell ⟨w.heap.size, 0, none⟩ x0).setCell ⟨w.heap.size, 1, none⟩ x1).setCell ⟨w.heap.size, 2, none⟩ x2).setCell ⟨w.heap.size, 3, none⟩ x3).setCell ⟨w.heap.size, 4, none⟩ x4).setCell ⟨w.heap.size, 5, none⟩ x5).setCell ⟨w.heap.size, 6, none⟩ x6).setCell ⟨w.heap.size, 7, none⟩ x7).setCell ⟨w.heap.size, 8, none⟩ x8).setCell ⟨w.heap.size, 9, none⟩ x9) 9) ∧ ((((((((((wx.setCell ⟨w.heap.size, 0, none⟩ x0).setCell ⟨w.heap.size, 1, none⟩ x1).setCell ⟨w.heap.size, 2, none⟩ x2).setCell ⟨w.heap.size, 3, none⟩ x3).setCell ⟨w.heap.size, 4, none⟩ x4).setCell ⟨w.heap.size, 5, none⟩ x5).setCell ⟨w.heap.size, 6, none⟩ x6).setCell ⟨w.heap.size, 7, none⟩ x7).setCell ⟨w.heap.size, 8, none⟩ x8).setCell ⟨w.heap.size, 9, none⟩ x9).frozen? ⟨w.heap.size, 9, none⟩ = false))) := fun wx x0 x1 x2 x3 x4 x5 x6 x7 x8 x9 h => by
      obtain ⟨⟨p2, p3⟩, q0, q1, q2⟩ := (CS.out wx h).2
      refine ⟨⟨⟨?_, ?_⟩, ?_, ?_, ?_⟩, TG.out _ _ _ _ _ _ _ _ _ _ _ (Ten.put (CS.out wx h).1 x0 x1 x2 x3 x4 x5 x6 x7 x8 x9)⟩
      · simp only [set_far lt1]; exact p2
      · simp only [set_far lt1]; exact p3
      · simp only [set_far lt2]; exact q0
      · simp only [set_far lt2]; exact q1
      · simp only [set_far lt2]; exact q2
    have TT : Hid (∀ wx : World, SS wx → Ten wx w.heap.size (.bool false) (.string ⟨#[]⟩) (.int .i64 0) (.bool false) (.string ⟨#[]⟩) (.int .i64 0) (.bool false) (.string ⟨#[]⟩) (.int .i64 0) (.bool false)) := fun wx h => (CS.out wx h).1
    have pc1 := (aL.cell (cell_lt PC1.out)).trans PC1.out
    clear P3 aL hbL HB2 ZB MS TZ PC CS lt1 lt2 TG hg
    go_upto_region 6 with fail
    generalize w2.alloc (.cells #[.bool DA.neg, .string t2, .int .i64 DA.e] 25) = wL at *
    have T0 := hid (KS.out _ _ S0.out (drew_nil _))
    clear S0
    go_region_held3 (fun w' => ((w'.cell? ⟨w1.heap.size, 2, none⟩ = some (.int .u64 0) ∧ w'.cell? ⟨w1.heap.size, 3, none⟩ = some (.int .i64 0)) ∧ (w'.cell? ⟨w2.heap.size, 0, none⟩ = some (.bool DA.neg) ∧ w'.cell? ⟨w2.heap.size, 1, none⟩ = some (.string t2) ∧ w'.cell? ⟨w2.heap.size, 2, none⟩ = some (.int .i64 DA.e))) ∧ (w'.cell? ⟨w.heap.size, 0, none⟩ = some (g w' 0) ∧ w'.frozen? ⟨w.heap.size, 0, none⟩ = false) ∧ (w'.cell? ⟨w.heap.size, 1, none⟩ = some (g w' 1) ∧ w'.frozen? ⟨w.heap.size, 1, none⟩ = false) ∧ (w'.cell? ⟨w.heap.size, 2, none⟩ = some (g w' 2) ∧ w'.frozen? ⟨w.heap.size, 2, none⟩ = false) ∧ (w'.cell? ⟨w.heap.size, 3, none⟩ = some (g w' 3) ∧ w'.frozen? ⟨w.heap.size, 3, none⟩ = false) ∧ (w'.cell? ⟨w.heap.size, 4, none⟩ = some (g w' 4) ∧ w'.frozen? ⟨w.heap.size, 4, none⟩ = false) ∧ (w'.cell? ⟨w.heap.size, 5, none⟩ = some (g w' 5) ∧ w'.frozen? ⟨w.heap.size, 5, none⟩ = false) ∧ (w'.cell? ⟨w.heap.size, 6, none⟩ = some (g w' 6) ∧ w'.frozen? ⟨w.heap.size, 6, none⟩ = false) ∧ (w'.cell? ⟨w.heap.size, 7, none⟩ = some (g w' 7) ∧ w'.frozen? ⟨w.heap.size, 7, none⟩ = false) ∧ (w'.cell? ⟨w.heap.size, 8, none⟩ = some (g w' 8) ∧ w'.frozen? ⟨w.heap.size, 8, none⟩ = false) ∧ (w'.cell? ⟨w.heap.size, 9, none⟩ = some (g w' 9) ∧ w'.frozen? ⟨w.heap.size, 9, none⟩ = false)) (first | (with_reducible exact FS.out _ _ _ _ _ _ _ _ _ _ _ T2.out) | (with_reducible exact FT.out _ T2.out) | (with_reducible exact FT.out _ T1.out) | (with_reducible exact FT.out _ T0.out)) (first
      | (go_at_call 30; with_reducible refine (EV.out _).mono ?_; rintro e w5 ⟨t1, rfl, HT1, hB⟩; (first | (have T2 := hid (KS.out _ _ T1.out hB); clear hB) | (have T1 := hid (KS.out _ _ T0.out hB); clear hB)))
      | (go_at_call 31; with_reducible refine (HI.out _).mono ?_; rintro e w5 ⟨t3, rfl, HT3, hB⟩; (first | (have T2 := hid (KS.out _ _ T1.out hB); clear hB) | (have T1 := hid (KS.out _ _ T0.out hB); clear hB))))
    have KV := hid (G.out t1 t2 t3 HT1.out HT2.out HT3.out)
    have KB := hid (BS.out _ T2.out)
    have KT := hid (TT.out _ T2.out)
    clear HT1 HT2 HT3 FT FS TT T0 T1 T2 KS BS G HI EV
    go_wp2_with fail
    (try simp only [Exit.inBlock, Exit.then])
    refine bodyPost_ret (results_cell_row rfl _ _ w.heap.size 41 _ (0, 0) _ rfl (KT.out.put _ _ _ _ _ _ _ _ _ _) Tryz.underlying41 rfl (by kernel_rfl)) rfl ?_
    exact ⟨_, rfl, KV.out, set10_below KB.out (Nat.le_refl _)⟩
  · obtain ⟨k2, k3⟩ := Ie.dec_fin2 a hp hf
    obtain ⟨k4, k5⟩ := Sh.clsP hp hf
    have xb := Sh.ex_le hf
    have mb := Ie.man_nn a a0
    rw [k2, k3] at D
    have EV' := fun wx : World => zexact_any (Ie.man a) ((Ie.ex a : Int) - 1074) wx mb.1 (by omega) (by omega) (by omega)
    rw [Sh.zV] at EV'
    have EV := hid (dec_open EV')
    have DN := hid (fun wx : World => down_any a wx a0 (by omega))
    rw [Sh.dnP hp hf] at DN
    have HL' := fun wx : World => zhalfway_any (a - 1) wx (by omega) (by omega)
    rw [← Sh.AP hp] at HL'
    have HL := hid (dec_open HL')
    clear EV' HL' k2 k3 xb mb k4
    generalize decide (9223372036854775808 ≤ a) = neg at *
    generalize decide (a % 2 = 0) = cb at *
    generalize Sh.dd 0 = D0 at *
    generalize Sh.dd (Sh.V a) = DV at *
    generalize Sh.dd (Sh.A a) = DA at *
    generalize Sh.dd (Sh.B a) = DB at *
    generalize Ie.cls a = c at *
    generalize Ie.man a = m at *
    generalize (Ie.ex a : Int) - 1074 = x at *
    go_enter Tryz.func15, Tryz.ntmps15
    go_wp2_with fail
    refine (AB.out _).mono ?_
    rintro e wz ⟨rfl, hz⟩
    subst hz
    go_wp2_with fail
    refine (D.out _).mono ?_
    rintro e w1 ⟨rfl, B1⟩
    have PC : Hid ((w1.alloc (.cells #[.bool neg, .int .i64 c, .int .u64 m, .int .i64 x] 61)).cell? ⟨w1.heap.size, 2, none⟩ = some (.int .u64 m) ∧ (w1.alloc (.cells #[.bool neg, .int .i64 c, .int .u64 m, .int .i64 x] 61)).cell? ⟨w1.heap.size, 3, none⟩ = some (.int .i64 x)) := ⟨(RB.new w1 61 _).cell 2 _ rfl, (RB.new w1 61 _).cell 3 _ rfl⟩
    have HS1 : Hid (w.heap.size < w1.heap.size) := Nat.lt_of_lt_of_le (RB.lt TZ.out) B1.size
    have PC0 : Hid ((w1.alloc (.cells #[.bool neg, .int .i64 c, .int .u64 m, .int .i64 x] 61)).cell? ⟨w1.heap.size, 1, none⟩ = some (.int .i64 c)) := (RB.new w1 61 _).cell 1 _ rfl
    have HB1 := hid (B1.trans ((alloc_b w1 (.cells #[.bool neg, .int .i64 c, .int .u64 m, .int .i64 x] 61)).mono B1.size))
    clear B1 D AB
    go_wp2_with fail
    refine (E0.out _).mono ?_
    rintro e w2 ⟨t0, rfl, HT0, B2⟩
    have HB2 := hid (HB1.out.trans (B2.mono HB1.out.size))
    have PC : Hid (w2.cell? ⟨w1.heap.size, 2, none⟩ = some (.int .u64 m) ∧ w2.cell? ⟨w1.heap.size, 3, none⟩ = some (.int .i64 x)) := ⟨(B2.cell (cell_lt PC.out.1)).trans PC.out.1, (B2.cell (cell_lt PC.out.2)).trans PC.out.2⟩
    have HBs : Hid (w.heap.size < w1.heap.size ∧ w1.heap.size < w2.heap.size) := ⟨HS1.out, Nat.lt_of_lt_of_le (RB.lt (RB.new w1 61 _)) B2.size⟩
    have PC1 : Hid (w2.cell? ⟨w1.heap.size, 1, none⟩ = some (.int .i64 c)) := (B2.cell (cell_lt PC0.out)).trans PC0.out
    have aL := alloc_b w2 (.cells #[.bool D0.neg, .string t0, .int .i64 D0.e] 25)
    have pc1 := (aL.cell (cell_lt PC1.out)).trans PC1.out
    have P3 := hid (FR3.new w2 (.bool D0.neg) (.string t0) (.int .i64 D0.e))
    have HBL := hid (HB2.out.trans (aL.mono HB2.out.size))
    have PCL : Hid ((w2.alloc (.cells #[.bool D0.neg, .string t0, .int .i64 D0.e] 25)).cell? ⟨w1.heap.size, 2, none⟩ = some (.int .u64 m) ∧ (w2.alloc (.cells #[.bool D0.neg, .string t0, .int .i64 D0.e] 25)).cell? ⟨w1.heap.size, 3, none⟩ = some (.int .i64 x)) := ⟨(aL.cell (cell_lt PC.out.1)).trans PC.out.1, (aL.cell (cell_lt PC.out.2)).trans PC.out.2⟩
    clear B2 E0 HB1 aL PC PC0 PC1 HB2 HT0
    go_wp2_with fail
    refine (DN.out _).mono ?_
    rintro e wz ⟨rfl, hz⟩
    subst hz
    go_wp2_with fail
    refine (HL.out _).mono ?_
    rintro e w3 ⟨t2, rfl, HT2, B3⟩
    have HB3 := hid (HBL.out.trans (B3.mono HBL.out.size))
    have R3 := hid (P3.out.below B3 P3.out.lt)
    have PC : Hid (w3.cell? ⟨w1.heap.size, 2, none⟩ = some (.int .u64 m) ∧ w3.cell? ⟨w1.heap.size, 3, none⟩ = some (.int .i64 x)) := ⟨(B3.cell (cell_lt PCL.out.1)).trans PCL.out.1, (B3.cell (cell_lt PCL.out.2)).trans PCL.out.2⟩
    obtain ⟨⟨lc0, lc1, lc2⟩, lf0, lf1, lf2⟩ := R3.out.cells
    clear B3 PCL P3 HL DN pc1
    have lt3 : w2.heap.size ≠ w1.heap.size := by have := HBs.out; omega
    have hbL : Hid (Below w.heap.size w (((w3.setCell ⟨w2.heap.size, 0, none⟩ (.bool DA.neg)).setCell ⟨w2.heap.size, 1, none⟩ (.string t2)).setCell ⟨w2.heap.size, 2, none⟩ (.int .i64 DA.e))) := fset3_below (ZB.out.trans (HB3.out.mono ZB.out.size)) (by have := HBs.out; omega)
    have TL : Hid (Ten (((w3.setCell ⟨w2.heap.size, 0, none⟩ (.bool DA.neg)).setCell ⟨w2.heap.size, 1, none⟩ (.string t2)).setCell ⟨w2.heap.size, 2, none⟩ (.int .i64 DA.e)) w.heap.size (.bool false) (.string ⟨#[]⟩) (.int .i64 0) (.bool false) (.string ⟨#[]⟩) (.int .i64 0) (.bool false) (.string ⟨#[]⟩) (.int .i64 0) (.bool false)) :=
      RB.far (RB.far (RB.far (RB.below TZ.out HB3.out (RB.lt TZ.out)) (by have := HBs.out; omega)) (by have := HBs.out; omega)) (by have := HBs.out; omega)
    obtain ⟨SS, KS, CS, BS, MS⟩ := state (fun w' => Ten w' w.heap.size (.bool false) (.string ⟨#[]⟩) (.int .i64 0) (.bool false) (.string ⟨#[]⟩) (.int .i64 0) (.bool false) (.string ⟨#[]⟩) (.int .i64 0) (.bool false) ∧ (w'.cell? ⟨w1.heap.size, 2, none⟩ = some (.int .u64 m) ∧ w'.cell? ⟨w1.heap.size, 3, none⟩ = some (.int .i64 x)) ∧ (w'.cell? ⟨w2.heap.size, 0, none⟩ = some (.bool DA.neg) ∧ w'.cell? ⟨w2.heap.size, 1, none⟩ = some (.string t2) ∧ w'.cell? ⟨w2.heap.size, 2, none⟩ = some (.int .i64 DA.e))) w
      (Stays.and (fun _ _ g hB => RB.below g hB (RB.lt g)) (((Stays.cell _ _).and (Stays.cell _ _)).and ((Stays.cell _ _).and ((Stays.cell _ _).and (Stays.cell _ _)))))
    have S0 := hid (MS.out _ ⟨TL.out, ⟨by simp only [set_far lt3]; exact PC.out.1, by simp only [set_far lt3]; exact PC.out.2⟩, (R3.out.put _ _ _).cells.1⟩ hbL.out)
    have lt1 : w.heap.size ≠ w1.heap.size := by have := HBs.out; omega
    have lt2 : w.heap.size ≠ w2.heap.size := by have := HBs.out; omega
    obtain ⟨g, hg⟩ : ∃ g : World → Nat → Value, Hid (∀ w' i, g w' i = (w'.cell? ⟨w.heap.size, i, none⟩).getD (.bool false)) := ⟨_, fun _ _ => rfl⟩
    have TG : Hid (∀ (wx : World) (x0 x1 x2 x3 x4 x5 x6 x7 x8 x9 : Value), Ten wx w.heap.size x0 x1 x2 x3 x4 x5 x6 x7 x8 x9 → (wx.cell? ⟨w.heap.size, 0, none⟩ = some (g wx 0) ∧ wx.frozen? ⟨w.heap.size, 0, none⟩ = false) ∧ (wx.cell? ⟨w.heap.size, 1, none⟩ = some (g wx 1) ∧ wx.frozen? ⟨w.heap.size, 1, none⟩ = false) ∧ (wx.cell? ⟨w.heap.size, 2, none⟩ = some (g wx 2) ∧ wx.frozen? ⟨w.heap.size, 2, none⟩ = false) ∧ (wx.cell? ⟨w.heap.size, 3, none⟩ = some (g wx 3) ∧ wx.frozen? ⟨w.heap.size, 3, none⟩ = false) ∧ (wx.cell? ⟨w.heap.size, 4, none⟩ = some (g wx 4) ∧ wx.frozen? ⟨w.heap.size, 4, none⟩ = false) ∧ (wx.cell? ⟨w.heap.size, 5, none⟩ = some (g wx 5) ∧ wx.frozen? ⟨w.heap.size, 5, none⟩ = false) ∧ (wx.cell? ⟨w.heap.size, 6, none⟩ = some (g wx 6) ∧ wx.frozen? ⟨w.heap.size, 6, none⟩ = false) ∧ (wx.cell? ⟨w.heap.size, 7, none⟩ = some (g wx 7) ∧ wx.frozen? ⟨w.heap.size, 7, none⟩ = false) ∧ (wx.cell? ⟨w.heap.size, 8, none⟩ = some (g wx 8) ∧ wx.frozen? ⟨w.heap.size, 8, none⟩ = false) ∧ (wx.cell? ⟨w.heap.size, 9, none⟩ = some (g wx 9) ∧ wx.frozen? ⟨w.heap.size, 9, none⟩ = false)) := by
      intro wx x0 x1 x2 x3 x4 x5 x6 x7 x8 x9 h
      have key : ∀ i v, wx.cell? ⟨w.heap.size, i, none⟩ = some v → wx.cell? ⟨w.heap.size, i, none⟩ = some (g wx i) := fun i v q => by rw [hg.out, q]; rfl
      exact ⟨⟨key 0 _ (RB.cell h 0 _ rfl), RB.free h 0⟩, ⟨key 1 _ (RB.cell h 1 _ rfl), RB.free h 1⟩, ⟨key 2 _ (RB.cell h 2 _ rfl), RB.free h 2⟩, ⟨key 3 _ (RB.cell h 3 _ rfl), RB.free h 3⟩, ⟨key 4 _ (RB.cell h 4 _ rfl), RB.free h 4⟩, ⟨key 5 _ (RB.cell h 5 _ rfl), RB.free h 5⟩, ⟨key 6 _ (RB.cell h 6 _ rfl), RB.free h 6⟩, ⟨key 7 _ (RB.cell h 7 _ rfl), RB.free h 7⟩, ⟨key 8 _ (RB.cell h 8 _ rfl), RB.free h 8⟩, ⟨key 9 _ (RB.cell h 9 _ rfl), RB.free h 9⟩⟩
    have FT : Hid (∀ wx : World, SS wx → (((wx.cell? ⟨w1.heap.size, 2, none⟩ = some (.int .u64 m) ∧ wx.cell? ⟨w1.heap.size, 3, none⟩ = some (.int .i64 x)) ∧ (wx.cell? ⟨w2.heap.size, 0, none⟩ = some (.bool DA.neg) ∧ wx.cell? ⟨w2.heap.size, 1, none⟩ = some (.string t2) ∧ wx.cell? ⟨w2.heap.size, 2, none⟩ = some (.int .i64 DA.e))) ∧ (wx.cell? ⟨w.heap.size, 0, none⟩ = some (g wx 0) ∧ wx.frozen? ⟨w.heap.size, 0, none⟩ = false) ∧ (wx.cell? ⟨w.heap.size, 1, none⟩ = some (g wx 1) ∧ wx.frozen? ⟨w.heap.size, 1, none⟩ = false) ∧ (wx.cell? ⟨w.heap.size, 2, none⟩ = some (g wx 2) ∧ wx.frozen? ⟨w.heap.size, 2, none⟩ = false) ∧ (wx.cell? ⟨w.heap.size, 3, none⟩ = some (g wx 3) ∧ wx.frozen? ⟨w.heap.size, 3, none⟩ = false) ∧ (wx.cell? ⟨w.heap.size, 4, none⟩ = some (g wx 4) ∧ wx.frozen? ⟨w.heap.size, 4, none⟩ = false) ∧ (wx.cell? ⟨w.heap.size, 5, none⟩ = some (g wx 5) ∧ wx.frozen? ⟨w.heap.size, 5, none⟩ = false) ∧ (wx.cell? ⟨w.heap.size, 6, none⟩ = some (g wx 6) ∧ wx.frozen? ⟨w.heap.size, 6, none⟩ = false) ∧ (wx.cell? ⟨w.heap.size, 7, none⟩ = some (g wx 7) ∧ wx.frozen? ⟨w.heap.size, 7, none⟩ = false) ∧ (wx.cell? ⟨w.heap.size, 8, none⟩ = some (g wx 8) ∧ wx.frozen? ⟨w.heap.size, 8, none⟩ = false) ∧ (wx.cell? ⟨w.heap.size, 9, none⟩ = some (g wx 9) ∧ wx.frozen? ⟨w.heap.size, 9, none⟩ = false))) := fun wx h => ⟨(CS.out wx h).2, TG.out wx _ _ _ _ _ _ _ _ _ _ (CS.out wx h).1⟩
    have FS : Hid (∀ (wx : World) (x0 x1 x2 x3 x4 x5 x6 x7 x8 x9 : Value), SS wx → (((((((((((((wx.setCell ⟨w.heap.size, 0, none⟩ x0).setCell ⟨w.heap.size, 1, none⟩ x1).setCell ⟨w.heap.size, 2, none⟩ x2).setCell ⟨w.heap.size, 3, none⟩ x3).setCell ⟨w.heap.size, 4, none⟩ x4).setCell ⟨w.heap.size, 5, none⟩ x5).setCell ⟨w.heap.size, 6, none⟩ x6).setCell ⟨w.heap.size, 7, none⟩ x7).setCell ⟨w.heap.size, 8, none⟩ x8).setCell ⟨w.heap.size, 9, none⟩ x9).cell? ⟨w1.heap.size, 2, none⟩ = some (.int .u64 m) ∧ ((((((((((wx.setCell ⟨w.heap.size, 0, none⟩ x0).setCell ⟨w.heap.size, 1, none⟩ x1).setCell ⟨w.heap.size, 2, none⟩ x2).setCell ⟨w.heap.size, 3, none⟩ x3).setCell ⟨w.heap.size, 4, none⟩ x4).setCell ⟨w.heap.size, 5, none⟩ x5).setCell ⟨w.heap.size, 6, none⟩ x6).setCell ⟨w.heap.size, 7, none⟩ x7).setCell ⟨w.heap.size, 8, none⟩ x8).setCell ⟨w.heap.size, 9, none⟩ x9).cell? ⟨w1.heap.size, 3, none⟩ = some (.int .i64 x)) ∧ (((((((((((wx.setCell ⟨w.heap.size, 0, none⟩ x0).setCell ⟨w.heap.size, 1, none⟩ x1).setCell ⟨w.heap.size, 2, none⟩ x2).setCell ⟨w.heap.size, 3, none⟩ x3).setCell ⟨w.heap.size, 4, none⟩ x4).setCell ⟨w.heap.size, 5, none⟩ x5).setCell ⟨w.heap.size, 6, none⟩ x6).setCell ⟨w.heap.size, 7, none⟩ x7).setCell ⟨w.heap.size, 8, none⟩ x8).setCell ⟨w.heap.size, 9, none⟩ x9).cell? ⟨w2.heap.size, 0, none⟩ = some (.bool DA.neg) ∧ ((((((((((wx.setCell ⟨w.heap.size, 0, none⟩ x0).setCell ⟨w.heap.size, 1, none⟩ x1).setCell ⟨w.heap.size, 2, none⟩ x2).setCell ⟨w.heap.size, 3, none⟩ x3).setCell ⟨w.heap.size, 4, none⟩ x4).setCell ⟨w.heap.size, 5, none⟩ x5).setCell ⟨w.heap.size, 6, none⟩ x6).setCell ⟨w.heap.size, 7, none⟩ x7).setCell ⟨w.heap.size, 8, none⟩ x8).setCell ⟨w.heap.size, 9, none⟩ x9).cell? ⟨w2.heap.size, 1, none⟩ = some (.string t2) ∧ ((((((((((wx.setCell ⟨w.heap.size, 0, none⟩ x0).setCell ⟨w.heap.size, 1, none⟩ x1).setCell ⟨w.heap.size, 2, none⟩ x2).setCell ⟨w.heap.size, 3, none⟩ x3).setCell ⟨w.heap.size, 4, none⟩ x4).setCell ⟨w.heap.size, 5, none⟩ x5).setCell ⟨w.heap.size, 6, none⟩ x6).setCell ⟨w.heap.size, 7, none⟩ x7).setCell ⟨w.heap.size, 8, none⟩ x8).setCell ⟨w.heap.size, 9, none⟩ x9).cell? ⟨w2.heap.size, 2, none⟩ = some (.int .i64 DA.e))) ∧ (((((((((((wx.setCell ⟨w.heap.size, 0, none⟩ x0).setCell ⟨w.heap.size, 1, none⟩ x1).setCell ⟨w.heap.size, 2, none⟩ x2).setCell ⟨w.heap.size, 3, none⟩ x3).setCell ⟨w.heap.size, 4, none⟩ x4).setCell ⟨w.heap.size, 5, none⟩ x5).setCell ⟨w.heap.size, 6, none⟩ x6).setCell ⟨w.heap.size, 7, none⟩ x7).setCell ⟨w.heap.size, 8, none⟩ x8).setCell ⟨w.heap.size, 9, none⟩ x9).cell? ⟨w.heap.size, 0, none⟩ = some (g ((((((((((wx.setCell ⟨w.heap.size, 0, none⟩ x0).setCell ⟨w.heap.size, 1, none⟩ x1).setCell ⟨w.heap.size, 2, none⟩ x2).setCell ⟨w.heap.size, 3, none⟩ x3).setCell ⟨w.heap.size, 4, none⟩ x4).setCell ⟨w.heap.size, 5, none⟩ x5).setCell ⟨w.heap.size, 6, none⟩ x6).setCell ⟨w.heap.size, 7, none⟩ x7).setCell ⟨w.heap.size, 8, none⟩ x8).setCell ⟨w.heap.size, 9, none⟩ x9) 0) ∧ ((((((((((wx.setCell ⟨w.heap.size, 0, none⟩ x0).setCell ⟨w.heap.size, 1, none⟩ x1).setCell ⟨w.heap.size, 2, none⟩ x2).setCell ⟨w.heap.size, 3, none⟩ x3).setCell ⟨w.heap.size, 4, none⟩ x4).setCell ⟨w.heap.size, 5, none⟩ x5).setCell ⟨w.heap.size, 6, none⟩ x6).setCell ⟨w.heap.size, 7, none⟩ x7).setCell ⟨w.heap.size, 8, none⟩ x8).setCell ⟨w.heap.size, 9, none⟩ x9).frozen? ⟨w.heap.size, 0, none⟩ = false) ∧ (((((((((((wx.setCell ⟨w.heap.size, 0, none⟩ x0).setCell ⟨w.heap.size, 1, none⟩ x1).setCell ⟨w.heap.size, 2, none⟩ x2).setCell ⟨w.heap.size, 3, none⟩ x3).setCell ⟨w.heap.size, 4, none⟩ x4).setCell ⟨w.heap.size, 5, none⟩ x5).setCell ⟨w.heap.size, 6, none⟩ x6).setCell ⟨w.heap.size, 7, none⟩ x7).setCell ⟨w.heap.size, 8, none⟩ x8).setCell ⟨w.heap.size, 9, none⟩ x9).cell? ⟨w.heap.size, 1, none⟩ = some (g ((((((((((wx.setCell ⟨w.heap.size, 0, none⟩ x0).setCell ⟨w.heap.size, 1, none⟩ x1).setCell ⟨w.heap.size, 2, none⟩ x2).setCell ⟨w.heap.size, 3, none⟩ x3).setCell ⟨w.heap.size, 4, none⟩ x4).setCell ⟨w.heap.size, 5, none⟩ x5).setCell ⟨w.heap.size, 6, none⟩ x6).setCell ⟨w.heap.size, 7, none⟩ x7).setCell ⟨w.heap.size, 8, none⟩ x8).setCell ⟨w.heap.size, 9, none⟩ x9) 1) ∧ ((((((((((wx.setCell ⟨w.heap.size, 0, none⟩ x0).setCell ⟨w.heap.size, 1, none⟩ x1).setCell ⟨w.heap.size, 2, none⟩ x2).setCell ⟨w.heap.size, 3, none⟩ x3).setCell ⟨w.heap.size, 4, none⟩ x4).setCell ⟨w.heap.size, 5, none⟩ x5).setCell ⟨w.heap.size, 6, none⟩ x6).setCell ⟨w.heap.size, 7, none⟩ x7).setCell ⟨w.heap.size, 8, none⟩ x8).setCell ⟨w.heap.size, 9, none⟩ x9).frozen? ⟨w.heap.size, 1, none⟩ = false) ∧ (((((((((((wx.setCell ⟨w.heap.size, 0, none⟩ x0).setCell ⟨w.heap.size, 1, none⟩ x1).setCell ⟨w.heap.size, 2, none⟩ x2).setCell ⟨w.heap.size, 3, none⟩ x3).setCell ⟨w.heap.size, 4, none⟩ x4).setCell ⟨w.heap.size, 5, none⟩ x5).setCell ⟨w.heap.size, 6, none⟩ x6).setCell ⟨w.heap.size, 7, none⟩ x7).setCell ⟨w.heap.size, 8, none⟩ x8).setCell ⟨w.heap.size, 9, none⟩ x9).cell? ⟨w.heap.size, 2, none⟩ = some (g ((((((((((wx.setCell ⟨w.heap.size, 0, none⟩ x0).setCell ⟨w.heap.size, 1, none⟩ x1).setCell ⟨w.heap.size, 2, none⟩ x2).setCell ⟨w.heap.size, 3, none⟩ x3).setCell ⟨w.heap.size, 4, none⟩ x4).setCell ⟨w.heap.size, 5, none⟩ x5).setCell ⟨w.heap.size, 6, none⟩ x6).setCell ⟨w.heap.size, 7, none⟩ x7).setCell ⟨w.heap.size, 8, none⟩ x8).setCell ⟨w.heap.size, 9, none⟩ x9) 2) ∧ ((((((((((wx.setCell ⟨w.heap.size, 0, none⟩ x0).setCell ⟨w.heap.size, 1, none⟩ x1).setCell ⟨w.heap.size, 2, none⟩ x2).setCell ⟨w.heap.size, 3, none⟩ x3).setCell ⟨w.heap.size, 4, none⟩ x4).setCell ⟨w.heap.size, 5, none⟩ x5).setCell ⟨w.heap.size, 6, none⟩ x6).setCell ⟨w.heap.size, 7, none⟩ x7).setCell ⟨w.heap.size, 8, none⟩ x8).setCell ⟨w.heap.size, 9, none⟩ x9).frozen? ⟨w.heap.size, 2, none⟩ = false) ∧ (((((((((((wx.setCell ⟨w.heap.size, 0, none⟩ x0).setCell ⟨w.heap.size, 1, none⟩ x1).setCell ⟨w.heap.size, 2, none⟩ x2).setCell ⟨w.heap.size, 3, none⟩ x3).setCell ⟨w.heap.size, 4, none⟩ x4).setCell ⟨w.heap.size, 5, none⟩ x5).setCell ⟨w.heap.size, 6, none⟩ x6).setCell ⟨w.heap.size, 7, none⟩ x7).setCell ⟨w.heap.size, 8, none⟩ x8).setCell ⟨w.heap.size, 9, none⟩ x9).cell? ⟨w.heap.size, 3, none⟩ = some (g ((((((((((wx.setCell ⟨w.heap.size, 0, none⟩ x0).setCell ⟨w.heap.size, 1, none⟩ x1).setCell ⟨w.heap.size, 2, none⟩ x2).setCell ⟨w.heap.size, 3, none⟩ x3).setCell ⟨w.heap.size, 4, none⟩ x4).setCell ⟨w.heap.size, 5, none⟩ x5).setCell ⟨w.heap.size, 6, none⟩ x6).setCell ⟨w.heap.size, 7, none⟩ x7).setCell ⟨w.heap.size, 8, none⟩ x8).setCell ⟨w.heap.size, 9, none⟩ x9) 3) ∧ ((((((((((wx.setCell ⟨w.heap.size, 0, none⟩ x0).setCell ⟨w.heap.size, 1, none⟩ x1).setCell ⟨w.heap.size, 2, none⟩ x2).setCell ⟨w.heap.size, 3, none⟩ x3).setCell ⟨w.heap.size, 4, none⟩ x4).setCell ⟨w.heap.size, 5, none⟩ x5).setCell ⟨w.heap.size, 6, none⟩ x6).setCell ⟨w.heap.size, 7, none⟩ x7).setCell ⟨w.heap.size, 8, none⟩ x8).setCell ⟨w.heap.size, 9, none⟩ x9).frozen? ⟨w.heap.size, 3, none⟩ = false) ∧ (((((((((((wx.setCell ⟨w.heap.size, 0, none⟩ x0).setCell ⟨w.heap.size, 1, none⟩ x1).setCell ⟨w.heap.size, 2, none⟩ x2).setCell ⟨w.heap.size, 3, none⟩ x3).setCell ⟨w.heap.size, 4, none⟩ x4).setCell ⟨w.heap.size, 5, none⟩ x5).setCell ⟨w.heap.size, 6, none⟩ x6).setCell ⟨w.heap.size, 7, none⟩ x7).setCell ⟨w.heap.size, 8, none⟩ x8).setCell ⟨w.heap.size, 9, none⟩ x9).cell? ⟨w.heap.size, 4, none⟩ = some (g ((((((((((wx.setCell ⟨w.heap.size, 0, none⟩ x0).setCell ⟨w.heap.size, 1, none⟩ x1).setCell ⟨w.heap.size, 2, none⟩ x2).setCell ⟨w.heap.size, 3, none⟩ x3).setCell ⟨w.heap.size, 4, none⟩ x4).setCell ⟨w.heap.size, 5, none⟩ x5).setCell ⟨w.heap.size, 6, none⟩ x6).setCell ⟨w.heap.size, 7, none⟩ x7).setCell ⟨w.heap.size, 8, none⟩ x8).setCell ⟨w.heap.size, 9, none⟩ x9) 4) ∧ ((((((((((wx.setCell ⟨w.heap.size, 0, none⟩ x0).setCell ⟨w.heap.size, 1, none⟩ x1).setCell ⟨w.heap.size, 2, none⟩ x2).setCell ⟨w.heap.size, 3, none⟩ x3).setCell ⟨w.heap.size, 4, none⟩ x4).setCell ⟨w.heap.size, 5, none⟩ x5).setCell ⟨w.heap.size, 6, none⟩ x6).setCell ⟨w.heap.size, 7, none⟩ x7).setCell ⟨w.heap.size, 8, none⟩ x8).setCell ⟨w.heap.size, 9, none⟩ x9).frozen? ⟨w.heap.size, 4, none⟩ = false) ∧ (((((((((((wx.setCell ⟨w.heap.size, 0, none⟩ x0).setCell ⟨w.heap.size, 1, none⟩ x1).setCell ⟨w.heap.size, 2, none⟩ x2).setCell ⟨w.heap.size, 3, none⟩ x3).setCell ⟨w.heap.size, 4, none⟩ x4).setCell ⟨w.heap.size, 5, none⟩ x5).setCell ⟨w.heap.size, 6, none⟩ x6).setCell ⟨w.heap.size, 7, none⟩ x7).setCell ⟨w.heap.size, 8, none⟩ x8).setCell ⟨w.heap.size, 9, none⟩ x9).cell? ⟨w.heap.size, 5, none⟩ = some (g ((((((((((wx.setCell ⟨w.heap.size, 0, none⟩ x0).setCell ⟨w.heap.size, 1, none⟩ x1).setCell ⟨w.heap.size, 2, none⟩ x2).setCell ⟨w.heap.size, 3, none⟩ x3).setCell ⟨w.heap.size, 4, none⟩ x4).setCell ⟨w.heap.size, 5, none⟩ x5).setCell ⟨w.heap.size, 6, none⟩ x6).setCell ⟨w.heap.size, 7, none⟩ x7).setCell ⟨w.heap.size, 8, none⟩ x8).setCell ⟨w.heap.size, 9, none⟩ x9) 5) ∧ ((((((((((wx.setCell ⟨w.heap.size, 0, none⟩ x0).setCell ⟨w.heap.size, 1, none⟩ x1).setCell ⟨w.heap.size, 2, none⟩ x2).setCell ⟨w.heap.size, 3, none⟩ x3).setCell ⟨w.heap.size, 4, none⟩ x4).setCell ⟨w.heap.size, 5, none⟩ x5).setCell ⟨w.heap.size, 6, none⟩ x6).setCell ⟨w.heap.size, 7, none⟩ x7).setCell ⟨w.heap.size, 8, none⟩ x8).setCell ⟨w.heap.size, 9, none⟩ x9).frozen? ⟨w.heap.size, 5, none⟩ = false) ∧ (((((((((((wx.setCell ⟨w.heap.size, 0, none⟩ x0).setCell ⟨w.heap.size, 1, none⟩ x1).setCell ⟨w.heap.size, 2, none⟩ x2).setCell ⟨w.heap.size, 3, none⟩ x3).setCell ⟨w.heap.size, 4, none⟩ x4).setCell ⟨w.heap.size, 5, none⟩ x5).setCell ⟨w.heap.size, 6, none⟩ x6).setCell ⟨w.heap.size, 7, none⟩ x7).setCell ⟨w.heap.size, 8, none⟩ x8).setCell ⟨w.heap.size, 9, none⟩ x9).cell? ⟨w.heap.size, 6, none⟩ = some (g ((((((((((wx.setCell ⟨w.heap.size, 0, none⟩ x0).setCell ⟨w.heap.size, 1, none⟩ x1).setCell ⟨w.heap.size, 2, none⟩ x2).setCell ⟨w.heap.size, 3, none⟩ x3).setCell ⟨w.heap.size, 4, none⟩ x4).setCell ⟨w.heap.size, 5, none⟩ x5).setCell ⟨w.heap.size, 6, none⟩ x6).setCell ⟨w.heap.size, 7, none⟩ x7).setCell ⟨w.heap.size, 8, none⟩ x8).setCell ⟨w.heap.size, 9, none⟩ x9) 6) ∧ ((((((((((wx.setCell ⟨w.heap.size, 0, none⟩ x0).setCell ⟨w.heap.size, 1, none⟩ x1).setCell ⟨w.heap.size, 2, none⟩ x2).setCell ⟨w.heap.size, 3, none⟩ x3).setCell ⟨w.heap.size, 4, none⟩ x4).setCell ⟨w.heap.size, 5, none⟩ x5).setCell ⟨w.heap.size, 6, none⟩ x6).setCell ⟨w.heap.size, 7, none⟩ x7).setCell ⟨w.heap.size, 8, none⟩ x8).setCell ⟨w.heap.size, 9, none⟩ x9).frozen? ⟨w.heap.size, 6, none⟩ = false) ∧ (((((((((((wx.setCell ⟨w.heap.size, 0, none⟩ x0).setCell ⟨w.heap.size, 1, none⟩ x1).setCell ⟨w.heap.size, 2, none⟩ x2).setCell ⟨w.heap.size, 3, none⟩ x3).setCell ⟨w.heap.size, 4, none⟩ x4).setCell ⟨w.heap.size, 5, none⟩ x5).setCell ⟨w.heap.size, 6, none⟩ x6).setCell ⟨w.heap.size, 7, none⟩ x7).setCell ⟨w.heap.size, 8, none⟩ x8).setCell ⟨w.heap.size, 9, none⟩ x9).cell? ⟨w.heap.size, 7, none⟩ = some (g ((((((((((wx.setCell ⟨w.heap.size, 0, none⟩ x0).setCell ⟨w.heap.size, 1, none⟩ x1).setCell ⟨w.heap.size, 2, none⟩ x2).setCell ⟨w.heap.size, 3, none⟩ x3).setCell ⟨w.heap.size, 4, none⟩ x4).setCell ⟨w.heap.size, 5, none⟩ x5).setCell ⟨w.heap.size, 6, none⟩ x6).setCell ⟨w.heap.size, 7, none⟩ x7).setCell ⟨w.heap.size, 8, none⟩ x8).setCell ⟨w.heap.size, 9, none⟩ x9) 7) ∧ ((((((((((wx.setCell ⟨w.heap.size, 0, none⟩ x0).setCell ⟨w.heap.size, 1, none⟩ x1).setCell ⟨w.heap.size, 2, none⟩ x2).setCell ⟨w.heap.size, 3, none⟩ x3).setCell ⟨w.heap.size, 4, none⟩ x4).setCell ⟨w.heap.size, 5, none⟩ x5).setCell ⟨w.heap.size, 6, none⟩ x6).setCell ⟨w.heap.size, 7, none⟩ x7).setCell ⟨w.heap.size, 8, none⟩ x8).setCell ⟨w.heap.size, 9, none⟩ x9).frozen? ⟨w.heap.size, 7, none⟩ = false) ∧ (((((((((((wx.setCell ⟨w.heap.size, 0, none⟩ x0).setCell ⟨w.heap.size, 1, none⟩ x1).setCell ⟨w.heap.size, 2, none⟩ x2).setCell ⟨w.heap.size, 3, none⟩ x3).setCell ⟨w.heap.size, 4, none⟩ x4).setCell ⟨w.heap.size, 5, none⟩ x5).setCell ⟨w.heap.size, 6, none⟩ x6).setCell ⟨w.heap.size, 7, none⟩ x7).setCell ⟨w.heap.size, 8, none⟩ x8).setCell ⟨w.heap.size, 9, none⟩ x9).cell? ⟨w.heap.size, 8, none⟩ = some (g ((((((((((wx.setCell ⟨w.heap.size, 0, none⟩ x0).setCell ⟨w.heap.size, 1, none⟩ x1).setCell ⟨w.heap.size, 2, none⟩ x2).setCell ⟨w.heap.size, 3, none⟩ x3).setCell ⟨w.heap.size, 4, none⟩ x4).setCell ⟨w.heap.size, 5, none⟩ x5).setCell ⟨w.heap.size, 6, none⟩ x6).setCell ⟨w.heap.size, 7, none⟩ x7).setCell ⟨w.heap.size, 8, none⟩ x8).setCell ⟨w.heap.size, 9, none⟩ x9) 8) ∧ ((((((((((wx.setCell ⟨w.heap.size, 0, none⟩ x0).setCell ⟨w.heap.size, 1, none⟩ x1).setCell ⟨w.heap.size, 2, none⟩ x2).setCell ⟨w.heap.size, 3, none⟩ x3).setCell ⟨w.heap.size, 4, none⟩ x4).setCell ⟨w.heap.size, 5, none⟩ x5).setCell ⟨w.heap.size, 6, none⟩ x6).setCell ⟨w.heap.size, 7, none⟩ x7).setCell ⟨w.heap.size, 8, none⟩ x8).setCell ⟨w.heap.size, 9, none⟩ x9).frozen? ⟨w.heap.size, 8, none⟩ = false) ∧ (((((((((((wx.setCell ⟨w.heap.size, 0, none⟩ x0).setCell ⟨w.heap.size, 1, none⟩ x1).setCell ⟨w.heap.size, 2, none⟩ x2).setCell ⟨w.heap.size, 3, none⟩ x3).setCell ⟨w.heap.size, 4, none⟩ x4).setCell ⟨w.heap.size, 5, none⟩ x5).setCell ⟨w.heap.size, 6, none⟩ x6).setCell ⟨w.heap.size, 7, none⟩ x7).setCell ⟨w.heap.size, 8, none⟩ x8).setCell ⟨w.heap.size, 9, none⟩ x9).cell? ⟨w.heap.size, 9, none⟩ = some (g ((((((((((wx.setCell ⟨w.heap.size, 0, none⟩ x0).setCell ⟨w.heap.size, 1, none⟩ x1).setCell ⟨w.heap.size, 2, none⟩ x2).setCell ⟨w.heap.size, 3, none⟩ x3).setCell ⟨w.heap.size, 4, none⟩ x4).setCell ⟨w.heap.size, 5, none⟩ x5).setCell ⟨w.heap.size, 6, none⟩ x6).setCell ⟨w.heap.size, 7, none⟩ x7).setCell ⟨w.heap.size, 8, none⟩ x8).setCell ⟨w.heap.size, 9, none⟩ x9) 9) ∧ ((((((((((wx.setCell ⟨w.heap.size, 0, none⟩ x0).setCell ⟨w.heap.size, 1, none⟩ x1).setCell ⟨w.heap.size, 2, none⟩ x2).setCell ⟨w.heap.size, 3, none⟩ x3).setCell ⟨w.heap.size, 4, none⟩ x4).setCell ⟨w.heap.size, 5, none⟩ x5).setCell ⟨w.heap.size, 6, none⟩ x6).setCell ⟨w.heap.size, 7, none⟩ x7).setCell ⟨w.heap.size, 8, none⟩ x8).setCell ⟨w.heap.size, 9, none⟩ x9).frozen? ⟨w.heap.size, 9, none⟩ = false))) := fun wx x0 x1 x2 x3 x4 x5 x6 x7 x8 x9 h => by
      obtain ⟨⟨p2, p3⟩, q0, q1, q2⟩ := (CS.out wx h).2
      refine ⟨⟨⟨?_, ?_⟩, ?_, ?_, ?_⟩, TG.out _ _ _ _ _ _ _ _ _ _ _ (Ten.put (CS.out wx h).1 x0 x1 x2 x3 x4 x5 x6 x7 x8 x9)⟩
      · simp only [set_far lt1]; exact p2
      · simp only [set_far lt1]; exact p3
      · simp only [set_far lt2]; exact q0
      · simp only [set_far lt2]; exact q1
      · simp only [set_far lt2]; exact q2
    have TT : Hid (∀ wx : World, SS wx → Ten wx w.heap.size (.bool false) (.string ⟨#[]⟩) (.int .i64 0) (.bool false) (.string ⟨#[]⟩) (.int .i64 0) (.bool false) (.string ⟨#[]⟩) (.int .i64 0) (.bool false)) := fun wx h => (CS.out wx h).1
    clear hbL HB3 HBL ZB MS TZ TL PC CS lt1 lt2 lt3 TG hg R3
    go_upto_region 6 with fail
    generalize ((w3.setCell ⟨w2.heap.size, 0, none⟩ (.bool DA.neg)).setCell ⟨w2.heap.size, 1, none⟩ (.string t2)).setCell ⟨w2.heap.size, 2, none⟩ (.int .i64 DA.e) = wL at *
    clear lc0 lc1 lc2 lf0 lf1 lf2
    have T0 := hid (KS.out _ _ S0.out (drew_nil _))
    clear S0
    go_region_held3 (fun w' => ((w'.cell? ⟨w1.heap.size, 2, none⟩ = some (.int .u64 m) ∧ w'.cell? ⟨w1.heap.size, 3, none⟩ = some (.int .i64 x)) ∧ (w'.cell? ⟨w2.heap.size, 0, none⟩ = some (.bool DA.neg) ∧ w'.cell? ⟨w2.heap.size, 1, none⟩ = some (.string t2) ∧ w'.cell? ⟨w2.heap.size, 2, none⟩ = some (.int .i64 DA.e))) ∧ (w'.cell? ⟨w.heap.size, 0, none⟩ = some (g w' 0) ∧ w'.frozen? ⟨w.heap.size, 0, none⟩ = false) ∧ (w'.cell? ⟨w.heap.size, 1, none⟩ = some (g w' 1) ∧ w'.frozen? ⟨w.heap.size, 1, none⟩ = false) ∧ (w'.cell? ⟨w.heap.size, 2, none⟩ = some (g w' 2) ∧ w'.frozen? ⟨w.heap.size, 2, none⟩ = false) ∧ (w'.cell? ⟨w.heap.size, 3, none⟩ = some (g w' 3) ∧ w'.frozen? ⟨w.heap.size, 3, none⟩ = false) ∧ (w'.cell? ⟨w.heap.size, 4, none⟩ = some (g w' 4) ∧ w'.frozen? ⟨w.heap.size, 4, none⟩ = false) ∧ (w'.cell? ⟨w.heap.size, 5, none⟩ = some (g w' 5) ∧ w'.frozen? ⟨w.heap.size, 5, none⟩ = false) ∧ (w'.cell? ⟨w.heap.size, 6, none⟩ = some (g w' 6) ∧ w'.frozen? ⟨w.heap.size, 6, none⟩ = false) ∧ (w'.cell? ⟨w.heap.size, 7, none⟩ = some (g w' 7) ∧ w'.frozen? ⟨w.heap.size, 7, none⟩ = false) ∧ (w'.cell? ⟨w.heap.size, 8, none⟩ = some (g w' 8) ∧ w'.frozen? ⟨w.heap.size, 8, none⟩ = false) ∧ (w'.cell? ⟨w.heap.size, 9, none⟩ = some (g w' 9) ∧ w'.frozen? ⟨w.heap.size, 9, none⟩ = false)) (first | (with_reducible exact FS.out _ _ _ _ _ _ _ _ _ _ _ T2.out) | (with_reducible exact FT.out _ T2.out) | (with_reducible exact FT.out _ T1.out) | (with_reducible exact FT.out _ T0.out)) (first
      | (go_at_call 30; with_reducible refine (EV.out _).mono ?_; rintro e w5 ⟨t1, rfl, HT1, hB⟩; (first | (have T2 := hid (KS.out _ _ T1.out hB); clear hB) | (have T1 := hid (KS.out _ _ T0.out hB); clear hB)))
      | (go_at_call 31; with_reducible refine (HI.out _).mono ?_; rintro e w5 ⟨t3, rfl, HT3, hB⟩; (first | (have T2 := hid (KS.out _ _ T1.out hB); clear hB) | (have T1 := hid (KS.out _ _ T0.out hB); clear hB))))
    have KV := hid (G.out t1 t2 t3 HT1.out HT2.out HT3.out)
    have KB := hid (BS.out _ T2.out)
    have KT := hid (TT.out _ T2.out)
    clear HT1 HT2 HT3 FT FS TT T0 T1 T2 KS BS G HI EV
    go_wp2_with fail
    (try simp only [Exit.inBlock, Exit.then])
    refine bodyPost_ret (results_cell_row rfl _ _ w.heap.size 41 _ (0, 0) _ rfl (KT.out.put _ _ _ _ _ _ _ _ _ _) Tryz.underlying41 rfl (by kernel_rfl)) rfl ?_
    exact ⟨_, rfl, KV.out, set10_below KB.out (Nat.le_refl _)⟩
end Go.Proofs.YtbmlkfkhmaahnaaGreatDoor

namespace Go.Proofs.YtbmlkfkhmaahnaaGreatDoor
open Go Go.RowKit Go.Deep


theorem blank_any (x : Int) (w : World) (h0 : 0 ≤ x) (h1 : x < 256) : Calls Tryz.prog 60 #[.int .u8 x] w fun e w' => e = .returned (.bool (Sc.bl x)) ∧ w' = w := by
  go_enter Tryz.func60, Tryz.ntmps60
  go_wp2
  all_goals (go_ret; refine ⟨vret_bool ?_, rfl⟩)
  all_goals (rw [Bool.eq_iff_iff]; simp [Sc.bl]; omega)





theorem peek_any (s : ByteArray) (xs : List Int) (k : Nat) (w : World) (hs : Str s xs) (hn : xs.length ≤ 562949953421312) : Calls Tryz.prog 57 #[.string s, .int .i64 k] w fun e w' => e = .returned (.int .u8 (Sc.pk xs k)) ∧ w' = w := by
  have hsz := hs.size
  have hx := hs.pk k
  have HS := hid hs
  have HN := hid hn
  clear hs hn
  by_cases h : k < xs.length
  · have h1 : (k : Int) < (xs.length : Int) := by omega
    go_enter Tryz.func57, Tryz.ntmps57
    go_wp2
    all_goals (go_ret; first | exact ⟨rfl, rfl⟩ | omega)
  · have h1 : ¬ (k : Int) < (xs.length : Int) := by omega
    have e : Sc.pk xs k = 0 := Sc.pk_ge (by omega)
    go_enter Tryz.func57, Tryz.ntmps57
    go_wp2
    all_goals (go_ret; first | exact ⟨rfl, rfl⟩ | exact ⟨by rw [e], rfl⟩ | omega)

theorem past_any (s : ByteArray) (xs : List Int) (k : Nat) (w : World) (hs : Str s xs) (hn : xs.length ≤ 562949953421312) (hk : k ≤ xs.length + 1) : Calls Tryz.prog 58 #[.string s, .int .i64 k] w fun e w' => e = .returned (.int .i64 ((k + Sc.sg xs k : Nat) : Int)) ∧ w' = w := by
  have P := hid (peek_any s xs k w hs hn)
  have b := hs.atb k
  have hx : Sc.pk xs k = xs.getD k 0 := rfl
  rw [← hx] at b
  have hk2 : (k : Int) ≤ 562949953421313 := by omega
  have S : Hid (∀ r : Int, (Sc.pk xs k = 43 ∨ Sc.pk xs k = 45 → r = (k : Int) + 1) → (¬ (Sc.pk xs k = 43 ∨ Sc.pk xs k = 45) → r = (k : Int)) → Ending.returned (.int .i64 r) = .returned (.int .i64 ((k + Sc.sg xs k : Nat) : Int))) := fun r h1 h2 => by
    unfold Sc.sg
    by_cases c : Sc.pk xs k = 43 ∨ Sc.pk xs k = 45
    · rw [if_pos c, h1 c]; rfl
    · rw [if_neg c, h2 c]; rfl
  clear hs hn hk hx
  generalize Sc.pk xs k = x at *
  have hc : x = 43 ∨ x = 45 ∨ ((x == 43) = false ∧ (x == 45) = false ∧ x ≠ 43 ∧ x ≠ 45) := by
    by_cases c1 : x = 43
    · exact .inl c1
    · by_cases c2 : x = 45
      · exact .inr (.inl c2)
      · exact .inr (.inr ⟨by rw [beq_eq_false_iff_ne]; exact c1, by rw [beq_eq_false_iff_ne]; exact c2, c1, c2⟩)
  rcases hc with rfl | rfl | ⟨c1, c2, c3, c4⟩
  all_goals go_enter Tryz.func58, Tryz.ntmps58
  all_goals (go_wp2_with fail; refine P.out.mono ?_; rintro e w1 ⟨rfl, rfl⟩; clear P; go_wp2_with fail; go_ret; refine ⟨?_, rfl⟩; refine S.out _ ?_ ?_)
  all_goals (intro hh; first | omega | (exfalso; revert hh; decide))

set_option maxRecDepth 100000 in
theorem blanks_any (s : ByteArray) (xs : List Int) (k : Nat) (w : World) (hs : Str s xs) (hn : xs.length ≤ 562949953421312) (hk : k ≤ xs.length) : Calls Tryz.prog 40 #[.string s, .int .i64 k] w fun e w' => e = .returned (.int .i64 ((k + Sc.run Sc.bl xs k : Nat) : Int)) ∧ w' = w := by
  have HS := hid hs
  have HN := hid hn
  have hsz := hs.size
  have HK := hid hk
  clear hs hn hk
  go_enter Tryz.func40, Tryz.ntmps40
  go_wp2_with fail
  go_loop [1] (fun c => ∃ j : Nat, c = .int .i64 j ∧ Hid (j ≤ xs.length ∧ k + Sc.run Sc.bl xs k = j + Sc.run Sc.bl xs j)) (fun c => match c with | .int _ j => xs.length - j.toNat | _ => 0)
  case atStart => exact ⟨k, rfl, HK.out, rfl⟩
  case round =>
    obtain ⟨j, rfl, I⟩ := hrel
    have hj : (j : Int) ≤ 562949953421312 := by have := I.out.1; have := HN.out; omega
    have hx := HS.out.pk j
    by_cases h : j < xs.length
    · have hji : (j : Int) < (xs.length : Int) := by omega
      have b : 0 ≤ Sc.pk xs j ∧ Sc.pk xs j < 256 := HS.out.atb j
      have B := hid (blank_any (Sc.pk xs j) w b.1 b.2)
      cases hb : Sc.bl (Sc.pk xs j) with
      | true =>
        have R := hid (Sc.run_succ Sc.bl0 hb)
        rw [hb] at B
        clear hb
        generalize Sc.pk xs j = x at *
        go_wp2_with fail
        refine B.out.mono ?_
        rintro e w1 ⟨rfl, rfl⟩
        go_wp2_with fail
        go_round
        case rel => exact ⟨j + 1, by go_num, by have := I.out.2; have := R.out; show _ ∧ _; omega⟩
        case measure => simp; omega
      | false =>
        have R := hid (Sc.run_zero Sc.bl0 hb)
        rw [hb] at B
        clear hb
        generalize Sc.pk xs j = x at *
        go_wp2_with fail
        refine B.out.mono ?_
        rintro e w1 ⟨rfl, rfl⟩
        go_wp2_with fail
        go_ret
        exact ⟨congrArg (fun z => Ending.returned (.int .i64 z)) (by have := I.out.2; have := R.out; omega), rfl⟩
    · have hji : ¬ (j : Int) < (xs.length : Int) := by omega
      have R : Hid (Sc.run Sc.bl xs j = 0) := Sc.run_zero Sc.bl0 (by rw [Sc.pk_ge (by omega)]; rfl)
      go_wp2_with fail
      go_ret
      exact ⟨congrArg (fun z => Ending.returned (.int .i64 z)) (by have := I.out.2; have := R.out; omega), rfl⟩
end Go.Proofs.YtbmlkfkhmaahnaaGreatDoor

namespace Go.Proofs.YtbmlkfkhmaahnaaGreatDoor
open Go Go.RowKit Go.Deep


/-- The room for the answer, empty; the literal in its box. -/
def RM (w w' : World) (neg : Bool) (A B : ByteArray) (sc en : Int) : Prop :=
  Below w.heap.size w w' ∧ Row5 w' w.heap.size 76 (.bool false) (.string ⟨#[]⟩) (.string ⟨#[]⟩) (.int .i64 0) (.int .i64 0) ∧ Row5 w' (w.heap.size + 1) 76 (.bool neg) (.string A) (.string B) (.int .i64 sc) (.int .i64 en)

theorem RM.new (w : World) (neg : Bool) : RM w ((w.alloc (.cells #[.bool false, .string ⟨#[]⟩, .string ⟨#[]⟩, .int .i64 0, .int .i64 0] 76)).alloc (.cells #[.bool neg, .string ⟨#[]⟩, .string ⟨#[]⟩, .int .i64 0, .int .i64 0] 76)) neg ⟨#[]⟩ ⟨#[]⟩ 0 0 := by
  refine ⟨below_on (alloc_b _ _) (alloc_b _ _), heap_alloc2_old _ _ _, heap_alloc2_new _ _ _⟩

theorem RM.cells {w w' : World} {neg : Bool} {A B : ByteArray} {sc en : Int} (h : RM w w' neg A B sc en) :
    (w'.cell? ⟨w.heap.size + 1, 0, none⟩ = some (.bool neg) ∧ w'.cell? ⟨w.heap.size + 1, 1, none⟩ = some (.string A) ∧ w'.cell? ⟨w.heap.size + 1, 2, none⟩ = some (.string B) ∧ w'.cell? ⟨w.heap.size + 1, 3, none⟩ = some (.int .i64 sc) ∧ w'.cell? ⟨w.heap.size + 1, 4, none⟩ = some (.int .i64 en)) ∧
    (w'.frozen? ⟨w.heap.size + 1, 0, none⟩ = false ∧ w'.frozen? ⟨w.heap.size + 1, 1, none⟩ = false ∧ w'.frozen? ⟨w.heap.size + 1, 2, none⟩ = false ∧ w'.frozen? ⟨w.heap.size + 1, 3, none⟩ = false ∧ w'.frozen? ⟨w.heap.size + 1, 4, none⟩ = false) := h.2.2.cells
theorem RM.room {w w' : World} {neg : Bool} {A B : ByteArray} {sc en : Int} (h : RM w w' neg A B sc en) :
    (w'.cell? ⟨w.heap.size, 0, none⟩ = some (.bool false) ∧ w'.cell? ⟨w.heap.size, 1, none⟩ = some (.string ⟨#[]⟩) ∧ w'.cell? ⟨w.heap.size, 2, none⟩ = some (.string ⟨#[]⟩) ∧ w'.cell? ⟨w.heap.size, 3, none⟩ = some (.int .i64 0) ∧ w'.cell? ⟨w.heap.size, 4, none⟩ = some (.int .i64 0)) ∧
    (w'.frozen? ⟨w.heap.size, 0, none⟩ = false ∧ w'.frozen? ⟨w.heap.size, 1, none⟩ = false ∧ w'.frozen? ⟨w.heap.size, 2, none⟩ = false ∧ w'.frozen? ⟨w.heap.size, 3, none⟩ = false ∧ w'.frozen? ⟨w.heap.size, 4, none⟩ = false) := h.2.1.cells
theorem RM.ahead {w w' : World} {neg : Bool} {A B : ByteArray} {sc en : Int} (h : RM w w' neg A B sc en) (A' : ByteArray) : RM w (w'.setCell ⟨w.heap.size + 1, 1, none⟩ (.string A')) neg A' B sc en :=
  ⟨h.1.setCell (p := ⟨w.heap.size + 1, 1, none⟩) (Nat.le_succ _) _, h.2.1.set_far (by omega), set1 h.2.2 (by simp [Array.setIfInBounds])⟩
theorem RM.behind {w w' : World} {neg : Bool} {A B : ByteArray} {sc en : Int} (h : RM w w' neg A B sc en) (B' : ByteArray) : RM w (w'.setCell ⟨w.heap.size + 1, 2, none⟩ (.string B')) neg A B' sc en :=
  ⟨h.1.setCell (p := ⟨w.heap.size + 1, 2, none⟩) (Nat.le_succ _) _, h.2.1.set_far (by omega), set1 h.2.2 (by simp [Array.setIfInBounds])⟩
theorem RM.scale {w w' : World} {neg : Bool} {A B : ByteArray} {sc en : Int} (h : RM w w' neg A B sc en) (x : Int) : RM w (w'.setCell ⟨w.heap.size + 1, 3, none⟩ (.int .i64 x)) neg A B x en :=
  ⟨h.1.setCell (p := ⟨w.heap.size + 1, 3, none⟩) (Nat.le_succ _) _, h.2.1.set_far (by omega), set1 h.2.2 (by simp [Array.setIfInBounds])⟩
theorem RM.en {w w' : World} {neg : Bool} {A B : ByteArray} {sc en : Int} (h : RM w w' neg A B sc en) (x : Int) : RM w (w'.setCell ⟨w.heap.size + 1, 4, none⟩ (.int .i64 x)) neg A B sc x :=
  ⟨h.1.setCell (p := ⟨w.heap.size + 1, 4, none⟩) (Nat.le_succ _) _, h.2.1.set_far (by omega), set1 h.2.2 (by simp [Array.setIfInBounds])⟩
theorem RM.drew {w w' : World} {neg : Bool} {A B : ByteArray} {sc en : Int} (h : RM w w' neg A B sc en) (n : Nat) : RM w (w'.drewN n) neg A B sc en := ⟨below_drewN h.1 n, h.2.1, h.2.2⟩

theorem RM.drew1 {w w' : World} {neg : Bool} {A B : ByteArray} {sc en : Int} (h : RM w w' neg A B sc en) : RM w w'.drew neg A B sc en := h.drew 1

def litV (neg : Bool) (A B : ByteArray) (sc en : Int) : Value := .agg #[.bool neg, .string A, .string B, .int .i64 sc, .int .i64 en]

theorem RM.put {w w' : World} {neg : Bool} {A B : ByteArray} {sc en : Int} (h : RM w w' neg A B sc en) (v0 v1 v2 v3 v4 : Value) :
    (((((w'.setCell ⟨w.heap.size, 0, none⟩ v0).setCell ⟨w.heap.size, 1, none⟩ v1).setCell ⟨w.heap.size, 2, none⟩ v2).setCell ⟨w.heap.size, 3, none⟩ v3).setCell ⟨w.heap.size, 4, none⟩ v4).heap[w.heap.size]? = some (.cells #[v0, v1, v2, v3, v4] 76 (0, 0)) ∧
    Below w.heap.size w (((((w'.setCell ⟨w.heap.size, 0, none⟩ v0).setCell ⟨w.heap.size, 1, none⟩ v1).setCell ⟨w.heap.size, 2, none⟩ v2).setCell ⟨w.heap.size, 3, none⟩ v3).setCell ⟨w.heap.size, 4, none⟩ v4) := by
  have h0 := set1 (o := 0) (v := v0) (c' := #[v0, .string ⟨#[]⟩, .string ⟨#[]⟩, .int .i64 0, .int .i64 0]) h.2.1 (by simp [Array.setIfInBounds])
  have h1 := set1 (o := 1) (v := v1) (c' := #[v0, v1, .string ⟨#[]⟩, .int .i64 0, .int .i64 0]) h0 (by simp [Array.setIfInBounds])
  have h2 := set1 (o := 2) (v := v2) (c' := #[v0, v1, v2, .int .i64 0, .int .i64 0]) h1 (by simp [Array.setIfInBounds])
  have h3 := set1 (o := 3) (v := v3) (c' := #[v0, v1, v2, v3, .int .i64 0]) h2 (by simp [Array.setIfInBounds])
  exact ⟨set1 (o := 4) (v := v4) (c' := #[v0, v1, v2, v3, v4]) h3 (by simp [Array.setIfInBounds]), ((((h.1.setCell (p := ⟨w.heap.size, 0, none⟩) (Nat.le_refl _) v0).setCell (p := ⟨w.heap.size, 1, none⟩) (Nat.le_refl _) v1).setCell (p := ⟨w.heap.size, 2, none⟩) (Nat.le_refl _) v2).setCell (p := ⟨w.heap.size, 3, none⟩) (Nat.le_refl _) v3).setCell (p := ⟨w.heap.size, 4, none⟩) (Nat.le_refl _) v4⟩

/-- What read tells. -/
def RdTold (xs : List Int) (k : Nat) (w : World) (e : Ending) (w' : World) : Prop :=
  ((Sc.some? xs k ∧ ∃ A B, e = .returned (.tuple #[litV (Sc.lit xs k).neg A B (Sc.lit xs k).sc (Sc.lit xs k).en, .bool true]) ∧ Str A (Sc.lit xs k).ah ∧ Str B (Sc.lit xs k).bh) ∨
    (¬ Sc.some? xs k ∧ e = .returned (.tuple #[litV false ⟨#[]⟩ ⟨#[]⟩ 0 0, .bool false]))) ∧ Below w.heap.size w w'

/-- What holds at each label: 0 ahead, 2 behind, 1 number, 3 exponent. -/
inductive RI (xs : List Int) (k : Nat) (w w' : World) : Nat → Nat → Value → Value → Prop
  | ahead (j : Nat) (bel : Value) (h1 : Sc.p1 xs k ≤ j) (h2 : j + Sc.run Sc.dg xs j = Sc.p2 xs k) (m : RM w w' (decide (Sc.pk xs k = 45)) ⟨#[]⟩ ⟨#[]⟩ 0 0) : RI xs k w w' 0 j bel (.int .i64 (Sc.p1 xs k : Nat))
  | behind (j : Nat) (bel : Value) (A : ByteArray) (hA : Str A (Sc.lit xs k).ah) (hp : Sc.pk xs (Sc.p2 xs k) = 46) (h1 : Sc.p2 xs k + 1 ≤ j) (h2 : j + Sc.run Sc.dg xs j = Sc.p3 xs k) (m : RM w w' (decide (Sc.pk xs k = 45)) A ⟨#[]⟩ 0 0) : RI xs k w w' 2 j bel (.int .i64 ((Sc.p2 xs k + 1 : Nat) : Int))
  | number (bel frm : Value) (A B : ByteArray) (hA : Str A (Sc.lit xs k).ah) (hB : Str B (Sc.lit xs k).bh) (m : RM w w' (decide (Sc.pk xs k = 45)) A B 0 0) : RI xs k w w' 1 (Sc.p3 xs k) bel frm
  | power (j : Nat) (frm : Value) (A B : ByteArray) (hs : Sc.some? xs k) (hA : Str A (Sc.lit xs k).ah) (hB : Str B (Sc.lit xs k).bh) (he : Sc.hasE xs (Sc.p3 xs k) = true) (h1 : Sc.p4 xs (Sc.p3 xs k) ≤ j) (h2 : j + Sc.run Sc.dg xs j = Sc.p4 xs (Sc.p3 xs k) + Sc.run Sc.dg xs (Sc.p4 xs (Sc.p3 xs k)))
      (m : RM w w' (decide (Sc.pk xs k = 45)) A B (Sc.cap ((xs.drop (Sc.p4 xs (Sc.p3 xs k))).take (j - Sc.p4 xs (Sc.p3 xs k)))) (Sc.p3 xs k : Nat)) : RI xs k w w' 3 j (.bool (decide (Sc.pk xs (Sc.p3 xs k + 1) = 45))) frm

theorem frame_all (a : Act) (h : a.tmps.size = 109) (hd : a.defers = []) : ∃ u : Nat → Value, a = { tmps := #[u 0, u 1, u 2, u 3, u 4, u 5, u 6, u 7, u 8, u 9, u 10, u 11, u 12, u 13, u 14, u 15, u 16, u 17, u 18, u 19, u 20, u 21, u 22, u 23, u 24, u 25, u 26, u 27, u 28, u 29, u 30, u 31, u 32, u 33, u 34, u 35, u 36, u 37, u 38, u 39, u 40, u 41, u 42, u 43, u 44, u 45, u 46, u 47, u 48, u 49, u 50, u 51, u 52, u 53, u 54, u 55, u 56, u 57, u 58, u 59, u 60, u 61, u 62, u 63, u 64, u 65, u 66, u 67, u 68, u 69, u 70, u 71, u 72, u 73, u 74, u 75, u 76, u 77, u 78, u 79, u 80, u 81, u 82, u 83, u 84, u 85, u 86, u 87, u 88, u 89, u 90, u 91, u 92, u 93, u 94, u 95, u 96, u 97, u 98, u 99, u 100, u 101, u 102, u 103, u 104, u 105, u 106, u 107, u 108], defers := [] } := by
  refine ⟨fun i => a.tmps.toList.getD i undef, ?_⟩
  obtain ⟨⟨l⟩, d⟩ := a
  simp only at hd h
  subst hd
  have e : l = (List.range 109).map (fun i => l.getD i undef) := by
    have h' : l.length = 109 := h
    apply List.ext_getElem
    · simp [h']
    · intro i h1 h2
      simp [List.getD, h1]
  conv => lhs; rw [e]
  rfl
def RJ (s : ByteArray) (xs : List Int) (k : Nat) (w : World) (l : Nat) (a : Act) (w' : World) : Prop :=
  a.tmps.size = 109 ∧ a.defers = [] ∧ ∃ (at_ : Int) (bel frm : Value), a.tmps.getD 0 undef = .string s ∧ a.tmps.getD 1 undef = .int .i64 at_ ∧ a.tmps.getD 4 undef = .pointer (some ⟨w.heap.size, 0, none⟩) ∧ a.tmps.getD 6 undef = .pointer (some ⟨w.heap.size + 1, 0, none⟩) ∧ a.tmps.getD 7 undef = bel ∧ a.tmps.getD 8 undef = frm ∧ ∃ j : Nat, at_ = j ∧ RI xs k w w' l j bel frm
theorem RJ.open {s : ByteArray} {xs : List Int} {k : Nat} {w : World} {l : Nat} {a : Act} {w' : World} (h : RJ s xs k w l a w') : ∃ (u : Nat → Value) (j : Nat) (bel frm : Value), a = { tmps := #[.string s, .int .i64 j, u 2, u 3, .pointer (some ⟨w.heap.size, 0, none⟩), u 5, .pointer (some ⟨w.heap.size + 1, 0, none⟩), bel, frm, u 9, u 10, u 11, u 12, u 13, u 14, u 15, u 16, u 17, u 18, u 19, u 20, u 21, u 22, u 23, u 24, u 25, u 26, u 27, u 28, u 29, u 30, u 31, u 32, u 33, u 34, u 35, u 36, u 37, u 38, u 39, u 40, u 41, u 42, u 43, u 44, u 45, u 46, u 47, u 48, u 49, u 50, u 51, u 52, u 53, u 54, u 55, u 56, u 57, u 58, u 59, u 60, u 61, u 62, u 63, u 64, u 65, u 66, u 67, u 68, u 69, u 70, u 71, u 72, u 73, u 74, u 75, u 76, u 77, u 78, u 79, u 80, u 81, u 82, u 83, u 84, u 85, u 86, u 87, u 88, u 89, u 90, u 91, u 92, u 93, u 94, u 95, u 96, u 97, u 98, u 99, u 100, u 101, u 102, u 103, u 104, u 105, u 106, u 107, u 108], defers := [] } ∧ RI xs k w w' l j bel frm := by
  obtain ⟨h1, h2, at_, bel, frm, e0, e1, e4, e6, e7, e8, j, rfl, I⟩ := h
  obtain ⟨u, rfl⟩ := frame_all a h1 h2
  refine ⟨u, j, bel, frm, ?_, I⟩
  have e0' : u 0 = .string s := e0
  have e1' : u 1 = .int .i64 j := e1
  have e4' : u 4 = .pointer (some ⟨w.heap.size, 0, none⟩) := e4
  have e6' : u 6 = .pointer (some ⟨w.heap.size + 1, 0, none⟩) := e6
  have e7' : u 7 = bel := e7
  have e8' : u 8 = frm := e8
  rw [e0', e1', e4', e6', e7', e8']

def rk : Nat → Nat
  | 0 => 3
  | 2 => 2
  | 1 => 1
  | _ => 0
def rmu (xs : List Int) (l : Nat) (a : Act) (_ : World) : Nat := rk l * (xs.length + 3) + (xs.length + 2 - (match a.tmps.getD 1 undef with | .int _ q => q.toNat | _ => 0))

theorem wp_scope_falls {P : Program} {a : Act} {w : World} {Q : Exit → Act → World → Prop} {c : Code} (J : Nat → Act → World → Prop) (μ : Nat → Act → World → Nat)
    (first : (∀ l' a' w' b', J l' a' w' → findLabel c l' = some (.seq .skip b') → b'.wp P (Exit.jumps J Q) a' w') → c.wp P (Exit.jumps J Q) a w)
    (pass : ∀ l a w, J l a w → ∃ b, findLabel c l = some (.seq .skip b) ∧ ((∀ l' a' w' b', J l' a' w' → μ l' a' w' < μ l a w → findLabel c l' = some (.seq .skip b') → b'.wp P (Exit.jumps (fun l' a' w' => J l' a' w' ∧ μ l' a' w' < μ l a w) Q) a' w') → b.wp P (Exit.jumps (fun l' a' w' => J l' a' w' ∧ μ l' a' w' < μ l a w) Q) a w)) : (Code.scope c).wp P Q a w := by
  have key : ∀ n l a w, μ l a w = n → J l a w → ∃ b, findLabel c l = some (.seq .skip b) ∧ b.wp P (Exit.jumps (fun l' a' w' => J l' a' w' ∧ μ l' a' w' < n) Q) a w := by
    intro n
    induction n using Nat.strongRecOn with
    | _ n ih =>
      intro l a w hn hJ
      obtain ⟨rest, hf, hp⟩ := pass l a w hJ
      rw [hn] at hp
      refine ⟨rest, hf, hp fun l' a' w' rest' hJ' hlt hf' => ?_⟩
      obtain ⟨r2, hf2, h2⟩ := ih _ hlt l' a' w' rfl hJ'
      rw [hf'] at hf2
      cases hf2
      refine wp_mono h2 fun e a1 w1 hq => ?_
      cases e <;> first | exact hq | exact ⟨hq.1, by have := hq.2; omega⟩
  refine wp_scope_labels J μ (first fun l' a' w' rest' hJ' hf' => ?_) fun l a w hJ => ?_
  · obtain ⟨r2, hf2, h2⟩ := key _ l' a' w' rfl hJ'
    rw [hf'] at hf2
    cases hf2
    refine wp_mono h2 fun e a1 w1 hq => ?_
    cases e <;> first | exact hq | exact hq.1
  · obtain ⟨b, hf, hb⟩ := key _ l a w rfl hJ
    exact ⟨_, hf, wp_seq (wp_skip hb)⟩

theorem rd_some {xs : List Int} {k : Nat} {w w' : World} {A B : ByteArray} {sc en : Int} (hs : Sc.some? xs k) (hA : Str A (Sc.lit xs k).ah) (hB : Str B (Sc.lit xs k).bh) (h1 : sc = (Sc.lit xs k).sc) (h2 : en = ((Sc.lit xs k).en : Nat)) (b : Below w.heap.size w w') :
    RdTold xs k w (.returned (.tuple #[.agg #[.bool (decide (Sc.pk xs k = 45)), .string A, .string B, .int .i64 sc, .int .i64 en], .bool true])) w' := by
  subst h1 h2
  exact ⟨.inl ⟨hs, A, B, rfl, hA, hB⟩, b⟩
theorem rd_none {xs : List Int} {k : Nat} {w w' : World} (hs : ¬ Sc.some? xs k) (b : Below w.heap.size w w') :
    RdTold xs k w (.returned (.tuple #[.agg #[.bool false, .string ⟨#[]⟩, .string ⟨#[]⟩, .int .i64 0, .int .i64 0], .bool false])) w' := ⟨.inr ⟨hs, rfl⟩, b⟩
theorem isE_t {x : Int} (h : Sc.isE x = true) : x = 101 ∨ x = 69 := by simpa [Sc.isE] using h
theorem isE_f {x : Int} (h : Sc.isE x = false) : x ≠ 101 ∧ x ≠ 69 := by simpa [Sc.isE] using h
theorem sc_none {xs : List Int} {k : Nat} (h : Sc.hasE xs (Sc.p3 xs k) = false) : (0 : Int) = (Sc.lit xs k).sc ∧ ((Sc.p3 xs k : Nat) : Int) = ((Sc.lit xs k).en : Nat) := by
  unfold Sc.lit; simp [h]
theorem sc_some {xs : List Int} {k : Nat} (h : Sc.hasE xs (Sc.p3 xs k) = true) : (Sc.lit xs k).sc = (if Sc.pk xs (Sc.p3 xs k + 1) = 45 then - Sc.cap ((xs.drop (Sc.p4 xs (Sc.p3 xs k))).take (Sc.run Sc.dg xs (Sc.p4 xs (Sc.p3 xs k)))) else Sc.cap ((xs.drop (Sc.p4 xs (Sc.p3 xs k))).take (Sc.run Sc.dg xs (Sc.p4 xs (Sc.p3 xs k))))) ∧ (Sc.lit xs k).en = Sc.p4 xs (Sc.p3 xs k) + Sc.run Sc.dg xs (Sc.p4 xs (Sc.p3 xs k)) := by
  unfold Sc.lit; simp [h]
theorem ah_len {xs : List Int} {k : Nat} {A : ByteArray} (hA : Str A (Sc.lit xs k).ah) : A.size = Sc.run Sc.dg xs (Sc.p1 xs k) := by
  rw [hA.size]
  have := Sc.run_le Sc.dg xs (Sc.p1 xs k)
  show ((xs.drop _).take _).length = _
  simp; omega
theorem bh_len {xs : List Int} {k : Nat} {B : ByteArray} (hB : Str B (Sc.lit xs k).bh) : B.size = Sc.bn xs k := by
  rw [hB.size]
  show ((xs.drop _).take _).length = _
  have h1 : Sc.bn xs k ≤ xs.length - (Sc.p2 xs k + 1) := by
    unfold Sc.bn
    split
    · exact Sc.run_le _ _ _
    · omega
  simp; omega
theorem cap_more {xs : List Int} {v j : Nat} (h : v ≤ j) (hj : j < xs.length) : Sc.cap ((xs.drop v).take (j + 1 - v)) = min (10 * Sc.cap ((xs.drop v).take (j - v)) + (Sc.pk xs j - 48)) 1000000000000000 := by
  have e := Sc.take_snoc (xs := xs) (v := v) (c := j - v) (by omega)
  rw [show j + 1 - v = j - v + 1 by omega, e, Sc.cap_snoc, show v + (j - v) = j by omega]
theorem cap_bd {xs : List Int} {v j : Nat} (h : v ≤ j) (hr : j + Sc.run Sc.dg xs j = v + Sc.run Sc.dg xs v) : 0 ≤ Sc.cap ((xs.drop v).take (j - v)) ∧ Sc.cap ((xs.drop v).take (j - v)) ≤ 1000000000000000 := by
  apply Sc.cap_b
  intro x hx
  obtain ⟨i, hi, rfl⟩ := List.mem_iff_getElem.1 hx
  rw [List.length_take, List.length_drop] at hi
  have := Sc.run_all (p := Sc.dg) (xs := xs) (i := v) i (by omega)
  have e : Sc.pk xs (v + i) = ((xs.drop v).take (j - v))[i] := by
    have hi2 : v + i < xs.length := by omega
    simp [Sc.pk, List.getD, hi2]
  rw [← e]; exact this
end Go.Proofs.YtbmlkfkhmaahnaaGreatDoor
