/-
  Texts put together: LSpan, VCompare, VCmpI, VCmp, VCmp2, LHolds, VItoa, LPuL.
-/
import Derived.Test.YtggikfcdecnooaaGreatDoorRG
import Derived.Test.YtggikfcdecnooaaGreatDoorVStr
import Derived.Test.YtggikfcdecnooaaGreatDoorVOrd
import Derived.Shelf.Small.Strs
import Derived.Test.YtggikfcdecnooaaGreatDoorV0
import Derived.Shelf.Strconv.Itoa3
import Derived.Shelf.Pu.ParseUintPublic10
namespace Go.Proofs.YtggikfcdecnooaaGreatDoor
open Go Go.RowKit Go.Deep

/-- A span: a double, its bounds. -/
def spanV (P A B : Sc.D) (s1 s2 s3 : ByteArray) (c : Bool) : Value := .agg #[.bool P.neg, .string s1, .int .i64 P.e, .bool A.neg, .string s2, .int .i64 A.e, .bool B.neg, .string s3, .int .i64 B.e, .bool c]
def SpanIs (v : Value) (a : Int) : Prop := ∃ s1 s2 s3, v = spanV (Sh.dd (Sh.V a)) (Sh.dd (Sh.A a)) (Sh.dd (Sh.B a)) s1 s2 s3 (decide (a % 2 = 0)) ∧ Str s1 (Sh.dd (Sh.V a)).ds ∧ Str s2 (Sh.dd (Sh.A a)).ds ∧ Str s3 (Sh.dd (Sh.B a)).ds

theorem Sh.dnP {a : Int} (h0 : 0 < a) (h1 : a < 9218868437227405312) : Ie.dnd a = a - 1 := by
  have k : ∀ x : Int, x = a ∨ x = a + 9223372036854775808 → Ie.okd x = true := by
    intro x hx
    unfold Ie.okd
    apply decide_eq_true
    omega
  have n1 : Ie.ng a = a + 9223372036854775808 := by unfold Ie.ng; rw [if_pos (by omega)]
  unfold Ie.dnd
  rw [if_neg (by rw [k a (.inl rfl)]; decide), n1]
  unfold Ie.upd
  rw [if_neg (by rw [k _ (.inr rfl)]; decide), if_neg (by omega), if_neg (by omega), if_pos (by omega)]
  unfold Ie.ng
  rw [if_neg (by omega)]
  omega
theorem dec_open {k : Nat} {vs : Array Value} {D : Sc.D} (h : ∀ wx : World, Calls Tryz.prog k vs wx fun r w' => ∃ v, r = .returned v ∧ DecIs v D ∧ Below wx.heap.size wx w') :
    ∀ wx : World, Calls Tryz.prog k vs wx fun r w' => ∃ t, r = .returned (.agg #[.bool D.neg, .string t, .int .i64 D.e]) ∧ Hid (Str t D.ds) ∧ Below wx.heap.size wx w' := by
  intro wx
  refine (h wx).mono ?_
  rintro e w' ⟨v, rfl, ⟨t, hv, ht⟩, hB⟩
  exact ⟨t, by rw [hv]; rfl, ht, hB⟩
theorem set_far {w : World} {b c o i : Nat} {v : Value} (h : b ≠ c) : (w.setCell ⟨b, o, none⟩ v).cell? ⟨c, i, none⟩ = w.cell? ⟨c, i, none⟩ := by
  simp only [World.setCell, World.cell?, Array.getElem?_modify]
  rw [if_neg h]
theorem Sh.A0 : Sh.A 0 = 0 := by rw [Sh.A, if_pos rfl]
theorem Sh.AP {a : Int} (h : 0 < a) : Sh.A a = Sh.B (a - 1) := by rw [Sh.A, if_neg (by omega)]
theorem Sh.z00 : (0 : Int) * 2 ^ ((0 : Int) + 1075).toNat * Sh.T5 = 0 := by rw [Int.zero_mul, Int.zero_mul]

set_option maxRecDepth 100000 in
set_option maxHeartbeats 1000000 in
theorem zspan_any (d : Int) (w : World) (h0 : 0 ≤ d) (h1 : d < 18446744073709551616) (hf : d % 9223372036854775808 < 9218868437227405312) :
    Calls Tryz.prog 17 #[.int .u64 d] w fun r w' => ∃ v, r = .returned v ∧ SpanIs v (d % 9223372036854775808) ∧ Below w.heap.size w w' := by
  have AB := hid (fun wx : World => abs_any d wx h0 h1)
  obtain ⟨a, ha⟩ : ∃ a, d % 9223372036854775808 = a := ⟨_, rfl⟩
  have a0 : 0 ≤ a := by omega
  rw [ha] at hf AB ⊢
  have D := hid (fun wx : World => decode_any a wx a0 (by omega))
  have E0' := fun wx : World => zexact_any 0 0 wx (by omega) (by omega) (by omega) (by omega)
  rw [Sh.z00] at E0'
  have E0 := hid (dec_open E0')
  clear E0'
  have HI := hid (dec_open (fun wx : World => zhalfway_any a wx a0 hf))
  simp only [partsOf] at D
  have G : Hid (∀ s1 s2 s3, Str s1 (Sh.dd (Sh.V a)).ds → Str s2 (Sh.dd (Sh.A a)).ds → Str s3 (Sh.dd (Sh.B a)).ds → SpanIs (spanV (Sh.dd (Sh.V a)) (Sh.dd (Sh.A a)) (Sh.dd (Sh.B a)) s1 s2 s3 (decide (a % 2 = 0))) a) := fun s1 s2 s3 g1 g2 g3 => ⟨s1, s2, s3, rfl, g1, g2, g3⟩
  have cl : (a.tmod 2 == 0) = decide (a % 2 = 0) := by rw [Int.tmod_eq_emod_of_nonneg a0]; by_cases q : a % 2 = 0 <;> simp [q]
  have TZ : Hid (Ten (w.alloc (.cells #[.bool false, .string ⟨#[]⟩, .int .i64 0, .bool false, .string ⟨#[]⟩, .int .i64 0, .bool false, .string ⟨#[]⟩, .int .i64 0, .bool false] 35)) w.heap.size (.bool false) (.string ⟨#[]⟩) (.int .i64 0) (.bool false) (.string ⟨#[]⟩) (.int .i64 0) (.bool false) (.string ⟨#[]⟩) (.int .i64 0) (.bool false)) := RB.new w 35 _
  have ZB := hid (alloc_b w (.cells #[.bool false, .string ⟨#[]⟩, .int .i64 0, .bool false, .string ⟨#[]⟩, .int .i64 0, .bool false, .string ⟨#[]⟩, .int .i64 0, .bool false] 35))
  clear ha h0 h1
  rcases (show a = 0 ∨ 0 < a by omega) with hz | hp
  · subst hz
    obtain ⟨k1, k2, k3⟩ := Sh.cls0
    rw [k1, k2, k3] at D
    rw [Sh.A0, Sh.V_zero, show decide ((0 : Int) % 2 = 0) = true from rfl] at G
    have EV := E0
    clear k1 k2 k3 hf a0
    generalize decide (9223372036854775808 ≤ (0 : Int)) = neg at *
    generalize Sh.dd 0 = DA at *
    generalize Sh.dd (Sh.B 0) = DB at *
    go_enter Tryz.func17, Tryz.ntmps17
    go_wp2_with fail
    refine (AB.out _).mono ?_
    rintro e wz ⟨rfl, hz⟩
    subst hz
    go_wp2_with fail
    refine (D.out _).mono ?_
    rintro e w1 ⟨rfl, B1⟩
    have PC : Hid ((w1.alloc (.cells #[.bool neg, .int .i64 0, .int .u64 0, .int .i64 0] 43)).cell? ⟨w1.heap.size, 2, none⟩ = some (.int .u64 0) ∧ (w1.alloc (.cells #[.bool neg, .int .i64 0, .int .u64 0, .int .i64 0] 43)).cell? ⟨w1.heap.size, 3, none⟩ = some (.int .i64 0)) := ⟨(RB.new w1 43 _).cell 2 _ rfl, (RB.new w1 43 _).cell 3 _ rfl⟩
    have HS1 : Hid (w.heap.size < w1.heap.size) := Nat.lt_of_lt_of_le (RB.lt TZ.out) B1.size
    have PC0 : Hid ((w1.alloc (.cells #[.bool neg, .int .i64 0, .int .u64 0, .int .i64 0] 43)).cell? ⟨w1.heap.size, 1, none⟩ = some (.int .i64 0)) := (RB.new w1 43 _).cell 1 _ rfl
    have HB1 := hid (B1.trans ((alloc_b w1 (.cells #[.bool neg, .int .i64 0, .int .u64 0, .int .i64 0] 43)).mono B1.size))
    clear B1 D AB
    go_wp2_with fail
    refine (E0.out _).mono ?_
    rintro e w2 ⟨t2, rfl, HT2, B2⟩
    have HB2 := hid (HB1.out.trans (B2.mono HB1.out.size))
    have PC : Hid (w2.cell? ⟨w1.heap.size, 2, none⟩ = some (.int .u64 0) ∧ w2.cell? ⟨w1.heap.size, 3, none⟩ = some (.int .i64 0)) := ⟨(B2.cell (cell_lt PC.out.1)).trans PC.out.1, (B2.cell (cell_lt PC.out.2)).trans PC.out.2⟩
    have HBs : Hid (w.heap.size < w1.heap.size ∧ w1.heap.size < w2.heap.size) := ⟨HS1.out, Nat.lt_of_lt_of_le (RB.lt (RB.new w1 43 _)) B2.size⟩
    have PC1 : Hid (w2.cell? ⟨w1.heap.size, 1, none⟩ = some (.int .i64 0)) := (B2.cell (cell_lt PC0.out)).trans PC0.out
    clear B2 E0 HB1
    have hbL := hid (HB2.out.trans ((alloc_b w2 (.cells #[.bool DA.neg, .string t2, .int .i64 DA.e] 29)).mono HB2.out.size))
    obtain ⟨SS, KS, CS, BS, MS⟩ := state (fun w' => Ten w' w.heap.size (.bool false) (.string ⟨#[]⟩) (.int .i64 0) (.bool false) (.string ⟨#[]⟩) (.int .i64 0) (.bool false) (.string ⟨#[]⟩) (.int .i64 0) (.bool false) ∧ (w'.cell? ⟨w1.heap.size, 2, none⟩ = some (.int .u64 0) ∧ w'.cell? ⟨w1.heap.size, 3, none⟩ = some (.int .i64 0)) ∧ (w'.cell? ⟨w2.heap.size, 0, none⟩ = some (.bool DA.neg) ∧ w'.cell? ⟨w2.heap.size, 1, none⟩ = some (.string t2) ∧ w'.cell? ⟨w2.heap.size, 2, none⟩ = some (.int .i64 DA.e))) w
      (Stays.and (fun _ _ g hB => RB.below g hB (RB.lt g)) (((Stays.cell _ _).and (Stays.cell _ _)).and ((Stays.cell _ _).and ((Stays.cell _ _).and (Stays.cell _ _)))))
    have P3 := FR3.new w2 (.bool DA.neg) (.string t2) (.int .i64 DA.e)
    have aL := alloc_b w2 (.cells #[.bool DA.neg, .string t2, .int .i64 DA.e] 29)
    have S0 := hid (MS.out _ ⟨RB.below TZ.out hbL.out (RB.lt TZ.out), ⟨(aL.cell (cell_lt PC.out.1)).trans PC.out.1, (aL.cell (cell_lt PC.out.2)).trans PC.out.2⟩, P3.cells.1⟩ (ZB.out.trans (hbL.out.mono ZB.out.size)))
    have lt1 : w.heap.size ≠ w1.heap.size := by have := HBs.out; omega
    have lt2 : w.heap.size ≠ w2.heap.size := by have := HBs.out; omega
    obtain ⟨g, hg⟩ : ∃ g : World → Nat → Value, Hid (∀ w' i, g w' i = (w'.cell? ⟨w.heap.size, i, none⟩).getD (.bool false)) := ⟨_, fun _ _ => rfl⟩
    have TG : Hid (∀ (wx : World) (x0 x1 x2 x3 x4 x5 x6 x7 x8 x9 : Value), Ten wx w.heap.size x0 x1 x2 x3 x4 x5 x6 x7 x8 x9 → (wx.cell? ⟨w.heap.size, 0, none⟩ = some (g wx 0) ∧ wx.frozen? ⟨w.heap.size, 0, none⟩ = false) ∧ (wx.cell? ⟨w.heap.size, 1, none⟩ = some (g wx 1) ∧ wx.frozen? ⟨w.heap.size, 1, none⟩ = false) ∧ (wx.cell? ⟨w.heap.size, 2, none⟩ = some (g wx 2) ∧ wx.frozen? ⟨w.heap.size, 2, none⟩ = false) ∧ (wx.cell? ⟨w.heap.size, 3, none⟩ = some (g wx 3) ∧ wx.frozen? ⟨w.heap.size, 3, none⟩ = false) ∧ (wx.cell? ⟨w.heap.size, 4, none⟩ = some (g wx 4) ∧ wx.frozen? ⟨w.heap.size, 4, none⟩ = false) ∧ (wx.cell? ⟨w.heap.size, 5, none⟩ = some (g wx 5) ∧ wx.frozen? ⟨w.heap.size, 5, none⟩ = false) ∧ (wx.cell? ⟨w.heap.size, 6, none⟩ = some (g wx 6) ∧ wx.frozen? ⟨w.heap.size, 6, none⟩ = false) ∧ (wx.cell? ⟨w.heap.size, 7, none⟩ = some (g wx 7) ∧ wx.frozen? ⟨w.heap.size, 7, none⟩ = false) ∧ (wx.cell? ⟨w.heap.size, 8, none⟩ = some (g wx 8) ∧ wx.frozen? ⟨w.heap.size, 8, none⟩ = false) ∧ (wx.cell? ⟨w.heap.size, 9, none⟩ = some (g wx 9) ∧ wx.frozen? ⟨w.heap.size, 9, none⟩ = false)) := by
      intro wx x0 x1 x2 x3 x4 x5 x6 x7 x8 x9 h
      have key : ∀ i v, wx.cell? ⟨w.heap.size, i, none⟩ = some v → wx.cell? ⟨w.heap.size, i, none⟩ = some (g wx i) := fun i v q => by rw [hg.out, q]; rfl
      exact ⟨⟨key 0 _ (RB.cell h 0 _ rfl), RB.free h 0⟩, ⟨key 1 _ (RB.cell h 1 _ rfl), RB.free h 1⟩, ⟨key 2 _ (RB.cell h 2 _ rfl), RB.free h 2⟩, ⟨key 3 _ (RB.cell h 3 _ rfl), RB.free h 3⟩, ⟨key 4 _ (RB.cell h 4 _ rfl), RB.free h 4⟩, ⟨key 5 _ (RB.cell h 5 _ rfl), RB.free h 5⟩, ⟨key 6 _ (RB.cell h 6 _ rfl), RB.free h 6⟩, ⟨key 7 _ (RB.cell h 7 _ rfl), RB.free h 7⟩, ⟨key 8 _ (RB.cell h 8 _ rfl), RB.free h 8⟩, ⟨key 9 _ (RB.cell h 9 _ rfl), RB.free h 9⟩⟩
    have FT : Hid (∀ wx : World, SS wx → (((wx.cell? ⟨w1.heap.size, 2, none⟩ = some (.int .u64 0) ∧ wx.cell? ⟨w1.heap.size, 3, none⟩ = some (.int .i64 0)) ∧ (wx.cell? ⟨w2.heap.size, 0, none⟩ = some (.bool DA.neg) ∧ wx.cell? ⟨w2.heap.size, 1, none⟩ = some (.string t2) ∧ wx.cell? ⟨w2.heap.size, 2, none⟩ = some (.int .i64 DA.e))) ∧ (wx.cell? ⟨w.heap.size, 0, none⟩ = some (g wx 0) ∧ wx.frozen? ⟨w.heap.size, 0, none⟩ = false) ∧ (wx.cell? ⟨w.heap.size, 1, none⟩ = some (g wx 1) ∧ wx.frozen? ⟨w.heap.size, 1, none⟩ = false) ∧ (wx.cell? ⟨w.heap.size, 2, none⟩ = some (g wx 2) ∧ wx.frozen? ⟨w.heap.size, 2, none⟩ = false) ∧ (wx.cell? ⟨w.heap.size, 3, none⟩ = some (g wx 3) ∧ wx.frozen? ⟨w.heap.size, 3, none⟩ = false) ∧ (wx.cell? ⟨w.heap.size, 4, none⟩ = some (g wx 4) ∧ wx.frozen? ⟨w.heap.size, 4, none⟩ = false) ∧ (wx.cell? ⟨w.heap.size, 5, none⟩ = some (g wx 5) ∧ wx.frozen? ⟨w.heap.size, 5, none⟩ = false) ∧ (wx.cell? ⟨w.heap.size, 6, none⟩ = some (g wx 6) ∧ wx.frozen? ⟨w.heap.size, 6, none⟩ = false) ∧ (wx.cell? ⟨w.heap.size, 7, none⟩ = some (g wx 7) ∧ wx.frozen? ⟨w.heap.size, 7, none⟩ = false) ∧ (wx.cell? ⟨w.heap.size, 8, none⟩ = some (g wx 8) ∧ wx.frozen? ⟨w.heap.size, 8, none⟩ = false) ∧ (wx.cell? ⟨w.heap.size, 9, none⟩ = some (g wx 9) ∧ wx.frozen? ⟨w.heap.size, 9, none⟩ = false))) := fun wx h => ⟨(CS.out wx h).2, TG.out wx _ _ _ _ _ _ _ _ _ _ (CS.out wx h).1⟩
    have FS : Hid (∀ (wx : World) (x0 x1 x2 x3 x4 x5 x6 x7 x8 x9 : Value), SS wx → (((((((((((((wx.setCell ⟨w.heap.size, 0, none⟩ x0).setCell ⟨w.heap.size, 1, none⟩ x1).setCell ⟨w.heap.size, 2, none⟩ x2).setCell ⟨w.heap.size, 3, none⟩ x3).setCell ⟨w.heap.size, 4, none⟩ x4).setCell ⟨w.heap.size, 5, none⟩ x5).setCell ⟨w.heap.size, 6, none⟩ x6).setCell ⟨w.heap.size, 7, none⟩ x7).setCell ⟨w.heap.size, 8, none⟩ x8).setCell ⟨w.heap.size, 9, none⟩ x9).cell? ⟨w1.heap.size, 2, none⟩ = some (.int .u64 0) ∧ ((((((((((wx.setCell ⟨w.heap.size, 0, none⟩ x0).setCell ⟨w.heap.size, 1, none⟩ x1).setCell ⟨w.heap.size, 2, none⟩ x2).setCell ⟨w.heap.size, 3, none⟩ x3).setCell ⟨w.heap.size, 4, none⟩ x4).setCell ⟨w.heap.size, 5, none⟩ x5).setCell ⟨w.heap.size, 6, none⟩ x6).setCell ⟨w.heap.size, 7, none⟩ x7).setCell ⟨w.heap.size, 8, none⟩ x8).setCell ⟨w.heap.size, 9, none⟩ x9).cell? ⟨w1.heap.size, 3, none⟩ = some (.int .i64 0)) ∧ (((((((((((wx.setCell ⟨w.heap.size, 0, none⟩ x0).setCell ⟨w.heap.size, 1, none⟩ x1).setCell ⟨w.heap.size, 2, none⟩ x2).setCell ⟨w.heap.size, 3, none⟩ x3).setCell ⟨w.heap.size, 4, none⟩ x4).setCell ⟨w.heap.size, 5, none⟩ x5).setCell ⟨w.heap.size, 6, none⟩ x6).setCell ⟨w.heap.size, 7, none⟩ x7).setCell ⟨w.heap.size, 8, none⟩ x8).setCell ⟨w.heap.size, 9, none⟩ x9).cell? ⟨w2.heap.size, 0, none⟩ = some (.bool DA.neg) ∧ ((((((((((wx.setCell ⟨w.heap.size, 0, none⟩ x0).setCell ⟨w.heap.size, 1, none⟩ x1).setCell ⟨w.heap.size, 2, none⟩ x2).setCell ⟨w.heap.size, 3, none⟩ x3).setCell ⟨w.heap.size, 4, none⟩ x4).setCell ⟨w.heap.size, 5, none⟩ x5).setCell ⟨w.heap.size, 6, none⟩ x6).setCell ⟨w.heap.size, 7, none⟩ x7).setCell ⟨w.heap.size, 8, none⟩ x8).setCell ⟨w.heap.size, 9, none⟩ x9).cell? ⟨w2.heap.size, 1, none⟩ = some (.string t2) ∧ ((((((((((wx.setCell ⟨w.heap.size, 0, none⟩ x0).setCell ⟨w.heap.size, 1, none⟩ x1).setCell ⟨w.heap.size, 2, none⟩ x2).setCell ⟨w.heap.size, 3, none⟩ x3).setCell ⟨w.heap.size, 4, none⟩ x4).setCell ⟨w.heap.size, 5, none⟩ x5).setCell ⟨w.heap.size, 6, none⟩ x6).setCell ⟨w.heap.size, 7, none⟩ x7).setCell ⟨w.heap.size, 8, none⟩ x8).setCell ⟨w.heap.size, 9, none⟩ x9).cell? ⟨w2.heap.size, 2, none⟩ = some (.int .i64 DA.e))) ∧ (((((((((((wx.setCell ⟨w.heap.size, 0, none⟩ x0).setCell ⟨w.heap.size, 1, none⟩ x1).setCell ⟨w.heap.size, 2, none⟩ x2).setCell ⟨w.heap.size, 3, none⟩ x3).setCell ⟨w.heap.size, 4, none⟩ x4).setCell ⟨w.heap.size, 5, none⟩ x5).setCell ⟨w.heap.size, 6, none⟩ x6).setCell ⟨w.heap.size, 7, none⟩ x7).setCell ⟨w.heap.size, 8, none⟩ x8).setCell ⟨w.heap.size, 9, none⟩ x9).cell? ⟨w.heap.size, 0, none⟩ = some (g ((((((((((wx.setCell ⟨w.heap.size, 0, none⟩ x0).setCell ⟨w.heap.size, 1, none⟩ x1).setCell ⟨w.heap.size, 2, none⟩ x2).setCell ⟨w.heap.size, 3, none⟩ x3).setCell ⟨w.heap.size, 4, none⟩ x4).setCell ⟨w.heap.size, 5, none⟩ x5).setCell ⟨w.heap.size, 6, none⟩ x6).setCell ⟨w.heap.size, 7, none⟩ x7).setCell ⟨w.heap.size, 8, none⟩ x8).setCell ⟨w.heap.size, 9, none⟩ x9) 0) ∧ ((((((((((wx.setCell ⟨w.heap.size, 0, none⟩ x0).setCell ⟨w.heap.size, 1, none⟩ x1).setCell ⟨w.heap.size, 2, none⟩ x2).setCell ⟨w.heap.size, 3, none⟩ x3).setCell ⟨w.heap.size, 4, none⟩ x4).setCell ⟨w.heap.size, 5, none⟩ x5).setCell ⟨w.heap.size, 6, none⟩ x6).setCell ⟨w.heap.size, 7, none⟩ x7).setCell ⟨w.heap.size, 8, none⟩ x8).setCell ⟨w.heap.size, 9, none⟩ x9).frozen? ⟨w.heap.size, 0, none⟩ = false) ∧ (((((((((((wx.setCell ⟨w.heap.size, 0, none⟩ x0).setCell ⟨w.heap.size, 1, none⟩ x1).setCell ⟨w.heap.size, 2, none⟩ x2).setCell ⟨w.heap.size, 3, none⟩ x3).setCell ⟨w.heap.size, 4, none⟩ x4).setCell ⟨w.heap.size, 5, none⟩ x5).setCell ⟨w.heap.size, 6, none⟩ x6).setCell ⟨w.heap.size, 7, none⟩ x7).setCell ⟨w.heap.size, 8, none⟩ x8).setCell ⟨w.heap.size, 9, none⟩ x9).cell? ⟨w.heap.size, 1, none⟩ = some (g ((((((((((wx.setCell ⟨w.heap.size, 0, none⟩ x0).setCell ⟨w.heap.size, 1, none⟩ x1).setCell ⟨w.heap.size, 2, none⟩ x2).setCell ⟨w.heap.size, 3, none⟩ x3).setCell ⟨w.heap.size, 4, none⟩ x4).setCell ⟨w.heap.size, 5, none⟩ x5).setCell ⟨w.heap.size, 6, none⟩ x6).setCell ⟨w.heap.size, 7, none⟩ x7).setCell ⟨w.heap.size, 8, none⟩ x8).setCell ⟨w.heap.size, 9, none⟩ x9) 1) ∧ ((((((((((wx.setCell ⟨w.heap.size, 0, none⟩ x0).setCell ⟨w.heap.size, 1, none⟩ x1).setCell ⟨w.heap.size, 2, none⟩ x2).setCell ⟨w.heap.size, 3, none⟩ x3).setCell ⟨w.heap.size, 4, none⟩ x4).setCell ⟨w.heap.size, 5, none⟩ x5).setCell ⟨w.heap.size, 6, none⟩ x6).setCell ⟨w.heap.size, 7, none⟩ x7).setCell ⟨w.heap.size, 8, none⟩ x8).setCell ⟨w.heap.size, 9, none⟩ x9).frozen? ⟨w.heap.size, 1, none⟩ = false) ∧ (((((((((((wx.setCell ⟨w.heap.size, 0, none⟩ x0).setCell ⟨w.heap.size, 1, none⟩ x1).setCell ⟨w.heap.size, 2, none⟩ x2).setCell ⟨w.heap.size, 3, none⟩ x3).setCell ⟨w.heap.size, 4, none⟩ x4).setCell ⟨w.heap.size, 5, none⟩ x5).setCell ⟨w.heap.size, 6, none⟩ x6).setCell ⟨w.heap.size, 7, none⟩ x7).setCell ⟨w.heap.size, 8, none⟩ x8).setCell ⟨w.heap.size, 9, none⟩ x9).cell? ⟨w.heap.size, 2, none⟩ = some (g ((((((((((wx.setCell ⟨w.heap.size, 0, none⟩ x0).setCell ⟨w.heap.size, 1, none⟩ x1).setCell ⟨w.heap.size, 2, none⟩ x2).setCell ⟨w.heap.size, 3, none⟩ x3).setCell ⟨w.heap.size, 4, none⟩ x4).setCell ⟨w.heap.size, 5, none⟩ x5).setCell ⟨w.heap.size, 6, none⟩ x6).setCell ⟨w.heap.size, 7, none⟩ x7).setCell ⟨w.heap.size, 8, none⟩ x8).setCell ⟨w.heap.size, 9, none⟩ x9) 2) ∧ ((((((((((wx.setCell ⟨w.heap.size, 0, none⟩ x0).setCell ⟨w.heap.size, 1, none⟩ x1).setCell ⟨w.heap.size, 2, none⟩ x2).setCell ⟨w.heap.size, 3, none⟩ x3).setCell ⟨w.heap.size, 4, none⟩ x4).setCell ⟨w.heap.size, 5, none⟩ x5).setCell ⟨w.heap.size, 6, none⟩ x6).setCell ⟨w.heap.size, 7, none⟩ x7).setCell ⟨w.heap.size, 8, none⟩ x8).setCell ⟨w.heap.size, 9, none⟩ x9).frozen? ⟨w.heap.size, 2, none⟩ = false) ∧ (((((((((((wx.setCell ⟨w.heap.size, 0, none⟩ x0).setCell ⟨w.heap.size, 1, none⟩ x1).setCell ⟨w.heap.size, 2, none⟩ x2).setCell ⟨w.heap.size, 3, none⟩ x3).setCell ⟨w.heap.size, 4, none⟩ x4).setCell ⟨w.heap.size, 5, none⟩ x5).setCell ⟨w.heap.size, 6, none⟩ x6).setCell ⟨w.heap.size, 7, none⟩ x7).setCell ⟨w.heap.size, 8, none⟩ x8).setCell ⟨w.heap.size, 9, none⟩ x9).cell? ⟨w.heap.size, 3, none⟩ = some (g ((((((((((wx.setCell ⟨w.heap.size, 0, none⟩ x0).setCell ⟨w.heap.size, 1, none⟩ x1).setCell ⟨w.heap.size, 2, none⟩ x2).setCell ⟨w.heap.size, 3, none⟩ x3).setCell ⟨w.heap.size, 4, none⟩ x4).setCell ⟨w.heap.size, 5, none⟩ x5).setCell ⟨w.heap.size, 6, none⟩ x6).setCell ⟨w.heap.size, 7, none⟩ x7).setCell ⟨w.heap.size, 8, none⟩ x8).setCell ⟨w.heap.size, 9, none⟩ x9) 3) ∧ ((((((((((wx.setCell ⟨w.heap.size, 0, none⟩ x0).setCell ⟨w.heap.size, 1, none⟩ x1).setCell ⟨w.heap.size, 2, none⟩ x2).setCell ⟨w.heap.size, 3, none⟩ x3).setCell ⟨w.heap.size, 4, none⟩ x4).setCell ⟨w.heap.size, 5, none⟩ x5).setCell ⟨w.heap.size, 6, none⟩ x6).setCell ⟨w.heap.size, 7, none⟩ x7).setCell ⟨w.heap.size, 8, none⟩ x8).setCell ⟨w.heap.size, 9, none⟩ x9).frozen? ⟨w.heap.size, 3, none⟩ = false) ∧ (((((((((((wx.setCell ⟨w.heap.size, 0, none⟩ x0).setCell ⟨w.heap.size, 1, none⟩ x1).setCell ⟨w.heap.size, 2, none⟩ x2).setCell ⟨w.heap.size, 3, none⟩ x3).setCell ⟨w.heap.size, 4, none⟩ x4).setCell ⟨w.heap.size, 5, none⟩ x5).setCell ⟨w.heap.size, 6, none⟩ x6).setCell ⟨w.heap.size, 7, none⟩ x7).setCell ⟨w.heap.size, 8, none⟩ x8).setCell ⟨w.heap.size, 9, none⟩ x9).cell? ⟨w.heap.size, 4, none⟩ = some (g ((((((((((wx.setCell ⟨w.heap.size, 0, none⟩ x0).setCell ⟨w.heap.size, 1, none⟩ x1).setCell ⟨w.heap.size, 2, none⟩ x2).setCell ⟨w.heap.size, 3, none⟩ x3).setCell ⟨w.heap.size, 4, none⟩ x4).setCell ⟨w.heap.size, 5, none⟩ x5).setCell ⟨w.heap.size, 6, none⟩ x6).setCell ⟨w.heap.size, 7, none⟩ x7).setCell ⟨w.heap.size, 8, none⟩ x8).setCell ⟨w.heap.size, 9, none⟩ x9) 4) ∧ ((((((((((wx.setCell ⟨w.heap.size, 0, none⟩ x0).setCell ⟨w.heap.size, 1, none⟩ x1).setCell ⟨w.heap.size, 2, none⟩ x2).setCell ⟨w.heap.size, 3, none⟩ x3).setCell ⟨w.heap.size, 4, none⟩ x4).setCell ⟨w.heap.size, 5, none⟩ x5).setCell ⟨w.heap.size, 6, none⟩ x6).setCell ⟨w.heap.size, 7, none⟩ x7).setCell ⟨w.heap.size, 8, none⟩ x8).setCell ⟨w.heap.size, 9, none⟩ x9).frozen? ⟨w.heap.size, 4, none⟩ = false) ∧ (((((((((((wx.setCell ⟨w.heap.size, 0, none⟩ x0).setCell ⟨w.heap.size, 1, none⟩ x1).setCell ⟨w.heap.size, 2, none⟩ x2).setCell ⟨w.heap.size, 3, none⟩ x3).setCell ⟨w.heap.size, 4, none⟩ x4).setCell ⟨w.heap.size, 5, none⟩ x5).setCell ⟨w.heap.size, 6, none⟩ x6).setCell ⟨w.heap.size, 7, none⟩ x7).setCell ⟨w.heap.size, 8, none⟩ x8).setCell ⟨w.heap.size, 9, none⟩ x9).cell? ⟨w.heap.size, 5, none⟩ = some (g ((((((((((wx.setCell ⟨w.heap.size, 0, none⟩ x0).setCell ⟨w.heap.size, 1, none⟩ x1).setCell ⟨w.heap.size, 2, none⟩ x2).setCell ⟨w.heap.size, 3, none⟩ x3).setCell ⟨w.heap.size, 4, none⟩ x4).setCell ⟨w.heap.size, 5, none⟩ x5).setCell ⟨w.heap.size, 6, none⟩ x6).setCell ⟨w.heap.size, 7, none⟩ x7).setCell ⟨w.heap.size, 8, none⟩ x8).setCell ⟨w.heap.size, 9, none⟩ x9) 5) ∧ ((((((((((wx.setCell ⟨w.heap.size, 0, none⟩ x0).setCell ⟨w.heap.size, 1, none⟩ x1).setCell ⟨w.heap.size, 2, none⟩ x2).setCell ⟨w.heap.size, 3, none⟩ x3).setCell ⟨w.heap.size, 4, none⟩ x4).setCell ⟨w.heap.size, 5, none⟩ x5).setCell ⟨w.heap.size, 6, none⟩ x6).setCell ⟨w.heap.size, 7, none⟩ x7).setCell ⟨w.heap.size, 8, none⟩ x8).setCell ⟨w.heap.size, 9, none⟩ x9).frozen? ⟨w.heap.size, 5, none⟩ = false) ∧ (((((((((((wx.setCell ⟨w.heap.size, 0, none⟩ x0).setCell ⟨w.heap.size, 1, none⟩ x1).setCell ⟨w.heap.size, 2, none⟩ x2).setCell ⟨w.heap.size, 3, none⟩ x3).setCell ⟨w.heap.size, 4, none⟩ x4).setCell ⟨w.heap.size, 5, none⟩ x5).setCell ⟨w.heap.size, 6, none⟩ x6).setCell ⟨w.heap.size, 7, none⟩ x7).setCell ⟨w.heap.size, 8, none⟩ x8).setCell ⟨w.heap.size, 9, none⟩ x9).cell? ⟨w.heap.size, 6, none⟩ = some (g ((((((((((wx.setCell ⟨w.heap.size, 0, none⟩ x0).setCell ⟨w.heap.size, 1, none⟩ x1).setCell ⟨w.heap.size, 2, none⟩ x2).setCell ⟨w.heap.size, 3, none⟩ x3).setCell ⟨w.heap.size, 4, none⟩ x4).setCell ⟨w.heap.size, 5, none⟩ x5).setCell ⟨w.heap.size, 6, none⟩ x6).setCell ⟨w.heap.size, 7, none⟩ x7).setCell ⟨w.heap.size, 8, none⟩ x8).setCell ⟨w.heap.size, 9, none⟩ x9) 6) ∧ ((((((((((wx.setCell ⟨w.heap.size, 0, none⟩ x0).setCell ⟨w.heap.size, 1, none⟩ x1).setCell ⟨w.heap.size, 2, none⟩ x2).setCell ⟨w.heap.size, 3, none⟩ x3).setCell ⟨w.heap.size, 4, none⟩ x4).setCell ⟨w.heap.size, 5, none⟩ x5).setCell ⟨w.heap.size, 6, none⟩ x6).setCell ⟨w.heap.size, 7, none⟩ x7).setCell ⟨w.heap.size, 8, none⟩ x8).setCell ⟨w.heap.size, 9, none⟩ x9).frozen? ⟨w.heap.size, 6, none⟩ = false) ∧ (((((((((((wx.setCell ⟨w.heap.size, 0, none⟩ x0).setCell ⟨w.heap.size, 1, none⟩ x1).setCell ⟨w.heap.size, 2, none⟩ x2).setCell ⟨w.heap.size, 3, none⟩ x3).setCell ⟨w.heap.size, 4, none⟩ x4).setCell ⟨w.heap.size, 5, none⟩ x5).setCell ⟨w.heap.size, 6, none⟩ x6).setCell ⟨w.heap.size, 7, none⟩ x7).setCell ⟨w.heap.size, 8, none⟩ x8).setCell ⟨w.heap.size, 9, none⟩ x9).cell? ⟨w.heap.size, 7, none⟩ = some (g ((((((((((wx.setCell ⟨w.heap.size, 0, none⟩ x0).setCell ⟨w.heap.size, 1, none⟩ x1).setCell ⟨w.heap.size, 2, none⟩ x2).setCell ⟨w.heap.size, 3, none⟩ x3).setCell ⟨w.heap.size, 4, none⟩ x4).setCell ⟨w.heap.size, 5, none⟩ x5).setCell ⟨w.heap.size, 6, none⟩ x6).setCell ⟨w.heap.size, 7, none⟩ x7).setCell ⟨w.heap.size, 8, none⟩ x8).setCell ⟨w.heap.size, 9, none⟩ x9) 7) ∧ ((((((((((wx.setCell ⟨w.heap.size, 0, none⟩ x0).setCell ⟨w.heap.size, 1, none⟩ x1).setCell ⟨w.heap.size, 2, none⟩ x2).setCell ⟨w.heap.size, 3, none⟩ x3).setCell ⟨w.heap.size, 4, none⟩ x4).setCell ⟨w.heap.size, 5, none⟩ x5).setCell ⟨w.heap.size, 6, none⟩ x6).setCell ⟨w.heap.size, 7, none⟩ x7).setCell ⟨w.heap.size, 8, none⟩ x8).setCell ⟨w.heap.size, 9, none⟩ x9).frozen? ⟨w.heap.size, 7, none⟩ = false) ∧ (((((((((((wx.setCell ⟨w.heap.size, 0, none⟩ x0).setCell ⟨w.heap.size, 1, none⟩ x1).setCell ⟨w.heap.size, 2, none⟩ x2).setCell ⟨w.heap.size, 3, none⟩ x3).setCell ⟨w.heap.size, 4, none⟩ x4).setCell ⟨w.heap.size, 5, none⟩ x5).setCell ⟨w.heap.size, 6, none⟩ x6).setCell ⟨w.heap.size, 7, none⟩ x7).setCell ⟨w.heap.size, 8, none⟩ x8).setCell ⟨w.heap.size, 9, none⟩ x9).cell? ⟨w.heap.size, 8, none⟩ = some (g ((((((((((wx.setCell ⟨w.heap.size, 0, none⟩ x0).setCell ⟨w.heap.size, 1, none⟩ x1).setCell ⟨w.heap.size, 2, none⟩ x2).setCell ⟨w.heap.size, 3, none⟩ x3).setCell ⟨w.heap.size, 4, none⟩ x4).setCell ⟨w.heap.size, 5, none⟩ x5).setCell ⟨w.heap.size, 6, none⟩ x6).setCell ⟨w.heap.size, 7, none⟩ x7).setCell ⟨w.heap.size, 8, none⟩ x8).setCell ⟨w.heap.size, 9, none⟩ x9) 8) ∧ ((((((((((wx.setCell ⟨w.heap.size, 0, none⟩ x0).setCell ⟨w.heap.size, 1, none⟩ x1).setCell ⟨w.heap.size, 2, none⟩ x2).setCell ⟨w.heap.size, 3, none⟩ x3).setCell ⟨w.heap.size, 4, none⟩ x4).setCell ⟨w.heap.size, 5, none⟩ x5).setCell ⟨w.heap.size, 6, none⟩ x6).setCell ⟨w.heap.size, 7, none⟩ x7).setCell ⟨w.heap.size, 8, none⟩ x8).setCell ⟨w.heap.size, 9, none⟩ x9).frozen? ⟨w.heap.size, 8, none⟩ = false) ∧ (((((((((((wx.setCell ⟨w.heap.size, 0, none⟩ x0).setCell ⟨w.heap.size, 1, none⟩ x1).setCell ⟨w.heap.size, 2, none⟩ x2).setCell ⟨w.heap.size, 3, none⟩ x3).setCell ⟨w.heap.size, 4, none⟩ x4).setCell ⟨w.heap.size, 5, none⟩ x5).setCell ⟨w.heap.size, 6, none⟩ x6).setCell ⟨w.heap.size, 7, none⟩ x7).setCell ⟨w.heap.size, 8, none⟩ x8).setCell ⟨w.heap.size, 9, none⟩ x9).cell? ⟨w.heap.size, 9, none⟩ = some (g ((((((((((wx.setCell ⟨w.heap.size, 0, none⟩ x0).setCell ⟨w.heap.size, 1, none⟩ x1).setCell ⟨w.heap.size, 2, none⟩ x2).setCell ⟨w.heap.size, 3, none⟩ x3).setCell ⟨w.heap.size, 4, none⟩ x4).setCell ⟨w.heap.size, 5, none⟩ x5).setCell ⟨w.heap.size, 6, none⟩ x6).setCell ⟨w.heap.size, 7, none⟩ x7).setCell ⟨w.heap.size, 8, none⟩ x8).setCell ⟨w.heap.size, 9, none⟩ x9) 9) ∧ ((((((((((wx.setCell ⟨w.heap.size, 0, none⟩ x0).setCell ⟨w.heap.size, 1, none⟩ x1).setCell ⟨w.heap.size, 2, none⟩ x2).setCell ⟨w.heap.size, 3, none⟩ x3).setCell ⟨w.heap.size, 4, none⟩ x4).setCell ⟨w.heap.size, 5, none⟩ x5).setCell ⟨w.heap.size, 6, none⟩ x6).setCell ⟨w.heap.size, 7, none⟩ x7).setCell ⟨w.heap.size, 8, none⟩ x8).setCell ⟨w.heap.size, 9, none⟩ x9).frozen? ⟨w.heap.size, 9, none⟩ = false))) := fun wx x0 x1 x2 x3 x4 x5 x6 x7 x8 x9 h => by
      obtain ⟨⟨p2, p3⟩, q0, q1, q2⟩ := (CS.out wx h).2
      refine ⟨⟨⟨?_, ?_⟩, ?_, ?_, ?_⟩, TG.out _ _ _ _ _ _ _ _ _ _ _ (Ten.put (CS.out wx h).1 x0 x1 x2 x3 x4 x5 x6 x7 x8 x9)⟩
      · simp only [set_far lt1]; exact p2
      · simp only [set_far lt1]; exact p3
      · simp only [set_far lt2]; exact q0
      · simp only [set_far lt2]; exact q1
      · simp only [set_far lt2]; exact q2
    have TT : Hid (∀ wx : World, SS wx → Ten wx w.heap.size (.bool false) (.string ⟨#[]⟩) (.int .i64 0) (.bool false) (.string ⟨#[]⟩) (.int .i64 0) (.bool false) (.string ⟨#[]⟩) (.int .i64 0) (.bool false)) := fun wx h => (CS.out wx h).1
    have pc1 := (aL.cell (cell_lt PC1.out)).trans PC1.out
    clear P3 aL hbL HB2 ZB MS TZ PC CS lt1 lt2 TG hg
    go_upto_region 6 with fail
    generalize w2.alloc (.cells #[.bool DA.neg, .string t2, .int .i64 DA.e] 29) = wL at *
    have T0 := hid (KS.out _ _ S0.out (drew_nil _))
    clear S0
    go_region_held3 (fun w' => ((w'.cell? ⟨w1.heap.size, 2, none⟩ = some (.int .u64 0) ∧ w'.cell? ⟨w1.heap.size, 3, none⟩ = some (.int .i64 0)) ∧ (w'.cell? ⟨w2.heap.size, 0, none⟩ = some (.bool DA.neg) ∧ w'.cell? ⟨w2.heap.size, 1, none⟩ = some (.string t2) ∧ w'.cell? ⟨w2.heap.size, 2, none⟩ = some (.int .i64 DA.e))) ∧ (w'.cell? ⟨w.heap.size, 0, none⟩ = some (g w' 0) ∧ w'.frozen? ⟨w.heap.size, 0, none⟩ = false) ∧ (w'.cell? ⟨w.heap.size, 1, none⟩ = some (g w' 1) ∧ w'.frozen? ⟨w.heap.size, 1, none⟩ = false) ∧ (w'.cell? ⟨w.heap.size, 2, none⟩ = some (g w' 2) ∧ w'.frozen? ⟨w.heap.size, 2, none⟩ = false) ∧ (w'.cell? ⟨w.heap.size, 3, none⟩ = some (g w' 3) ∧ w'.frozen? ⟨w.heap.size, 3, none⟩ = false) ∧ (w'.cell? ⟨w.heap.size, 4, none⟩ = some (g w' 4) ∧ w'.frozen? ⟨w.heap.size, 4, none⟩ = false) ∧ (w'.cell? ⟨w.heap.size, 5, none⟩ = some (g w' 5) ∧ w'.frozen? ⟨w.heap.size, 5, none⟩ = false) ∧ (w'.cell? ⟨w.heap.size, 6, none⟩ = some (g w' 6) ∧ w'.frozen? ⟨w.heap.size, 6, none⟩ = false) ∧ (w'.cell? ⟨w.heap.size, 7, none⟩ = some (g w' 7) ∧ w'.frozen? ⟨w.heap.size, 7, none⟩ = false) ∧ (w'.cell? ⟨w.heap.size, 8, none⟩ = some (g w' 8) ∧ w'.frozen? ⟨w.heap.size, 8, none⟩ = false) ∧ (w'.cell? ⟨w.heap.size, 9, none⟩ = some (g w' 9) ∧ w'.frozen? ⟨w.heap.size, 9, none⟩ = false)) (first | (with_reducible exact FS.out _ _ _ _ _ _ _ _ _ _ _ T2.out) | (with_reducible exact FT.out _ T2.out) | (with_reducible exact FT.out _ T1.out) | (with_reducible exact FT.out _ T0.out)) (first
      | (go_at_call 29; with_reducible refine (EV.out _).mono ?_; rintro e w5 ⟨t1, rfl, HT1, hB⟩; (first | (have T2 := hid (KS.out _ _ T1.out hB); clear hB) | (have T1 := hid (KS.out _ _ T0.out hB); clear hB)))
      | (go_at_call 30; with_reducible refine (HI.out _).mono ?_; rintro e w5 ⟨t3, rfl, HT3, hB⟩; (first | (have T2 := hid (KS.out _ _ T1.out hB); clear hB) | (have T1 := hid (KS.out _ _ T0.out hB); clear hB))))
    have KV := hid (G.out t1 t2 t3 HT1.out HT2.out HT3.out)
    have KB := hid (BS.out _ T2.out)
    have KT := hid (TT.out _ T2.out)
    clear HT1 HT2 HT3 FT FS TT T0 T1 T2 KS BS G HI EV
    go_wp2_with fail
    (try simp only [Exit.inBlock, Exit.then])
    refine bodyPost_ret (results_cell_row rfl _ _ w.heap.size 35 _ (0, 0) _ rfl (KT.out.put _ _ _ _ _ _ _ _ _ _) Tryz.underlying35 rfl (by kernel_rfl)) rfl ?_
    exact ⟨_, rfl, KV.out, set10_below KB.out (Nat.le_refl _)⟩
  · obtain ⟨k2, k3⟩ := Ie.dec_fin2 a hp hf
    obtain ⟨k4, k5⟩ := Sh.clsP hp hf
    have xb := Sh.ex_le hf
    have mb := Ie.man_nn a a0
    rw [k2, k3] at D
    have EV' := fun wx : World => zexact_any (Ie.man a) ((Ie.ex a : Int) - 1074) wx mb.1 (by omega) (by omega) (by omega)
    rw [Sh.zV] at EV'
    have EV := hid (dec_open EV')
    have DN := hid (fun wx : World => down_any a wx a0 (by omega))
    rw [Sh.dnP hp hf] at DN
    have HL' := fun wx : World => zhalfway_any (a - 1) wx (by omega) (by omega)
    rw [← Sh.AP hp] at HL'
    have HL := hid (dec_open HL')
    clear EV' HL' k2 k3 xb mb k4
    generalize decide (9223372036854775808 ≤ a) = neg at *
    generalize decide (a % 2 = 0) = cb at *
    generalize Sh.dd 0 = D0 at *
    generalize Sh.dd (Sh.V a) = DV at *
    generalize Sh.dd (Sh.A a) = DA at *
    generalize Sh.dd (Sh.B a) = DB at *
    generalize Ie.cls a = c at *
    generalize Ie.man a = m at *
    generalize (Ie.ex a : Int) - 1074 = x at *
    go_enter Tryz.func17, Tryz.ntmps17
    go_wp2_with fail
    refine (AB.out _).mono ?_
    rintro e wz ⟨rfl, hz⟩
    subst hz
    go_wp2_with fail
    refine (D.out _).mono ?_
    rintro e w1 ⟨rfl, B1⟩
    have PC : Hid ((w1.alloc (.cells #[.bool neg, .int .i64 c, .int .u64 m, .int .i64 x] 43)).cell? ⟨w1.heap.size, 2, none⟩ = some (.int .u64 m) ∧ (w1.alloc (.cells #[.bool neg, .int .i64 c, .int .u64 m, .int .i64 x] 43)).cell? ⟨w1.heap.size, 3, none⟩ = some (.int .i64 x)) := ⟨(RB.new w1 43 _).cell 2 _ rfl, (RB.new w1 43 _).cell 3 _ rfl⟩
    have HS1 : Hid (w.heap.size < w1.heap.size) := Nat.lt_of_lt_of_le (RB.lt TZ.out) B1.size
    have PC0 : Hid ((w1.alloc (.cells #[.bool neg, .int .i64 c, .int .u64 m, .int .i64 x] 43)).cell? ⟨w1.heap.size, 1, none⟩ = some (.int .i64 c)) := (RB.new w1 43 _).cell 1 _ rfl
    have HB1 := hid (B1.trans ((alloc_b w1 (.cells #[.bool neg, .int .i64 c, .int .u64 m, .int .i64 x] 43)).mono B1.size))
    clear B1 D AB
    go_wp2_with fail
    refine (E0.out _).mono ?_
    rintro e w2 ⟨t0, rfl, HT0, B2⟩
    have HB2 := hid (HB1.out.trans (B2.mono HB1.out.size))
    have PC : Hid (w2.cell? ⟨w1.heap.size, 2, none⟩ = some (.int .u64 m) ∧ w2.cell? ⟨w1.heap.size, 3, none⟩ = some (.int .i64 x)) := ⟨(B2.cell (cell_lt PC.out.1)).trans PC.out.1, (B2.cell (cell_lt PC.out.2)).trans PC.out.2⟩
    have HBs : Hid (w.heap.size < w1.heap.size ∧ w1.heap.size < w2.heap.size) := ⟨HS1.out, Nat.lt_of_lt_of_le (RB.lt (RB.new w1 43 _)) B2.size⟩
    have PC1 : Hid (w2.cell? ⟨w1.heap.size, 1, none⟩ = some (.int .i64 c)) := (B2.cell (cell_lt PC0.out)).trans PC0.out
    have aL := alloc_b w2 (.cells #[.bool D0.neg, .string t0, .int .i64 D0.e] 29)
    have pc1 := (aL.cell (cell_lt PC1.out)).trans PC1.out
    have P3 := hid (FR3.new w2 (.bool D0.neg) (.string t0) (.int .i64 D0.e))
    have HBL := hid (HB2.out.trans (aL.mono HB2.out.size))
    have PCL : Hid ((w2.alloc (.cells #[.bool D0.neg, .string t0, .int .i64 D0.e] 29)).cell? ⟨w1.heap.size, 2, none⟩ = some (.int .u64 m) ∧ (w2.alloc (.cells #[.bool D0.neg, .string t0, .int .i64 D0.e] 29)).cell? ⟨w1.heap.size, 3, none⟩ = some (.int .i64 x)) := ⟨(aL.cell (cell_lt PC.out.1)).trans PC.out.1, (aL.cell (cell_lt PC.out.2)).trans PC.out.2⟩
    clear B2 E0 HB1 aL PC PC0 PC1 HB2 HT0
    go_wp2_with fail
    refine (DN.out _).mono ?_
    rintro e wz ⟨rfl, hz⟩
    subst hz
    go_wp2_with fail
    refine (HL.out _).mono ?_
    rintro e w3 ⟨t2, rfl, HT2, B3⟩
    have HB3 := hid (HBL.out.trans (B3.mono HBL.out.size))
    have R3 := hid (P3.out.below B3 P3.out.lt)
    have PC : Hid (w3.cell? ⟨w1.heap.size, 2, none⟩ = some (.int .u64 m) ∧ w3.cell? ⟨w1.heap.size, 3, none⟩ = some (.int .i64 x)) := ⟨(B3.cell (cell_lt PCL.out.1)).trans PCL.out.1, (B3.cell (cell_lt PCL.out.2)).trans PCL.out.2⟩
    obtain ⟨⟨lc0, lc1, lc2⟩, lf0, lf1, lf2⟩ := R3.out.cells
    clear B3 PCL P3 HL DN pc1
    have lt3 : w2.heap.size ≠ w1.heap.size := by have := HBs.out; omega
    have hbL : Hid (Below w.heap.size w (((w3.setCell ⟨w2.heap.size, 0, none⟩ (.bool DA.neg)).setCell ⟨w2.heap.size, 1, none⟩ (.string t2)).setCell ⟨w2.heap.size, 2, none⟩ (.int .i64 DA.e))) := fset3_below (ZB.out.trans (HB3.out.mono ZB.out.size)) (by have := HBs.out; omega)
    have TL : Hid (Ten (((w3.setCell ⟨w2.heap.size, 0, none⟩ (.bool DA.neg)).setCell ⟨w2.heap.size, 1, none⟩ (.string t2)).setCell ⟨w2.heap.size, 2, none⟩ (.int .i64 DA.e)) w.heap.size (.bool false) (.string ⟨#[]⟩) (.int .i64 0) (.bool false) (.string ⟨#[]⟩) (.int .i64 0) (.bool false) (.string ⟨#[]⟩) (.int .i64 0) (.bool false)) :=
      RB.far (RB.far (RB.far (RB.below TZ.out HB3.out (RB.lt TZ.out)) (by have := HBs.out; omega)) (by have := HBs.out; omega)) (by have := HBs.out; omega)
    obtain ⟨SS, KS, CS, BS, MS⟩ := state (fun w' => Ten w' w.heap.size (.bool false) (.string ⟨#[]⟩) (.int .i64 0) (.bool false) (.string ⟨#[]⟩) (.int .i64 0) (.bool false) (.string ⟨#[]⟩) (.int .i64 0) (.bool false) ∧ (w'.cell? ⟨w1.heap.size, 2, none⟩ = some (.int .u64 m) ∧ w'.cell? ⟨w1.heap.size, 3, none⟩ = some (.int .i64 x)) ∧ (w'.cell? ⟨w2.heap.size, 0, none⟩ = some (.bool DA.neg) ∧ w'.cell? ⟨w2.heap.size, 1, none⟩ = some (.string t2) ∧ w'.cell? ⟨w2.heap.size, 2, none⟩ = some (.int .i64 DA.e))) w
      (Stays.and (fun _ _ g hB => RB.below g hB (RB.lt g)) (((Stays.cell _ _).and (Stays.cell _ _)).and ((Stays.cell _ _).and ((Stays.cell _ _).and (Stays.cell _ _)))))
    have S0 := hid (MS.out _ ⟨TL.out, ⟨by simp only [set_far lt3]; exact PC.out.1, by simp only [set_far lt3]; exact PC.out.2⟩, (R3.out.put _ _ _).cells.1⟩ hbL.out)
    have lt1 : w.heap.size ≠ w1.heap.size := by have := HBs.out; omega
    have lt2 : w.heap.size ≠ w2.heap.size := by have := HBs.out; omega
    obtain ⟨g, hg⟩ : ∃ g : World → Nat → Value, Hid (∀ w' i, g w' i = (w'.cell? ⟨w.heap.size, i, none⟩).getD (.bool false)) := ⟨_, fun _ _ => rfl⟩
    have TG : Hid (∀ (wx : World) (x0 x1 x2 x3 x4 x5 x6 x7 x8 x9 : Value), Ten wx w.heap.size x0 x1 x2 x3 x4 x5 x6 x7 x8 x9 → (wx.cell? ⟨w.heap.size, 0, none⟩ = some (g wx 0) ∧ wx.frozen? ⟨w.heap.size, 0, none⟩ = false) ∧ (wx.cell? ⟨w.heap.size, 1, none⟩ = some (g wx 1) ∧ wx.frozen? ⟨w.heap.size, 1, none⟩ = false) ∧ (wx.cell? ⟨w.heap.size, 2, none⟩ = some (g wx 2) ∧ wx.frozen? ⟨w.heap.size, 2, none⟩ = false) ∧ (wx.cell? ⟨w.heap.size, 3, none⟩ = some (g wx 3) ∧ wx.frozen? ⟨w.heap.size, 3, none⟩ = false) ∧ (wx.cell? ⟨w.heap.size, 4, none⟩ = some (g wx 4) ∧ wx.frozen? ⟨w.heap.size, 4, none⟩ = false) ∧ (wx.cell? ⟨w.heap.size, 5, none⟩ = some (g wx 5) ∧ wx.frozen? ⟨w.heap.size, 5, none⟩ = false) ∧ (wx.cell? ⟨w.heap.size, 6, none⟩ = some (g wx 6) ∧ wx.frozen? ⟨w.heap.size, 6, none⟩ = false) ∧ (wx.cell? ⟨w.heap.size, 7, none⟩ = some (g wx 7) ∧ wx.frozen? ⟨w.heap.size, 7, none⟩ = false) ∧ (wx.cell? ⟨w.heap.size, 8, none⟩ = some (g wx 8) ∧ wx.frozen? ⟨w.heap.size, 8, none⟩ = false) ∧ (wx.cell? ⟨w.heap.size, 9, none⟩ = some (g wx 9) ∧ wx.frozen? ⟨w.heap.size, 9, none⟩ = false)) := by
      intro wx x0 x1 x2 x3 x4 x5 x6 x7 x8 x9 h
      have key : ∀ i v, wx.cell? ⟨w.heap.size, i, none⟩ = some v → wx.cell? ⟨w.heap.size, i, none⟩ = some (g wx i) := fun i v q => by rw [hg.out, q]; rfl
      exact ⟨⟨key 0 _ (RB.cell h 0 _ rfl), RB.free h 0⟩, ⟨key 1 _ (RB.cell h 1 _ rfl), RB.free h 1⟩, ⟨key 2 _ (RB.cell h 2 _ rfl), RB.free h 2⟩, ⟨key 3 _ (RB.cell h 3 _ rfl), RB.free h 3⟩, ⟨key 4 _ (RB.cell h 4 _ rfl), RB.free h 4⟩, ⟨key 5 _ (RB.cell h 5 _ rfl), RB.free h 5⟩, ⟨key 6 _ (RB.cell h 6 _ rfl), RB.free h 6⟩, ⟨key 7 _ (RB.cell h 7 _ rfl), RB.free h 7⟩, ⟨key 8 _ (RB.cell h 8 _ rfl), RB.free h 8⟩, ⟨key 9 _ (RB.cell h 9 _ rfl), RB.free h 9⟩⟩
    have FT : Hid (∀ wx : World, SS wx → (((wx.cell? ⟨w1.heap.size, 2, none⟩ = some (.int .u64 m) ∧ wx.cell? ⟨w1.heap.size, 3, none⟩ = some (.int .i64 x)) ∧ (wx.cell? ⟨w2.heap.size, 0, none⟩ = some (.bool DA.neg) ∧ wx.cell? ⟨w2.heap.size, 1, none⟩ = some (.string t2) ∧ wx.cell? ⟨w2.heap.size, 2, none⟩ = some (.int .i64 DA.e))) ∧ (wx.cell? ⟨w.heap.size, 0, none⟩ = some (g wx 0) ∧ wx.frozen? ⟨w.heap.size, 0, none⟩ = false) ∧ (wx.cell? ⟨w.heap.size, 1, none⟩ = some (g wx 1) ∧ wx.frozen? ⟨w.heap.size, 1, none⟩ = false) ∧ (wx.cell? ⟨w.heap.size, 2, none⟩ = some (g wx 2) ∧ wx.frozen? ⟨w.heap.size, 2, none⟩ = false) ∧ (wx.cell? ⟨w.heap.size, 3, none⟩ = some (g wx 3) ∧ wx.frozen? ⟨w.heap.size, 3, none⟩ = false) ∧ (wx.cell? ⟨w.heap.size, 4, none⟩ = some (g wx 4) ∧ wx.frozen? ⟨w.heap.size, 4, none⟩ = false) ∧ (wx.cell? ⟨w.heap.size, 5, none⟩ = some (g wx 5) ∧ wx.frozen? ⟨w.heap.size, 5, none⟩ = false) ∧ (wx.cell? ⟨w.heap.size, 6, none⟩ = some (g wx 6) ∧ wx.frozen? ⟨w.heap.size, 6, none⟩ = false) ∧ (wx.cell? ⟨w.heap.size, 7, none⟩ = some (g wx 7) ∧ wx.frozen? ⟨w.heap.size, 7, none⟩ = false) ∧ (wx.cell? ⟨w.heap.size, 8, none⟩ = some (g wx 8) ∧ wx.frozen? ⟨w.heap.size, 8, none⟩ = false) ∧ (wx.cell? ⟨w.heap.size, 9, none⟩ = some (g wx 9) ∧ wx.frozen? ⟨w.heap.size, 9, none⟩ = false))) := fun wx h => ⟨(CS.out wx h).2, TG.out wx _ _ _ _ _ _ _ _ _ _ (CS.out wx h).1⟩
    have FS : Hid (∀ (wx : World) (x0 x1 x2 x3 x4 x5 x6 x7 x8 x9 : Value), SS wx → (((((((((((((wx.setCell ⟨w.heap.size, 0, none⟩ x0).setCell ⟨w.heap.size, 1, none⟩ x1).setCell ⟨w.heap.size, 2, none⟩ x2).setCell ⟨w.heap.size, 3, none⟩ x3).setCell ⟨w.heap.size, 4, none⟩ x4).setCell ⟨w.heap.size, 5, none⟩ x5).setCell ⟨w.heap.size, 6, none⟩ x6).setCell ⟨w.heap.size, 7, none⟩ x7).setCell ⟨w.heap.size, 8, none⟩ x8).setCell ⟨w.heap.size, 9, none⟩ x9).cell? ⟨w1.heap.size, 2, none⟩ = some (.int .u64 m) ∧ ((((((((((wx.setCell ⟨w.heap.size, 0, none⟩ x0).setCell ⟨w.heap.size, 1, none⟩ x1).setCell ⟨w.heap.size, 2, none⟩ x2).setCell ⟨w.heap.size, 3, none⟩ x3).setCell ⟨w.heap.size, 4, none⟩ x4).setCell ⟨w.heap.size, 5, none⟩ x5).setCell ⟨w.heap.size, 6, none⟩ x6).setCell ⟨w.heap.size, 7, none⟩ x7).setCell ⟨w.heap.size, 8, none⟩ x8).setCell ⟨w.heap.size, 9, none⟩ x9).cell? ⟨w1.heap.size, 3, none⟩ = some (.int .i64 x)) ∧ (((((((((((wx.setCell ⟨w.heap.size, 0, none⟩ x0).setCell ⟨w.heap.size, 1, none⟩ x1).setCell ⟨w.heap.size, 2, none⟩ x2).setCell ⟨w.heap.size, 3, none⟩ x3).setCell ⟨w.heap.size, 4, none⟩ x4).setCell ⟨w.heap.size, 5, none⟩ x5).setCell ⟨w.heap.size, 6, none⟩ x6).setCell ⟨w.heap.size, 7, none⟩ x7).setCell ⟨w.heap.size, 8, none⟩ x8).setCell ⟨w.heap.size, 9, none⟩ x9).cell? ⟨w2.heap.size, 0, none⟩ = some (.bool DA.neg) ∧ ((((((((((wx.setCell ⟨w.heap.size, 0, none⟩ x0).setCell ⟨w.heap.size, 1, none⟩ x1).setCell ⟨w.heap.size, 2, none⟩ x2).setCell ⟨w.heap.size, 3, none⟩ x3).setCell ⟨w.heap.size, 4, none⟩ x4).setCell ⟨w.heap.size, 5, none⟩ x5).setCell ⟨w.heap.size, 6, none⟩ x6).setCell ⟨w.heap.size, 7, none⟩ x7).setCell ⟨w.heap.size, 8, none⟩ x8).setCell ⟨w.heap.size, 9, none⟩ x9).cell? ⟨w2.heap.size, 1, none⟩ = some (.string t2) ∧ ((((((((((wx.setCell ⟨w.heap.size, 0, none⟩ x0).setCell ⟨w.heap.size, 1, none⟩ x1).setCell ⟨w.heap.size, 2, none⟩ x2).setCell ⟨w.heap.size, 3, none⟩ x3).setCell ⟨w.heap.size, 4, none⟩ x4).setCell ⟨w.heap.size, 5, none⟩ x5).setCell ⟨w.heap.size, 6, none⟩ x6).setCell ⟨w.heap.size, 7, none⟩ x7).setCell ⟨w.heap.size, 8, none⟩ x8).setCell ⟨w.heap.size, 9, none⟩ x9).cell? ⟨w2.heap.size, 2, none⟩ = some (.int .i64 DA.e))) ∧ (((((((((((wx.setCell ⟨w.heap.size, 0, none⟩ x0).setCell ⟨w.heap.size, 1, none⟩ x1).setCell ⟨w.heap.size, 2, none⟩ x2).setCell ⟨w.heap.size, 3, none⟩ x3).setCell ⟨w.heap.size, 4, none⟩ x4).setCell ⟨w.heap.size, 5, none⟩ x5).setCell ⟨w.heap.size, 6, none⟩ x6).setCell ⟨w.heap.size, 7, none⟩ x7).setCell ⟨w.heap.size, 8, none⟩ x8).setCell ⟨w.heap.size, 9, none⟩ x9).cell? ⟨w.heap.size, 0, none⟩ = some (g ((((((((((wx.setCell ⟨w.heap.size, 0, none⟩ x0).setCell ⟨w.heap.size, 1, none⟩ x1).setCell ⟨w.heap.size, 2, none⟩ x2).setCell ⟨w.heap.size, 3, none⟩ x3).setCell ⟨w.heap.size, 4, none⟩ x4).setCell ⟨w.heap.size, 5, none⟩ x5).setCell ⟨w.heap.size, 6, none⟩ x6).setCell ⟨w.heap.size, 7, none⟩ x7).setCell ⟨w.heap.size, 8, none⟩ x8).setCell ⟨w.heap.size, 9, none⟩ x9) 0) ∧ ((((((((((wx.setCell ⟨w.heap.size, 0, none⟩ x0).setCell ⟨w.heap.size, 1, none⟩ x1).setCell ⟨w.heap.size, 2, none⟩ x2).setCell ⟨w.heap.size, 3, none⟩ x3).setCell ⟨w.heap.size, 4, none⟩ x4).setCell ⟨w.heap.size, 5, none⟩ x5).setCell ⟨w.heap.size, 6, none⟩ x6).setCell ⟨w.heap.size, 7, none⟩ x7).setCell ⟨w.heap.size, 8, none⟩ x8).setCell ⟨w.heap.size, 9, none⟩ x9).frozen? ⟨w.heap.size, 0, none⟩ = false) ∧ (((((((((((wx.setCell ⟨w.heap.size, 0, none⟩ x0).setCell ⟨w.heap.size, 1, none⟩ x1).setCell ⟨w.heap.size, 2, none⟩ x2).setCell ⟨w.heap.size, 3, none⟩ x3).setCell ⟨w.heap.size, 4, none⟩ x4).setCell ⟨w.heap.size, 5, none⟩ x5).setCell ⟨w.heap.size, 6, none⟩ x6).setCell ⟨w.heap.size, 7, none⟩ x7).setCell ⟨w.heap.size, 8, none⟩ x8).setCell ⟨w.heap.size, 9, none⟩ x9).cell? ⟨w.heap.size, 1, none⟩ = some (g ((((((((((wx.setCell ⟨w.heap.size, 0, none⟩ x0).setCell ⟨w.heap.size, 1, none⟩ x1).setCell ⟨w.heap.size, 2, none⟩ x2).setCell ⟨w.heap.size, 3, none⟩ x3).setCell ⟨w.heap.size, 4, none⟩ x4).setCell ⟨w.heap.size, 5, none⟩ x5).setCell ⟨w.heap.size, 6, none⟩ x6).setCell ⟨w.heap.size, 7, none⟩ x7).setCell ⟨w.heap.size, 8, none⟩ x8).setCell ⟨w.heap.size, 9, none⟩ x9) 1) ∧ ((((((((((wx.setCell ⟨w.heap.size, 0, none⟩ x0).setCell ⟨w.heap.size, 1, none⟩ x1).setCell ⟨w.heap.size, 2, none⟩ x2).setCell ⟨w.heap.size, 3, none⟩ x3).setCell ⟨w.heap.size, 4, none⟩ x4).setCell ⟨w.heap.size, 5, none⟩ x5).setCell ⟨w.heap.size, 6, none⟩ x6).setCell ⟨w.heap.size, 7, none⟩ x7).setCell ⟨w.heap.size, 8, none⟩ x8).setCell ⟨w.heap.size, 9, none⟩ x9).frozen? ⟨w.heap.size, 1, none⟩ = false) ∧ (((((((((((wx.setCell ⟨w.heap.size, 0, none⟩ x0).setCell ⟨w.heap.size, 1, none⟩ x1).setCell ⟨w.heap.size, 2, none⟩ x2).setCell ⟨w.heap.size, 3, none⟩ x3).setCell ⟨w.heap.size, 4, none⟩ x4).setCell ⟨w.heap.size, 5, none⟩ x5).setCell ⟨w.heap.size, 6, none⟩ x6).setCell ⟨w.heap.size, 7, none⟩ x7).setCell ⟨w.heap.size, 8, none⟩ x8).setCell ⟨w.heap.size, 9, none⟩ x9).cell? ⟨w.heap.size, 2, none⟩ = some (g ((((((((((wx.setCell ⟨w.heap.size, 0, none⟩ x0).setCell ⟨w.heap.size, 1, none⟩ x1).setCell ⟨w.heap.size, 2, none⟩ x2).setCell ⟨w.heap.size, 3, none⟩ x3).setCell ⟨w.heap.size, 4, none⟩ x4).setCell ⟨w.heap.size, 5, none⟩ x5).setCell ⟨w.heap.size, 6, none⟩ x6).setCell ⟨w.heap.size, 7, none⟩ x7).setCell ⟨w.heap.size, 8, none⟩ x8).setCell ⟨w.heap.size, 9, none⟩ x9) 2) ∧ ((((((((((wx.setCell ⟨w.heap.size, 0, none⟩ x0).setCell ⟨w.heap.size, 1, none⟩ x1).setCell ⟨w.heap.size, 2, none⟩ x2).setCell ⟨w.heap.size, 3, none⟩ x3).setCell ⟨w.heap.size, 4, none⟩ x4).setCell ⟨w.heap.size, 5, none⟩ x5).setCell ⟨w.heap.size, 6, none⟩ x6).setCell ⟨w.heap.size, 7, none⟩ x7).setCell ⟨w.heap.size, 8, none⟩ x8).setCell ⟨w.heap.size, 9, none⟩ x9).frozen? ⟨w.heap.size, 2, none⟩ = false) ∧ (((((((((((wx.setCell ⟨w.heap.size, 0, none⟩ x0).setCell ⟨w.heap.size, 1, none⟩ x1).setCell ⟨w.heap.size, 2, none⟩ x2).setCell ⟨w.heap.size, 3, none⟩ x3).setCell ⟨w.heap.size, 4, none⟩ x4).setCell ⟨w.heap.size, 5, none⟩ x5).setCell ⟨w.heap.size, 6, none⟩ x6).setCell ⟨w.heap.size, 7, none⟩ x7).setCell ⟨w.heap.size, 8, none⟩ x8).setCell ⟨w.heap.size, 9, none⟩ x9).cell? ⟨w.heap.size, 3, none⟩ = some (g ((((((((((wx.setCell ⟨w.heap.size, 0, none⟩ x0).setCell ⟨w.heap.size, 1, none⟩ x1).setCell ⟨w.heap.size, 2, none⟩ x2).setCell ⟨w.heap.size, 3, none⟩ x3).setCell ⟨w.heap.size, 4, none⟩ x4).setCell ⟨w.heap.size, 5, none⟩ x5).setCell ⟨w.heap.size, 6, none⟩ x6).setCell ⟨w.heap.size, 7, none⟩ x7).setCell ⟨w.heap.size, 8, none⟩ x8).setCell ⟨w.heap.size, 9, none⟩ x9) 3) ∧ ((((((((((wx.setCell ⟨w.heap.size, 0, none⟩ x0).setCell ⟨w.heap.size, 1, none⟩ x1).setCell ⟨w.heap.size, 2, none⟩ x2).setCell ⟨w.heap.size, 3, none⟩ x3).setCell ⟨w.heap.size, 4, none⟩ x4).setCell ⟨w.heap.size, 5, none⟩ x5).setCell ⟨w.heap.size, 6, none⟩ x6).setCell ⟨w.heap.size, 7, none⟩ x7).setCell ⟨w.heap.size, 8, none⟩ x8).setCell ⟨w.heap.size, 9, none⟩ x9).frozen? ⟨w.heap.size, 3, none⟩ = false) ∧ (((((((((((wx.setCell ⟨w.heap.size, 0, none⟩ x0).setCell ⟨w.heap.size, 1, none⟩ x1).setCell ⟨w.heap.size, 2, none⟩ x2).setCell ⟨w.heap.size, 3, none⟩ x3).setCell ⟨w.heap.size, 4, none⟩ x4).setCell ⟨w.heap.size, 5, none⟩ x5).setCell ⟨w.heap.size, 6, none⟩ x6).setCell ⟨w.heap.size, 7, none⟩ x7).setCell ⟨w.heap.size, 8, none⟩ x8).setCell ⟨w.heap.size, 9, none⟩ x9).cell? ⟨w.heap.size, 4, none⟩ = some (g ((((((((((wx.setCell ⟨w.heap.size, 0, none⟩ x0).setCell ⟨w.heap.size, 1, none⟩ x1).setCell ⟨w.heap.size, 2, none⟩ x2).setCell ⟨w.heap.size, 3, none⟩ x3).setCell ⟨w.heap.size, 4, none⟩ x4).setCell ⟨w.heap.size, 5, none⟩ x5).setCell ⟨w.heap.size, 6, none⟩ x6).setCell ⟨w.heap.size, 7, none⟩ x7).setCell ⟨w.heap.size, 8, none⟩ x8).setCell ⟨w.heap.size, 9, none⟩ x9) 4) ∧ ((((((((((wx.setCell ⟨w.heap.size, 0, none⟩ x0).setCell ⟨w.heap.size, 1, none⟩ x1).setCell ⟨w.heap.size, 2, none⟩ x2).setCell ⟨w.heap.size, 3, none⟩ x3).setCell ⟨w.heap.size, 4, none⟩ x4).setCell ⟨w.heap.size, 5, none⟩ x5).setCell ⟨w.heap.size, 6, none⟩ x6).setCell ⟨w.heap.size, 7, none⟩ x7).setCell ⟨w.heap.size, 8, none⟩ x8).setCell ⟨w.heap.size, 9, none⟩ x9).frozen? ⟨w.heap.size, 4, none⟩ = false) ∧ (((((((((((wx.setCell ⟨w.heap.size, 0, none⟩ x0).setCell ⟨w.heap.size, 1, none⟩ x1).setCell ⟨w.heap.size, 2, none⟩ x2).setCell ⟨w.heap.size, 3, none⟩ x3).setCell ⟨w.heap.size, 4, none⟩ x4).setCell ⟨w.heap.size, 5, none⟩ x5).setCell ⟨w.heap.size, 6, none⟩ x6).setCell ⟨w.heap.size, 7, none⟩ x7).setCell ⟨w.heap.size, 8, none⟩ x8).setCell ⟨w.heap.size, 9, none⟩ x9).cell? ⟨w.heap.size, 5, none⟩ = some (g ((((((((((wx.setCell ⟨w.heap.size, 0, none⟩ x0).setCell ⟨w.heap.size, 1, none⟩ x1).setCell ⟨w.heap.size, 2, none⟩ x2).setCell ⟨w.heap.size, 3, none⟩ x3).setCell ⟨w.heap.size, 4, none⟩ x4).setCell ⟨w.heap.size, 5, none⟩ x5).setCell ⟨w.heap.size, 6, none⟩ x6).setCell ⟨w.heap.size, 7, none⟩ x7).setCell ⟨w.heap.size, 8, none⟩ x8).setCell ⟨w.heap.size, 9, none⟩ x9) 5) ∧ ((((((((((wx.setCell ⟨w.heap.size, 0, none⟩ x0).setCell ⟨w.heap.size, 1, none⟩ x1).setCell ⟨w.heap.size, 2, none⟩ x2).setCell ⟨w.heap.size, 3, none⟩ x3).setCell ⟨w.heap.size, 4, none⟩ x4).setCell ⟨w.heap.size, 5, none⟩ x5).setCell ⟨w.heap.size, 6, none⟩ x6).setCell ⟨w.heap.size, 7, none⟩ x7).setCell ⟨w.heap.size, 8, none⟩ x8).setCell ⟨w.heap.size, 9, none⟩ x9).frozen? ⟨w.heap.size, 5, none⟩ = false) ∧ (((((((((((wx.setCell ⟨w.heap.size, 0, none⟩ x0).setCell ⟨w.heap.size, 1, none⟩ x1).setCell ⟨w.heap.size, 2, none⟩ x2).setCell ⟨w.heap.size, 3, none⟩ x3).setCell ⟨w.heap.size, 4, none⟩ x4).setCell ⟨w.heap.size, 5, none⟩ x5).setCell ⟨w.heap.size, 6, none⟩ x6).setCell ⟨w.heap.size, 7, none⟩ x7).setCell ⟨w.heap.size, 8, none⟩ x8).setCell ⟨w.heap.size, 9, none⟩ x9).cell? ⟨w.heap.size, 6, none⟩ = some (g ((((((((((wx.setCell ⟨w.heap.size, 0, none⟩ x0).setCell ⟨w.heap.size, 1, none⟩ x1).setCell ⟨w.heap.size, 2, none⟩ x2).setCell ⟨w.heap.size, 3, none⟩ x3).setCell ⟨w.heap.size, 4, none⟩ x4).setCell ⟨w.heap.size, 5, none⟩ x5).setCell ⟨w.heap.size, 6, none⟩ x6).setCell ⟨w.heap.size, 7, none⟩ x7).setCell ⟨w.heap.size, 8, none⟩ x8).setCell ⟨w.heap.size, 9, none⟩ x9) 6) ∧ ((((((((((wx.setCell ⟨w.heap.size, 0, none⟩ x0).setCell ⟨w.heap.size, 1, none⟩ x1).setCell ⟨w.heap.size, 2, none⟩ x2).setCell ⟨w.heap.size, 3, none⟩ x3).setCell ⟨w.heap.size, 4, none⟩ x4).setCell ⟨w.heap.size, 5, none⟩ x5).setCell ⟨w.heap.size, 6, none⟩ x6).setCell ⟨w.heap.size, 7, none⟩ x7).setCell ⟨w.heap.size, 8, none⟩ x8).setCell ⟨w.heap.size, 9, none⟩ x9).frozen? ⟨w.heap.size, 6, none⟩ = false) ∧ (((((((((((wx.setCell ⟨w.heap.size, 0, none⟩ x0).setCell ⟨w.heap.size, 1, none⟩ x1).setCell ⟨w.heap.size, 2, none⟩ x2).setCell ⟨w.heap.size, 3, none⟩ x3).setCell ⟨w.heap.size, 4, none⟩ x4).setCell ⟨w.heap.size, 5, none⟩ x5).setCell ⟨w.heap.size, 6, none⟩ x6).setCell ⟨w.heap.size, 7, none⟩ x7).setCell ⟨w.heap.size, 8, none⟩ x8).setCell ⟨w.heap.size, 9, none⟩ x9).cell? ⟨w.heap.size, 7, none⟩ = some (g ((((((((((wx.setCell ⟨w.heap.size, 0, none⟩ x0).setCell ⟨w.heap.size, 1, none⟩ x1).setCell ⟨w.heap.size, 2, none⟩ x2).setCell ⟨w.heap.size, 3, none⟩ x3).setCell ⟨w.heap.size, 4, none⟩ x4).setCell ⟨w.heap.size, 5, none⟩ x5).setCell ⟨w.heap.size, 6, none⟩ x6).setCell ⟨w.heap.size, 7, none⟩ x7).setCell ⟨w.heap.size, 8, none⟩ x8).setCell ⟨w.heap.size, 9, none⟩ x9) 7) ∧ ((((((((((wx.setCell ⟨w.heap.size, 0, none⟩ x0).setCell ⟨w.heap.size, 1, none⟩ x1).setCell ⟨w.heap.size, 2, none⟩ x2).setCell ⟨w.heap.size, 3, none⟩ x3).setCell ⟨w.heap.size, 4, none⟩ x4).setCell ⟨w.heap.size, 5, none⟩ x5).setCell ⟨w.heap.size, 6, none⟩ x6).setCell ⟨w.heap.size, 7, none⟩ x7).setCell ⟨w.heap.size, 8, none⟩ x8).setCell ⟨w.heap.size, 9, none⟩ x9).frozen? ⟨w.heap.size, 7, none⟩ = false) ∧ (((((((((((wx.setCell ⟨w.heap.size, 0, none⟩ x0).setCell ⟨w.heap.size, 1, none⟩ x1).setCell ⟨w.heap.size, 2, none⟩ x2).setCell ⟨w.heap.size, 3, none⟩ x3).setCell ⟨w.heap.size, 4, none⟩ x4).setCell ⟨w.heap.size, 5, none⟩ x5).setCell ⟨w.heap.size, 6, none⟩ x6).setCell ⟨w.heap.size, 7, none⟩ x7).setCell ⟨w.heap.size, 8, none⟩ x8).setCell ⟨w.heap.size, 9, none⟩ x9).cell? ⟨w.heap.size, 8, none⟩ = some (g ((((((((((wx.setCell ⟨w.heap.size, 0, none⟩ x0).setCell ⟨w.heap.size, 1, none⟩ x1).setCell ⟨w.heap.size, 2, none⟩ x2).setCell ⟨w.heap.size, 3, none⟩ x3).setCell ⟨w.heap.size, 4, none⟩ x4).setCell ⟨w.heap.size, 5, none⟩ x5).setCell ⟨w.heap.size, 6, none⟩ x6).setCell ⟨w.heap.size, 7, none⟩ x7).setCell ⟨w.heap.size, 8, none⟩ x8).setCell ⟨w.heap.size, 9, none⟩ x9) 8) ∧ ((((((((((wx.setCell ⟨w.heap.size, 0, none⟩ x0).setCell ⟨w.heap.size, 1, none⟩ x1).setCell ⟨w.heap.size, 2, none⟩ x2).setCell ⟨w.heap.size, 3, none⟩ x3).setCell ⟨w.heap.size, 4, none⟩ x4).setCell ⟨w.heap.size, 5, none⟩ x5).setCell ⟨w.heap.size, 6, none⟩ x6).setCell ⟨w.heap.size, 7, none⟩ x7).setCell ⟨w.heap.size, 8, none⟩ x8).setCell ⟨w.heap.size, 9, none⟩ x9).frozen? ⟨w.heap.size, 8, none⟩ = false) ∧ (((((((((((wx.setCell ⟨w.heap.size, 0, none⟩ x0).setCell ⟨w.heap.size, 1, none⟩ x1).setCell ⟨w.heap.size, 2, none⟩ x2).setCell ⟨w.heap.size, 3, none⟩ x3).setCell ⟨w.heap.size, 4, none⟩ x4).setCell ⟨w.heap.size, 5, none⟩ x5).setCell ⟨w.heap.size, 6, none⟩ x6).setCell ⟨w.heap.size, 7, none⟩ x7).setCell ⟨w.heap.size, 8, none⟩ x8).setCell ⟨w.heap.size, 9, none⟩ x9).cell? ⟨w.heap.size, 9, none⟩ = some (g ((((((((((wx.setCell ⟨w.heap.size, 0, none⟩ x0).setCell ⟨w.heap.size, 1, none⟩ x1).setCell ⟨w.heap.size, 2, none⟩ x2).setCell ⟨w.heap.size, 3, none⟩ x3).setCell ⟨w.heap.size, 4, none⟩ x4).setCell ⟨w.heap.size, 5, none⟩ x5).setCell ⟨w.heap.size, 6, none⟩ x6).setCell ⟨w.heap.size, 7, none⟩ x7).setCell ⟨w.heap.size, 8, none⟩ x8).setCell ⟨w.heap.size, 9, none⟩ x9) 9) ∧ ((((((((((wx.setCell ⟨w.heap.size, 0, none⟩ x0).setCell ⟨w.heap.size, 1, none⟩ x1).setCell ⟨w.heap.size, 2, none⟩ x2).setCell ⟨w.heap.size, 3, none⟩ x3).setCell ⟨w.heap.size, 4, none⟩ x4).setCell ⟨w.heap.size, 5, none⟩ x5).setCell ⟨w.heap.size, 6, none⟩ x6).setCell ⟨w.heap.size, 7, none⟩ x7).setCell ⟨w.heap.size, 8, none⟩ x8).setCell ⟨w.heap.size, 9, none⟩ x9).frozen? ⟨w.heap.size, 9, none⟩ = false))) := fun wx x0 x1 x2 x3 x4 x5 x6 x7 x8 x9 h => by
      obtain ⟨⟨p2, p3⟩, q0, q1, q2⟩ := (CS.out wx h).2
      refine ⟨⟨⟨?_, ?_⟩, ?_, ?_, ?_⟩, TG.out _ _ _ _ _ _ _ _ _ _ _ (Ten.put (CS.out wx h).1 x0 x1 x2 x3 x4 x5 x6 x7 x8 x9)⟩
      · simp only [set_far lt1]; exact p2
      · simp only [set_far lt1]; exact p3
      · simp only [set_far lt2]; exact q0
      · simp only [set_far lt2]; exact q1
      · simp only [set_far lt2]; exact q2
    have TT : Hid (∀ wx : World, SS wx → Ten wx w.heap.size (.bool false) (.string ⟨#[]⟩) (.int .i64 0) (.bool false) (.string ⟨#[]⟩) (.int .i64 0) (.bool false) (.string ⟨#[]⟩) (.int .i64 0) (.bool false)) := fun wx h => (CS.out wx h).1
    clear hbL HB3 HBL ZB MS TZ TL PC CS lt1 lt2 lt3 TG hg R3
    go_upto_region 6 with fail
    generalize ((w3.setCell ⟨w2.heap.size, 0, none⟩ (.bool DA.neg)).setCell ⟨w2.heap.size, 1, none⟩ (.string t2)).setCell ⟨w2.heap.size, 2, none⟩ (.int .i64 DA.e) = wL at *
    clear lc0 lc1 lc2 lf0 lf1 lf2
    have T0 := hid (KS.out _ _ S0.out (drew_nil _))
    clear S0
    go_region_held3 (fun w' => ((w'.cell? ⟨w1.heap.size, 2, none⟩ = some (.int .u64 m) ∧ w'.cell? ⟨w1.heap.size, 3, none⟩ = some (.int .i64 x)) ∧ (w'.cell? ⟨w2.heap.size, 0, none⟩ = some (.bool DA.neg) ∧ w'.cell? ⟨w2.heap.size, 1, none⟩ = some (.string t2) ∧ w'.cell? ⟨w2.heap.size, 2, none⟩ = some (.int .i64 DA.e))) ∧ (w'.cell? ⟨w.heap.size, 0, none⟩ = some (g w' 0) ∧ w'.frozen? ⟨w.heap.size, 0, none⟩ = false) ∧ (w'.cell? ⟨w.heap.size, 1, none⟩ = some (g w' 1) ∧ w'.frozen? ⟨w.heap.size, 1, none⟩ = false) ∧ (w'.cell? ⟨w.heap.size, 2, none⟩ = some (g w' 2) ∧ w'.frozen? ⟨w.heap.size, 2, none⟩ = false) ∧ (w'.cell? ⟨w.heap.size, 3, none⟩ = some (g w' 3) ∧ w'.frozen? ⟨w.heap.size, 3, none⟩ = false) ∧ (w'.cell? ⟨w.heap.size, 4, none⟩ = some (g w' 4) ∧ w'.frozen? ⟨w.heap.size, 4, none⟩ = false) ∧ (w'.cell? ⟨w.heap.size, 5, none⟩ = some (g w' 5) ∧ w'.frozen? ⟨w.heap.size, 5, none⟩ = false) ∧ (w'.cell? ⟨w.heap.size, 6, none⟩ = some (g w' 6) ∧ w'.frozen? ⟨w.heap.size, 6, none⟩ = false) ∧ (w'.cell? ⟨w.heap.size, 7, none⟩ = some (g w' 7) ∧ w'.frozen? ⟨w.heap.size, 7, none⟩ = false) ∧ (w'.cell? ⟨w.heap.size, 8, none⟩ = some (g w' 8) ∧ w'.frozen? ⟨w.heap.size, 8, none⟩ = false) ∧ (w'.cell? ⟨w.heap.size, 9, none⟩ = some (g w' 9) ∧ w'.frozen? ⟨w.heap.size, 9, none⟩ = false)) (first | (with_reducible exact FS.out _ _ _ _ _ _ _ _ _ _ _ T2.out) | (with_reducible exact FT.out _ T2.out) | (with_reducible exact FT.out _ T1.out) | (with_reducible exact FT.out _ T0.out)) (first
      | (go_at_call 29; with_reducible refine (EV.out _).mono ?_; rintro e w5 ⟨t1, rfl, HT1, hB⟩; (first | (have T2 := hid (KS.out _ _ T1.out hB); clear hB) | (have T1 := hid (KS.out _ _ T0.out hB); clear hB)))
      | (go_at_call 30; with_reducible refine (HI.out _).mono ?_; rintro e w5 ⟨t3, rfl, HT3, hB⟩; (first | (have T2 := hid (KS.out _ _ T1.out hB); clear hB) | (have T1 := hid (KS.out _ _ T0.out hB); clear hB))))
    have KV := hid (G.out t1 t2 t3 HT1.out HT2.out HT3.out)
    have KB := hid (BS.out _ T2.out)
    have KT := hid (TT.out _ T2.out)
    clear HT1 HT2 HT3 FT FS TT T0 T1 T2 KS BS G HI EV
    go_wp2_with fail
    (try simp only [Exit.inBlock, Exit.then])
    refine bodyPost_ret (results_cell_row rfl _ _ w.heap.size 35 _ (0, 0) _ rfl (KT.out.put _ _ _ _ _ _ _ _ _ _) Tryz.underlying35 rfl (by kernel_rfl)) rfl ?_
    exact ⟨_, rfl, KV.out, set10_below KB.out (Nat.le_refl _)⟩
end Go.Proofs.YtggikfcdecnooaaGreatDoor

namespace Go.Proofs.YtggikfcdecnooaaGreatDoor
open Go Go.RowKit Go.Deep Go.Shelf

def compLays_ren : Go.Shelf.Ren := ⟨fun | 106 => 128 | 213 => 149 | 265 => 166 | n => n, fun | 9 => 9 | 3 => 3 | n => n, fun | n => n⟩
theorem compLays : Go.Proofs.Lays.n106 Tryz.prog compLays_ren := {
  mixed := by kernel_rfl
  f106 := Tryz.func128.trans (congrArg some (by kernel_rfl))
  f213 := Tryz.func149.trans (congrArg some (by kernel_rfl))
  f265 := Tryz.func166.trans (congrArg some (by kernel_rfl))
  t3 := Tryz.underlying3
  a3 := Tryz.isAgg3
  z3 := Tryz.sizeOf3
  v3 := Tryz.zeroValue3
  t9 := Tryz.underlying9
  a9 := Tryz.isAgg9
  z9 := Tryz.sizeOf9
  v9 := Tryz.zeroValue9 }

theorem lex_bytes (a b : List UInt8) : Lib.compareBytes a b = Sc.lex (a.map fun x => (x.toNat : Int)) (b.map fun x => (x.toNat : Int)) := by
  induction a generalizing b with
  | nil => cases b <;> rfl
  | cons x a ih =>
    cases b with
    | nil => rfl
    | cons y b =>
      simp only [Lib.compareBytes, List.map_cons, Sc.lex, ih]
      have h1 : (x < y) ↔ ((x.toNat : Int) < (y.toNat : Int)) := by rw [UInt8.lt_iff_toNat_lt]; omega
      have h2 : (y < x) ↔ ((y.toNat : Int) < (x.toNat : Int)) := by rw [UInt8.lt_iff_toNat_lt]; omega
      simp only [h1, h2]

theorem scompare_any (s t : ByteArray) (xs ys : List Int) (w : World) (hs : Str s xs) (ht : Str t ys) :
    Calls Tryz.prog 128 #[.string s, .string t] w fun e w' => e = .returned (.int .i64 (Sc.lex xs ys)) ∧ w' = w := by
  refine (Any.strings_Compare compLays s t w).mono ?_
  rintro e w' ⟨rfl, rfl⟩
  rw [lex_bytes]
  unfold Str at hs ht
  rw [hs, ht]
  exact ⟨rfl, rfl⟩
end Go.Proofs.YtggikfcdecnooaaGreatDoor

namespace Go.Proofs.YtggikfcdecnooaaGreatDoor
open Go Go.RowKit Go.Deep

theorem isnan_any (x : Int) (w : World) : Calls Tryz.prog 148 #[.int .i64 x] w fun e w' => e = .returned (.bool false) ∧ w' = w := by
  have h : (x != x) = false := by simp
  go_enter Tryz.func148, Tryz.ntmps148
  go_wp2_with fail
  go_ret
  exact ⟨by simp, rfl⟩

theorem cmpint_any (x y : Int) (w : World) : Calls Tryz.prog 127 #[.int .i64 x, .int .i64 y] w fun e w' => e = .returned (.int .i64 (Sc.cmpI x y)) ∧ w' = w := by
  have X := hid (fun wx => isnan_any x wx)
  have Y := hid (fun wx => isnan_any y wx)
  have C := hid (Sc.cmpI_c x y)
  go_enter Tryz.func127, Tryz.ntmps127
  go_wp2_with fail
  refine (X.out _).mono ?_
  rintro e w1 ⟨rfl, rfl⟩
  go_wp2_with fail
  refine (Y.out _).mono ?_
  rintro e w1 ⟨rfl, rfl⟩
  go_wp2_with fail
  all_goals (go_ret; exact ⟨congrArg (fun z => Ending.returned (.int .i64 z)) (by have := C.out; omega), rfl⟩)
end Go.Proofs.YtggikfcdecnooaaGreatDoor

namespace Go.Proofs.YtggikfcdecnooaaGreatDoor
open Go Go.RowKit Go.Deep

theorem str48 : (⟨#[48]⟩ : ByteArray).toList = [48] := by rw [ByteArray.toList_eq]

theorem vsign_any (d : Sc.D) (s : ByteArray) (w : World) (hs : Str s d.ds) : Calls Tryz.prog 126 #[.agg #[.bool d.neg, .string s, .int .i64 d.e]] w fun e w' => e = .returned (.int .i64 (Sc.sgn d)) ∧ Below w.heap.size w w' := by
  have B := hid (alloc_b w (.cells #[.bool d.neg, .string s, .int .i64 d.e] 29))
  rcases Sc.sgn_c d with ⟨h1, h2⟩ | ⟨h1, h3, h2⟩ | ⟨h1, h3, h2⟩
  · have hs0 : s = ⟨#[48]⟩ := hs.inj (by rw [h1]; rfl)
    subst hs0
    rw [h2]
    clear hs h1 h2
    go_enter Tryz.func126, Tryz.ntmps126
    go_wp2_with fail
    go_ret
    exact ⟨rfl, B.out⟩
  · have q : (s.toList == [48]) = false := by
      have := hs.eq (t := ⟨#[48]⟩) (ys := [48]) rfl
      rw [decide_eq_false h1, str48] at this
      exact this
    have q1 : s.toList ≠ [48] := by simpa using q
    rw [h2, h3]
    rw [h3] at B
    clear hs h1 h2 h3
    go_enter Tryz.func126, Tryz.ntmps126
    go_wp2_with fail
    go_ret
    exact ⟨rfl, B.out⟩
  · have q : (s.toList == [48]) = false := by
      have := hs.eq (t := ⟨#[48]⟩) (ys := [48]) rfl
      rw [decide_eq_false h1, str48] at this
      exact this
    have q1 : s.toList ≠ [48] := by simpa using q
    rw [h2, h3]
    rw [h3] at B
    clear hs h1 h2 h3
    go_enter Tryz.func126, Tryz.ntmps126
    go_wp2_with fail
    go_ret
    exact ⟨rfl, B.out⟩







/-- What Cmp tells. -/
def cmpE (na : Bool) (xs : List Int) (ea : Int) (nb : Bool) (ys : List Int) (eb : Int) : Int × Int := if Sc.IsDec xs ea ∧ Sc.IsDec ys eb then (Sc.cmpD (Sc.nrm na xs ea) (Sc.nrm nb ys eb), 0) else (0, 80)

theorem nmd_e (neg : Bool) (xs : List Int) (e : Int) (hn : xs.length ≤ 281474976710656) : -1152921504606846976 ≤ (nmd neg xs e).e ∧ (nmd neg xs e).e ≤ 1152921504606846976 ∧ (nmd neg xs e).ds.length ≤ 281474976710657 := by
  unfold nmd
  split
  · next h =>
    refine ⟨?_, ?_, ?_⟩
    · rcases Sc.nrm_e neg xs e with k | k
      · omega
      · have := h.2.1; omega
    · by_cases c : Sc.lz xs = xs.length
      · rw [Sc.nrm_zero c]; show (0 : Int) ≤ _; omega
      · rw [Sc.nrm_pos c]; exact h.2.2.2.2 c
    · have := Sc.nrm_len neg xs e; omega
  · simp

/-- Two Decs by their sizes. -/
theorem cmpD_same {a b : Sc.D} (h : Sc.sgn a = Sc.sgn b) : Sc.cmpD a b = if a.neg = true then Sc.mc b a else Sc.mc a b := by
  unfold Sc.cmpD; rw [if_neg (by simpa using h)]
theorem cmpD_apart {a b : Sc.D} (h : Sc.sgn a ≠ Sc.sgn b) : Sc.cmpD a b = Sc.cmpI (Sc.sgn a) (Sc.sgn b) := by
  unfold Sc.cmpD; rw [if_pos h]
theorem mc_apart {a b : Sc.D} (h : Sc.pl a ≠ Sc.pl b) : Sc.mc a b = Sc.cmpI (Sc.pl a) (Sc.pl b) := by
  unfold Sc.mc; rw [if_pos h]
theorem mc_same {a b : Sc.D} (h : Sc.pl a = Sc.pl b) : Sc.mc a b = Sc.lex a.ds b.ds := by
  unfold Sc.mc; rw [if_neg (by simpa using h)]
end Go.Proofs.YtggikfcdecnooaaGreatDoor

namespace Go.Proofs.YtggikfcdecnooaaGreatDoor
open Go Go.RowKit Go.Deep

def Six (wx : World) (g : Nat) (a b : Sc.D) (s t : ByteArray) : Prop := (wx.cell? ⟨g, 0, none⟩ = some (.bool a.neg) ∧ wx.cell? ⟨g, 1, none⟩ = some (.string s) ∧ wx.cell? ⟨g, 2, none⟩ = some (.int .i64 a.e)) ∧ (wx.cell? ⟨g + 1, 0, none⟩ = some (.bool b.neg) ∧ wx.cell? ⟨g + 1, 1, none⟩ = some (.string t) ∧ wx.cell? ⟨g + 1, 2, none⟩ = some (.int .i64 b.e))
/-- The two Decs in their boxes. -/
def C2 (w wx : World) (a b : Sc.D) (s t : ByteArray) : Prop := Two3 w wx (.bool a.neg) (.string s) (.int .i64 a.e) (.bool b.neg) (.string t) (.int .i64 b.e)
theorem C2.six {w wx : World} {a b : Sc.D} {s t : ByteArray} (h : C2 w wx a b s t) : (wx.cell? ⟨w.heap.size, 0, none⟩ = some (.bool a.neg) ∧ wx.cell? ⟨w.heap.size, 1, none⟩ = some (.string s) ∧ wx.cell? ⟨w.heap.size, 2, none⟩ = some (.int .i64 a.e)) ∧ (wx.cell? ⟨w.heap.size + 1, 0, none⟩ = some (.bool b.neg) ∧ wx.cell? ⟨w.heap.size + 1, 1, none⟩ = some (.string t) ∧ wx.cell? ⟨w.heap.size + 1, 2, none⟩ = some (.int .i64 b.e)) := ⟨h.2.1.cells.1, h.2.2.cells.1⟩
theorem C2.on {w wx w' : World} {a b : Sc.D} {s t : ByteArray} (h : C2 w wx a b s t) (k : Below wx.heap.size wx w') : C2 w w' a b s t := Two3.on h k
theorem C2.drew {w wx : World} {a b : Sc.D} {s t : ByteArray} (h : C2 w wx a b s t) : C2 w wx.drew a b s t := Two3.drew h 1

set_option maxRecDepth 100000 in
set_option maxHeartbeats 4000000 in
/-- Behind the two slims: both are Decs, or one is none. -/
theorem vcmp_any (na nb : Bool) (s t : ByteArray) (xs ys : List Int) (ea eb : Int) (w : World) (hs : Str s xs) (ht : Str t ys) (hn : xs.length ≤ 281474976710656) (hm : ys.length ≤ 281474976710656) :
    Calls Tryz.prog 94 #[decV na s ea, decV nb t eb] w fun r w' => r = .returned (.tuple #[.int .i64 (cmpE na xs ea nb ys eb).1, .int .i64 (cmpE na xs ea nb ys eb).2]) ∧ Below w.heap.size w w' := by
  have TA := hid (fun wx => slim_any na s xs ea wx hs hn)
  have TB := hid (fun wx => slim_any nb t ys eb wx ht hm)
  have Z := hid (Two3.new w (.bool na) (.string s) (.int .i64 ea) (.bool nb) (.string t) (.int .i64 eb))
  have bA := nmd_e na xs ea hn
  have bB := nmd_e nb ys eb hm
  have CE : Hid (Sc.IsDec xs ea → Sc.IsDec ys eb → cmpE na xs ea nb ys eb = (Sc.cmpD (nmd na xs ea) (nmd nb ys eb), 0)) := fun c d => by unfold cmpE nmd; rw [if_pos ⟨c, d⟩, if_pos c, if_pos d]
  have CN : Hid (¬ (Sc.IsDec xs ea ∧ Sc.IsDec ys eb) → cmpE na xs ea nb ys eb = (0, 80)) := fun c => by unfold cmpE; rw [if_neg c]
  clear hs ht hn hm
  unfold decV at TA TB ⊢
  obtain ⟨da, hda⟩ : ∃ d, decide (Sc.IsDec xs ea) = d := ⟨_, rfl⟩
  obtain ⟨db, hdb⟩ : ∃ d, decide (Sc.IsDec ys eb) = d := ⟨_, rfl⟩
  have HA := hid hda
  have HB := hid hdb
  clear hda hdb
  go_enter Tryz.func94, Tryz.ntmps94
  go_wp2_with fail
  refine (TA.out _).mono ?_
  rintro r w1 ⟨v, rfl, ⟨s1, hv, hs1⟩, hB⟩
  unfold decV at hv
  subst hv
  rw [HA.out]
  have S := hid ((Z.out.on hB).putA (.bool (nmd na xs ea).neg) (.string s1) (.int .i64 (nmd na xs ea).e))
  obtain ⟨⟨c0, c1, c2⟩, f0, f1, f2⟩ := (Z.out.on hB).2.1.cells
  obtain ⟨⟨d0, d1, d2⟩, g0, g1, g2⟩ := (Z.out.on hB).2.2.cells
  have H1 := hid hs1
  clear hB hs1 Z TA
  go_wp2_with fail
  refine (TB.out _).mono ?_
  rintro r w2 ⟨v, rfl, ⟨t1, hv, ht1⟩, hB⟩
  unfold decV at hv
  subst hv
  rw [HB.out]
  have S2 : Hid (C2 w (((w2.setCell ⟨w.heap.size + 1, 0, none⟩ (.bool (nmd nb ys eb).neg)).setCell ⟨w.heap.size + 1, 1, none⟩ (.string t1)).setCell ⟨w.heap.size + 1, 2, none⟩ (.int .i64 (nmd nb ys eb).e)) (nmd na xs ea) (nmd nb ys eb) s1 t1) := (S.out.on hB).putB (.bool (nmd nb ys eb).neg) (.string t1) (.int .i64 (nmd nb ys eb).e)
  clear c0 c1 c2 f0 f1 f2 d0 d1 d2 g0 g1 g2
  obtain ⟨⟨d0, d1, d2⟩, g0, g1, g2⟩ := (S.out.on hB).2.2.cells
  have H2 := hid ht1
  clear hB ht1 S TB
  by_cases hda : da = true ∧ db = true
  · obtain ⟨rfl, rfl⟩ := hda
    have CE2 := hid (CE.out (of_decide_eq_true HA.out) (of_decide_eq_true HB.out))
    have SA := hid (fun wx => vsign_any (nmd na xs ea) s1 wx H1.out)
    have SB := hid (fun wx => vsign_any (nmd nb ys eb) t1 wx H2.out)
    have SC := hid (fun wx => scompare_any s1 t1 _ _ wx H1.out H2.out)
    have SD := hid (fun wx => scompare_any t1 s1 _ _ wx H2.out H1.out)
    have zA := H1.out.size
    have zB := H2.out.size
    clear CE CN HA HB H1 H2
    generalize nmd na xs ea = A at *
    generalize nmd nb ys eb = B at *
    go_upto_region 5 with fail
    generalize ((w2.setCell ⟨w.heap.size + 1, 0, none⟩ (.bool B.neg)).setCell ⟨w.heap.size + 1, 1, none⟩ (.string t1)).setCell ⟨w.heap.size + 1, 2, none⟩ (.int .i64 B.e) = w3 at *
    clear d0 d1 d2 g0 g1 g2
    have T0 := hid S2.out.drew
    go_region_held3 (fun wx => (wx.cell? ⟨w.heap.size, 0, none⟩ = some (.bool A.neg) ∧ wx.cell? ⟨w.heap.size, 1, none⟩ = some (.string s1) ∧ wx.cell? ⟨w.heap.size, 2, none⟩ = some (.int .i64 A.e)) ∧ (wx.cell? ⟨w.heap.size + 1, 0, none⟩ = some (.bool B.neg) ∧ wx.cell? ⟨w.heap.size + 1, 1, none⟩ = some (.string t1) ∧ wx.cell? ⟨w.heap.size + 1, 2, none⟩ = some (.int .i64 B.e))) (first | (with_reducible exact T2.out.six) | (with_reducible exact T1.out.six) | (with_reducible exact T0.out.six)) (first
      | (go_at_call 126; (first
          | (with_reducible refine (SA.out _).mono ?_; rintro e w5 ⟨rfl, hB⟩; (first | (have T2 := hid (T1.out.on hB); clear hB) | (have T1 := hid (T0.out.on hB); clear hB)))
          | (with_reducible refine (SB.out _).mono ?_; rintro e w5 ⟨rfl, hB⟩; (first | (have T2 := hid (T1.out.on hB); clear hB) | (have T1 := hid (T0.out.on hB); clear hB))))))
    generalize w5 = w4 at *
    by_cases hsg : Sc.sgn A = Sc.sgn B
    · have r0 : (Sc.sgn A != Sc.sgn B) = false := by simpa using hsg
      have r3 : (Sc.sgn A == Sc.sgn B) = true := by simpa using hsg
      have KK0 := hid (cmpD_same hsg)
      clear hsg SA SB T0 T1 S2
      obtain ⟨n, hn⟩ : ∃ n, A.neg = n := ⟨_, rfl⟩
      cases n with
      | true =>
        have KK : Hid (Sc.cmpD A B = Sc.mc B A) := by show _ = _; rw [KK0.out, if_pos hn]
        obtain ⟨⟨c0, c1, c2⟩, f0, f1, f2⟩ := T2.out.2.1.cells
        obtain ⟨⟨c3, c4, c5⟩, f3, f4, f5⟩ := T2.out.2.2.cells
        have T3 : Hid (C2 w ((((((w4.setCell ⟨w.heap.size, 0, none⟩ (.bool B.neg)).setCell ⟨w.heap.size, 1, none⟩ (.string t1)).setCell ⟨w.heap.size, 2, none⟩ (.int .i64 B.e)).setCell ⟨w.heap.size + 1, 0, none⟩ (.bool true)).setCell ⟨w.heap.size + 1, 1, none⟩ (.string s1)).setCell ⟨w.heap.size + 1, 2, none⟩ (.int .i64 A.e)) B A t1 s1) := by
          have := (Two3.putA T2.out (.bool B.neg) (.string t1) (.int .i64 B.e)).putB (.bool A.neg) (.string s1) (.int .i64 A.e)
          rw [hn] at this
          show C2 _ _ _ _ _ _
          unfold C2
          rw [hn]
          exact this
        clear KK0
        go_upto_region 10 with fail
        generalize (((((w4.setCell ⟨w.heap.size, 0, none⟩ (.bool B.neg)).setCell ⟨w.heap.size, 1, none⟩ (.string t1)).setCell ⟨w.heap.size, 2, none⟩ (.int .i64 B.e)).setCell ⟨w.heap.size + 1, 0, none⟩ (.bool true)).setCell ⟨w.heap.size + 1, 1, none⟩ (.string s1)).setCell ⟨w.heap.size + 1, 2, none⟩ (.int .i64 A.e) = wX at *
        clear c0 c1 c2 f0 f1 f2 c3 c4 c5 f3 f4 f5
        obtain ⟨⟨d0, d1, d2⟩, d3, d4, d5⟩ := T3.out.six
        by_cases hp : Sc.pl B = Sc.pl A
        · have r1 : (B.e + (B.ds.length : Int) != A.e + (A.ds.length : Int)) = false := by simpa [Sc.pl] using hp
          have r2 : (B.e + (B.ds.length : Int) == A.e + (A.ds.length : Int)) = true := by simpa [Sc.pl] using hp
          have FF : Hid (∀ w', Below w.heap.size w w' → Ending.returned (.tuple #[.int .i64 (Sc.lex B.ds A.ds), .int .i64 0]) = .returned (.tuple #[.int .i64 (cmpE na xs ea nb ys eb).1, .int .i64 (cmpE na xs ea nb ys eb).2]) ∧ Below w.heap.size w w') := fun w' b => ⟨by rw [CE2.out, KK.out, mc_same hp], b⟩
          clear hp
          go_region
          go_wp2_with fail
          refine (SD.out _).mono ?_
          rintro e w6 ⟨rfl, rfl⟩
          go_wp2_with fail
          go_ret2
          exact FF.out _ (below_drewN T3.out.1 1)
        · have r1 : (B.e + (B.ds.length : Int) != A.e + (A.ds.length : Int)) = true := by simpa [Sc.pl] using hp
          have r2 : (B.e + (B.ds.length : Int) == A.e + (A.ds.length : Int)) = false := by rw [beq_eq_false_iff_ne]; exact hp
          have FF : Hid (∀ w', Below w.heap.size w w' → Ending.returned (.tuple #[.int .i64 (Sc.cmpI (B.e + (B.ds.length : Int)) (A.e + (A.ds.length : Int))), .int .i64 0]) = .returned (.tuple #[.int .i64 (cmpE na xs ea nb ys eb).1, .int .i64 (cmpE na xs ea nb ys eb).2]) ∧ Below w.heap.size w w') := fun w' b => ⟨by rw [CE2.out, KK.out, mc_apart hp]; rfl, b⟩
          clear hp
          go_region
          go_wp2_with fail
          refine (cmpint_any _ _ _).mono ?_
          rintro e w6 ⟨rfl, rfl⟩
          go_wp2_with fail
          go_ret2
          exact FF.out _ (below_drewN T3.out.1 1)
      | false =>
        have KK : Hid (Sc.cmpD A B = Sc.mc A B) := by show _ = _; rw [KK0.out, if_neg (by rw [hn]; simp)]
        clear KK0
        have hn2 := hn
        clear hn
        obtain ⟨⟨d0, d1, d2⟩, d3, d4, d5⟩ := T2.out.six
        by_cases hp : Sc.pl A = Sc.pl B
        · have r1 : (A.e + (A.ds.length : Int) != B.e + (B.ds.length : Int)) = false := by simpa [Sc.pl] using hp
          have r2 : (A.e + (A.ds.length : Int) == B.e + (B.ds.length : Int)) = true := by simpa [Sc.pl] using hp
          have FF : Hid (∀ w', Below w.heap.size w w' → Ending.returned (.tuple #[.int .i64 (Sc.lex A.ds B.ds), .int .i64 0]) = .returned (.tuple #[.int .i64 (cmpE na xs ea nb ys eb).1, .int .i64 (cmpE na xs ea nb ys eb).2]) ∧ Below w.heap.size w w') := fun w' b => ⟨by rw [CE2.out, KK.out, mc_same hp], b⟩
          clear hp
          go_upto_region 10 with fail
          go_region
          go_wp2_with fail
          refine (SC.out _).mono ?_
          rintro e w6 ⟨rfl, rfl⟩
          go_wp2_with fail
          go_ret2
          exact FF.out _ (below_drewN T2.out.1 1)
        · have r1 : (A.e + (A.ds.length : Int) != B.e + (B.ds.length : Int)) = true := by simpa [Sc.pl] using hp
          have r2 : (A.e + (A.ds.length : Int) == B.e + (B.ds.length : Int)) = false := by rw [beq_eq_false_iff_ne]; exact hp
          have FF : Hid (∀ w', Below w.heap.size w w' → Ending.returned (.tuple #[.int .i64 (Sc.cmpI (A.e + (A.ds.length : Int)) (B.e + (B.ds.length : Int))), .int .i64 0]) = .returned (.tuple #[.int .i64 (cmpE na xs ea nb ys eb).1, .int .i64 (cmpE na xs ea nb ys eb).2]) ∧ Below w.heap.size w w') := fun w' b => ⟨by rw [CE2.out, KK.out, mc_apart hp]; rfl, b⟩
          clear hp
          go_upto_region 10 with fail
          go_region
          go_wp2_with fail
          refine (cmpint_any _ _ _).mono ?_
          rintro e w6 ⟨rfl, rfl⟩
          go_wp2_with fail
          go_ret2
          exact FF.out _ (below_drewN T2.out.1 1)
    · have r0 : (Sc.sgn A != Sc.sgn B) = true := by simpa using hsg
      have r3 : (Sc.sgn A == Sc.sgn B) = false := by rw [beq_eq_false_iff_ne]; exact hsg
      have FF : Hid (∀ w', Below w.heap.size w w' → Ending.returned (.tuple #[.int .i64 (Sc.cmpI (Sc.sgn A) (Sc.sgn B)), .int .i64 0]) = .returned (.tuple #[.int .i64 (cmpE na xs ea nb ys eb).1, .int .i64 (cmpE na xs ea nb ys eb).2]) ∧ Below w.heap.size w w') := fun w' b => ⟨by rw [CE2.out, cmpD_apart hsg], b⟩
      clear hsg
      go_wp2_with fail
      refine (cmpint_any _ _ _).mono ?_
      rintro e w6 ⟨rfl, rfl⟩
      go_wp2_with fail
      go_ret2
      exact FF.out _ T2.out.1
  · have FF : Hid (∀ w', Below w.heap.size w w' → Ending.returned (.tuple #[.int .i64 0, .int .i64 80]) = .returned (.tuple #[.int .i64 (cmpE na xs ea nb ys eb).1, .int .i64 (cmpE na xs ea nb ys eb).2]) ∧ Below w.heap.size w w') := fun w' b => ⟨by rw [CN.out fun c => hda ⟨by rw [← HA.out, decide_eq_true c.1], by rw [← HB.out, decide_eq_true c.2]⟩], b⟩
    cases da <;> cases db
    all_goals first | (exfalso; simp at hda; done) | skip
    all_goals
      clear CE CN HA HB H1 H2 hda
      go_wp2_with fail
      go_ret2
      exact FF.out _ S2.out.1
end Go.Proofs.YtggikfcdecnooaaGreatDoor

namespace Go.Proofs.YtggikfcdecnooaaGreatDoor
open Go Go.RowKit Go.Deep

namespace Sh
/-- A Dec in its normal form. -/
structure Nm (d : Sc.D) : Prop where
  dec : Sc.IsDec d.ds d.e
  fix : Sc.nrm d.neg d.ds d.e = d
  len : d.ds.length ≤ 281474976710656

theorem Ok.fix {d : Sc.D} (h : Ok d) : Sc.nrm d.neg d.ds d.e = d := by
  have hd : Digs d.ds := by
    rcases h.form with c | c
    · rw [c.1]; intro x hx; simp at hx; omega
    · exact c.digs
  rw [h.neg, nrm_dd hd h.lo]
  exact h.is.symm
theorem Ok.digs {d : Sc.D} (h : Ok d) : Digs d.ds ∧ d.ds ≠ [] := by
  rcases h.form with c | c
  · rw [c.1]; exact ⟨fun x hx => by simp at hx; omega, by simp⟩
  · exact ⟨c.digs, c.ne⟩
theorem Ok.nm {d : Sc.D} (h : Ok d) (h1 : d.e ≤ 100000) (hl : d.ds.length ≤ 100000) : Nm d := ⟨isdec h.digs.1 h.digs.2 h.lo h1 hl, h.fix, by omega⟩

/-- Whether a decimal lies between two others. -/
def hD (A B x : Sc.D) (c : Bool) : Bool := (decide (Sc.cmpD A x < 0) && decide (Sc.cmpD x B < 0)) || (c && decide (Sc.cmpD A x ≤ 0) && decide (Sc.cmpD x B ≤ 0))
end Sh

set_option maxRecDepth 100000 in
theorem zorder_any (a b : Sc.D) (s t : ByteArray) (w : World) (ha : Sh.Nm a) (hb : Sh.Nm b) (hs : Str s a.ds) (ht : Str t b.ds) :
    Calls Tryz.prog 55 #[.agg #[.bool a.neg, .string s, .int .i64 a.e], .agg #[.bool b.neg, .string t, .int .i64 b.e]] w fun e w' => e = .returned (.int .i64 (Sc.cmpD a b)) ∧ Below w.heap.size w w' := by
  have C := hid (fun wx : World => vcmp_any a.neg b.neg s t a.ds b.ds a.e b.e wx hs ht ha.len hb.len)
  have E : cmpE a.neg a.ds a.e b.neg b.ds b.e = (Sc.cmpD a b, 0) := by rw [cmpE, if_pos ⟨ha.dec, hb.dec⟩, ha.fix, hb.fix]
  rw [E] at C
  unfold decV at C
  have Z := hid (Below.trans (alloc_b w (.cells #[.bool a.neg, .string s, .int .i64 a.e] 29)) ((alloc_b (w.alloc (.cells #[.bool a.neg, .string s, .int .i64 a.e] 29)) (.cells #[.bool b.neg, .string t, .int .i64 b.e] 29)).mono (alloc_b w (.cells #[.bool a.neg, .string s, .int .i64 a.e] 29)).size))
  clear ha hb hs ht E
  generalize Sc.cmpD a b = k at *
  go_enter Tryz.func55, Tryz.ntmps55
  go_wp2_with fail
  refine (C.out _).mono ?_
  rintro e w1 ⟨rfl, hB⟩
  have K := hid (Z.out.trans (hB.mono Z.out.size))
  clear hB C Z
  go_wp2_with fail
  go_ret
  exact ⟨rfl, K.out⟩

set_option maxRecDepth 100000 in
set_option maxHeartbeats 2000000 in
theorem zholds_any (P A B x : Sc.D) (c : Bool) (s1 s2 s3 t : ByteArray) (w : World) (hA : Sh.Nm A) (hB : Sh.Nm B) (hx : Sh.Nm x) (h2 : Str s2 A.ds) (h3 : Str s3 B.ds) (ht : Str t x.ds) :
    Calls Tryz.prog 35 #[spanV P A B s1 s2 s3 c, .agg #[.bool x.neg, .string t, .int .i64 x.e]] w fun e w' => e = .returned (.bool (Sh.hD A B x c)) ∧ Below w.heap.size w w' := by
  have O1 := hid (fun wx : World => zorder_any A x s2 t wx hA hx h2 ht)
  have O2 := hid (fun wx : World => zorder_any x B t s3 wx hx hB ht h3)
  have E : Hid (∀ w', Below w.heap.size w w' → Ending.returned (.bool ((decide (Sc.cmpD A x < 0) && decide (Sc.cmpD x B < 0)) || (c && decide (Sc.cmpD A x ≤ 0) && decide (Sc.cmpD x B ≤ 0)))) = .returned (.bool (Sh.hD A B x c)) ∧ Below w.heap.size w w') := fun w' h => ⟨rfl, h⟩
  clear hA hB hx h2 h3 ht
  unfold spanV
  have a1 := alloc_b w (.cells #[.bool P.neg, .string s1, .int .i64 P.e, .bool A.neg, .string s2, .int .i64 A.e, .bool B.neg, .string s3, .int .i64 B.e, .bool c] 35)
  have r1 := RB.new w 35 #[.bool P.neg, .string s1, .int .i64 P.e, .bool A.neg, .string s2, .int .i64 A.e, .bool B.neg, .string s3, .int .i64 B.e, .bool c]
  generalize hk1 : Sc.cmpD A x = k1 at *
  generalize hk2 : Sc.cmpD x B = k2 at *
  clear hk1 hk2
  go_enter Tryz.func35, Tryz.ntmps35
  go_upto_region 1 with fail
  have a2 := alloc_b (w.alloc (.cells #[.bool P.neg, .string s1, .int .i64 P.e, .bool A.neg, .string s2, .int .i64 A.e, .bool B.neg, .string s3, .int .i64 B.e, .bool c] 35)) (.cells #[.bool x.neg, .string t, .int .i64 x.e] 29)
  have r2 := RB.new (w.alloc (.cells #[.bool P.neg, .string s1, .int .i64 P.e, .bool A.neg, .string s2, .int .i64 A.e, .bool B.neg, .string s3, .int .i64 B.e, .bool c] 35)) 29 #[.bool x.neg, .string t, .int .i64 x.e]
  have r1' := r1.below a2 r1.lt
  have sz : (w.alloc (.cells #[.bool P.neg, .string s1, .int .i64 P.e, .bool A.neg, .string s2, .int .i64 A.e, .bool B.neg, .string s3, .int .i64 B.e, .bool c] 35)).heap.size = w.heap.size + 1 := Array.size_push ..
  rw [sz] at r2
  obtain ⟨SS, KS, CS, BS, MS⟩ := state (fun w' => RB w' w.heap.size 35 #[.bool P.neg, .string s1, .int .i64 P.e, .bool A.neg, .string s2, .int .i64 A.e, .bool B.neg, .string s3, .int .i64 B.e, .bool c] ∧ RB w' (w.heap.size + 1) 29 #[.bool x.neg, .string t, .int .i64 x.e]) w
    (Stays.and (fun _ _ g hB => RB.below g hB (RB.lt g)) (fun _ _ g hB => RB.below g hB (RB.lt g)))
  have S0 := hid (MS.out _ ⟨r1', r2⟩ (a1.trans (a2.mono a1.size)))
  clear a1 a2 r1 r2 r1' sz MS
  generalize (w.alloc (.cells #[.bool P.neg, .string s1, .int .i64 P.e, .bool A.neg, .string s2, .int .i64 A.e, .bool B.neg, .string s3, .int .i64 B.e, .bool c] 35)).alloc (.cells #[.bool x.neg, .string t, .int .i64 x.e] 29) = wL at *
  have FT : Hid (∀ wx : World, SS wx → (((wx.cell? ⟨w.heap.size, 3, none⟩ = some (.bool A.neg) ∧ wx.cell? ⟨w.heap.size, 4, none⟩ = some (.string s2) ∧ wx.cell? ⟨w.heap.size, 5, none⟩ = some (.int .i64 A.e)) ∧ (wx.cell? ⟨w.heap.size, 6, none⟩ = some (.bool B.neg) ∧ wx.cell? ⟨w.heap.size, 7, none⟩ = some (.string s3) ∧ wx.cell? ⟨w.heap.size, 8, none⟩ = some (.int .i64 B.e)) ∧ wx.cell? ⟨w.heap.size, 9, none⟩ = some (.bool c)) ∧ (wx.cell? ⟨w.heap.size + 1, 0, none⟩ = some (.bool x.neg) ∧ wx.cell? ⟨w.heap.size + 1, 1, none⟩ = some (.string t) ∧ wx.cell? ⟨w.heap.size + 1, 2, none⟩ = some (.int .i64 x.e)))) :=
    fun wx h => ⟨⟨⟨(CS.out wx h).1.cell 3 _ rfl, (CS.out wx h).1.cell 4 _ rfl, (CS.out wx h).1.cell 5 _ rfl⟩, ⟨(CS.out wx h).1.cell 6 _ rfl, (CS.out wx h).1.cell 7 _ rfl, (CS.out wx h).1.cell 8 _ rfl⟩, (CS.out wx h).1.cell 9 _ rfl⟩, ⟨(CS.out wx h).2.cell 0 _ rfl, (CS.out wx h).2.cell 1 _ rfl, (CS.out wx h).2.cell 2 _ rfl⟩⟩
  have T0 := hid (KS.out _ _ S0.out (drew_nil _))
  clear S0 CS
  go_region_held3 (fun wx => ((wx.cell? ⟨w.heap.size, 3, none⟩ = some (.bool A.neg) ∧ wx.cell? ⟨w.heap.size, 4, none⟩ = some (.string s2) ∧ wx.cell? ⟨w.heap.size, 5, none⟩ = some (.int .i64 A.e)) ∧ (wx.cell? ⟨w.heap.size, 6, none⟩ = some (.bool B.neg) ∧ wx.cell? ⟨w.heap.size, 7, none⟩ = some (.string s3) ∧ wx.cell? ⟨w.heap.size, 8, none⟩ = some (.int .i64 B.e)) ∧ wx.cell? ⟨w.heap.size, 9, none⟩ = some (.bool c)) ∧ (wx.cell? ⟨w.heap.size + 1, 0, none⟩ = some (.bool x.neg) ∧ wx.cell? ⟨w.heap.size + 1, 1, none⟩ = some (.string t) ∧ wx.cell? ⟨w.heap.size + 1, 2, none⟩ = some (.int .i64 x.e))) (first | (with_reducible exact FT.out _ T2.out) | (with_reducible exact FT.out _ T1.out) | (with_reducible exact FT.out _ T0.out)) (first
    | (go_at_call 55; (first
      | (with_reducible refine (O1.out _).mono ?_; rintro e w5 ⟨rfl, hB⟩; (first | (have T2 := hid (KS.out _ _ T1.out hB); clear hB) | (have T1 := hid (KS.out _ _ T0.out hB); clear hB)))
      | (with_reducible refine (O2.out _).mono ?_; rintro e w5 ⟨rfl, hB⟩; (first | (have T2 := hid (KS.out _ _ T1.out hB); clear hB) | (have T1 := hid (KS.out _ _ T0.out hB); clear hB))))))
  have K := hid (E.out _ (BS.out _ T2.out))
  obtain ⟨⟨-, -, c9⟩, -⟩ := FT.out _ T2.out
  clear E BS T0 T1 T2 FT KS O1 O2
  cases c
  · go_wp2_with fail
    all_goals go_ret
    all_goals
      refine ⟨(show Ending.returned (Value.bool _) = Ending.returned (Value.bool _) from congrArg (fun b => Ending.returned (Value.bool b)) ?_).trans K.out.1, K.out.2⟩
      rw [Bool.eq_iff_iff]
      simp
      try omega
  · go_wp2_with fail
    all_goals go_ret
    all_goals
      refine ⟨(show Ending.returned (Value.bool _) = Ending.returned (Value.bool _) from congrArg (fun b => Ending.returned (Value.bool b)) ?_).trans K.out.1, K.out.2⟩
      rw [Bool.eq_iff_iff]
      simp
      try omega
end Go.Proofs.YtggikfcdecnooaaGreatDoor

namespace Go.Proofs.YtggikfcdecnooaaGreatDoor
open Go Go.RowKit Go.Deep Go.Shelf

def itoaLays_ren : Go.Shelf.Ren := ⟨fun | 171 => 26 | 243 => 43 | 246 => 73 | 283 => 90 | 284 => 91 | 285 => 92 | 286 => 93 | 129 => 111 | 317 => 122 | 318 => 123 | 319 => 124 | 320 => 125 | 337 => 146 | 338 => 147 | n => n, fun | 3 => 3 | 9 => 9 | 2 => 2 | 4 => 4 | 171 => 113 | 0 => 0 | 53 => 22 | 37 => 81 | 5 => 5 | 173 => 115 | 212 => 140 | 51 => 119 | 20 => 20 | 213 => 141 | 46 => 47 | 232 => 178 | 233 => 179 | n => n, fun | 17 => 2 | 18 => 4 | 19 => 5 | n => n⟩
theorem itoaLays : Go.Proofs.LaysM.n171 Tryz.prog itoaLays_ren := {
  mixed := by kernel_rfl
  f129 := Tryz.func111.trans (congrArg some (by kernel_rfl))
  f171 := Tryz.func26.trans (congrArg some (by kernel_rfl))
  f243 := Tryz.func43.trans (congrArg some (by kernel_rfl))
  f246 := Tryz.func73.trans (congrArg some (by kernel_rfl))
  f283 := Tryz.func90.trans (congrArg some (by kernel_rfl))
  f284 := Tryz.func91.trans (congrArg some (by kernel_rfl))
  f285 := Tryz.func92.trans (congrArg some (by kernel_rfl))
  f286 := Tryz.func93.trans (congrArg some (by kernel_rfl))
  f317 := Tryz.func122.trans (congrArg some (by kernel_rfl))
  f318 := Tryz.func123.trans (congrArg some (by kernel_rfl))
  f319 := Tryz.func124.trans (congrArg some (by kernel_rfl))
  f320 := Tryz.func125.trans (congrArg some (by kernel_rfl))
  f337 := Tryz.func146.trans (congrArg some (by kernel_rfl))
  f338 := Tryz.func147.trans (congrArg some (by kernel_rfl))
  t0 := Tryz.underlying0
  a0 := Tryz.isAgg0
  z0 := Tryz.sizeOf0
  v0 := Tryz.zeroValue0
  t2 := Tryz.underlying2
  a2 := Tryz.isAgg2
  z2 := Tryz.sizeOf2
  v2 := Tryz.zeroValue2
  t3 := Tryz.underlying3
  a3 := Tryz.isAgg3
  z3 := Tryz.sizeOf3
  v3 := Tryz.zeroValue3
  t4 := Tryz.underlying4
  a4 := Tryz.isAgg4
  z4 := Tryz.sizeOf4
  v4 := Tryz.zeroValue4
  t5 := Tryz.underlying5
  a5 := Tryz.isAgg5
  z5 := Tryz.sizeOf5
  v5 := Tryz.zeroValue5
  t9 := Tryz.underlying9
  a9 := Tryz.isAgg9
  z9 := Tryz.sizeOf9
  v9 := Tryz.zeroValue9
  t20 := Tryz.underlying20
  a20 := Tryz.isAgg20
  z20 := Tryz.sizeOf20
  v20 := Tryz.zeroValue20
  t37 := Tryz.underlying81
  a37 := Tryz.isAgg81
  z37 := Tryz.sizeOf81
  v37 := Tryz.zeroValue81
  t46 := Tryz.underlying47
  a46 := Tryz.isAgg47
  z46 := Tryz.sizeOf47
  v46 := Tryz.zeroValue47
  t51 := Tryz.underlying119
  a51 := Tryz.isAgg119
  z51 := Tryz.sizeOf119
  v51 := Tryz.zeroValue119
  t53 := Tryz.underlying22
  a53 := Tryz.isAgg22
  z53 := Tryz.sizeOf22
  v53 := Tryz.zeroValue22
  t171 := Tryz.underlying113
  a171 := Tryz.isAgg113
  z171 := Tryz.sizeOf113
  v171 := Tryz.zeroValue113
  t173 := Tryz.underlying115
  a173 := Tryz.isAgg115
  z173 := Tryz.sizeOf115
  v173 := Tryz.zeroValue115
  t212 := Tryz.underlying140
  a212 := Tryz.isAgg140
  z212 := Tryz.sizeOf140
  v212 := Tryz.zeroValue140
  t213 := Tryz.underlying141
  a213 := Tryz.isAgg141
  z213 := Tryz.sizeOf141
  t232 := Tryz.underlying178
  a232 := Tryz.isAgg178
  z232 := Tryz.sizeOf178
  v232 := Tryz.zeroValue178
  t233 := Tryz.underlying179
  a233 := Tryz.isAgg179
  z233 := Tryz.sizeOf179
  v233 := Tryz.zeroValue179
  g17 := by kernel_rfl
  g18 := by kernel_rfl
  g19 := by kernel_rfl
  i0 := by kernel_rfl
  i2 := by kernel_rfl
  i3 := by kernel_rfl
  i4 := by kernel_rfl
  i5 := by kernel_rfl
  i9 := by kernel_rfl
  i20 := by kernel_rfl
  i37 := by kernel_rfl
  i46 := by kernel_rfl
  i51 := by kernel_rfl
  i53 := by kernel_rfl
  i171 := by kernel_rfl
  i173 := by kernel_rfl
  i212 := by kernel_rfl
  i232 := by kernel_rfl
  i233 := by kernel_rfl
  m17 := by kernel_rfl
  m18 := by kernel_rfl
  m19 := by kernel_rfl }

/-- The table of powers of ten lies as the text lays it. -/
def Tab10 (w : World) : Prop := Lib.TabIs Tryz.prog w "internal/strconv.uint64pow10" .u64 Lib.pow10Tab

def itl (n : Int) : List Int := (Lib.itoa n).map fun b => (b.toNat : Int)
theorem itl_str (n : Int) : Str ⟨(Lib.itoa n).toArray⟩ (itl n) := rfl

theorem below_grown {w : World} (k : Nat) (os : Array Obj) : Below w.heap.size w (Go.Sort.grow (w.drewN k) os) := by
  refine ⟨rfl, rfl, rfl, ?_, fun j hj => ?_⟩
  · show w.heap.size ≤ (w.heap ++ os).size
    simp
  · show (w.heap ++ os)[j]? = w.heap[j]?
    rw [Array.getElem?_append_left hj]

theorem itoa_any (n : Int) (w : World) (h0 : -9223372036854775808 ≤ n) (h1 : n ≤ 9223372036854775807) (ht : Tab10 w) :
    Calls Tryz.prog 26 #[.int .i64 n] w fun e w' => e = .returned (.string ⟨(Lib.itoa n).toArray⟩) ∧ Below w.heap.size w w' := by
  refine (Any.strconv_Itoa itoaLays n h0 h1 w ht).mono ?_
  rintro e w' ⟨rfl, k, os, rfl⟩
  exact ⟨rfl, below_grown k os⟩
end Go.Proofs.YtggikfcdecnooaaGreatDoor

namespace Go.Proofs.YtggikfcdecnooaaGreatDoor
open Go Go.RowKit Go.Deep Go.Shelf

def puLays_ren : Go.Shelf.Ren := ⟨fun | 14 => 32 | 16 => 51 | 17 => 52 | 19 => 82 | 20 => 83 | 21 => 84 | 22 => 85 | 23 => 86 | 24 => 87 | 25 => 117 | 27 => 26 | 26 => 118 | 28 => 43 | 29 => 73 | 30 => 90 | 31 => 91 | 32 => 92 | 33 => 93 | 35 => 111 | 34 => 122 | 36 => 123 | 37 => 124 | 38 => 125 | 39 => 146 | 40 => 147 | n => n, fun | 9 => 9 | 3 => 3 | 22 => 22 | 24 => 52 | 25 => 53 | 4 => 4 | 34 => 105 | 5 => 5 | 36 => 47 | 37 => 81 | 0 => 0 | 39 => 108 | 21 => 21 | 44 => 135 | 47 => 124 | 50 => 160 | 48 => 158 | 2 => 2 | 52 => 113 | 55 => 115 | 59 => 140 | 60 => 119 | 20 => 20 | 61 => 141 | 65 => 178 | 66 => 179 | 67 => 88 | n => n, fun | 0 => 0 | 1 => 1 | 2 => 2 | 3 => 4 | 4 => 5 | n => n⟩
theorem puLays : Go.Proofs.LaysPu.n14 Tryz.prog puLays_ren := {
  mixed := by kernel_rfl
  f14 := Tryz.func32.trans (congrArg some (by kernel_rfl))
  f16 := Tryz.func51.trans (congrArg some (by kernel_rfl))
  f17 := Tryz.func52.trans (congrArg some (by kernel_rfl))
  f19 := Tryz.func82.trans (congrArg some (by kernel_rfl))
  f20 := Tryz.func83.trans (congrArg some (by kernel_rfl))
  f21 := Tryz.func84.trans (congrArg some (by kernel_rfl))
  f22 := Tryz.func85.trans (congrArg some (by kernel_rfl))
  f23 := Tryz.func86.trans (congrArg some (by kernel_rfl))
  f24 := Tryz.func87.trans (congrArg some (by kernel_rfl))
  f25 := Tryz.func117.trans (congrArg some (by kernel_rfl))
  f26 := Tryz.func118.trans (congrArg some (by kernel_rfl))
  f27 := Tryz.func26.trans (congrArg some (by kernel_rfl))
  f28 := Tryz.func43.trans (congrArg some (by kernel_rfl))
  f29 := Tryz.func73.trans (congrArg some (by kernel_rfl))
  f30 := Tryz.func90.trans (congrArg some (by kernel_rfl))
  f31 := Tryz.func91.trans (congrArg some (by kernel_rfl))
  f32 := Tryz.func92.trans (congrArg some (by kernel_rfl))
  f33 := Tryz.func93.trans (congrArg some (by kernel_rfl))
  f34 := Tryz.func122.trans (congrArg some (by kernel_rfl))
  f35 := Tryz.func111.trans (congrArg some (by kernel_rfl))
  f36 := Tryz.func123.trans (congrArg some (by kernel_rfl))
  f37 := Tryz.func124.trans (congrArg some (by kernel_rfl))
  f38 := Tryz.func125.trans (congrArg some (by kernel_rfl))
  f39 := Tryz.func146.trans (congrArg some (by kernel_rfl))
  f40 := Tryz.func147.trans (congrArg some (by kernel_rfl))
  t0 := Tryz.underlying0
  a0 := Tryz.isAgg0
  z0 := Tryz.sizeOf0
  v0 := Tryz.zeroValue0
  i0 := by kernel_rfl
  t2 := Tryz.underlying2
  a2 := Tryz.isAgg2
  z2 := Tryz.sizeOf2
  v2 := Tryz.zeroValue2
  i2 := by kernel_rfl
  t3 := Tryz.underlying3
  a3 := Tryz.isAgg3
  z3 := Tryz.sizeOf3
  v3 := Tryz.zeroValue3
  i3 := by kernel_rfl
  t4 := Tryz.underlying4
  a4 := Tryz.isAgg4
  z4 := Tryz.sizeOf4
  v4 := Tryz.zeroValue4
  i4 := by kernel_rfl
  t5 := Tryz.underlying5
  a5 := Tryz.isAgg5
  z5 := Tryz.sizeOf5
  v5 := Tryz.zeroValue5
  i5 := by kernel_rfl
  t9 := Tryz.underlying9
  a9 := Tryz.isAgg9
  z9 := Tryz.sizeOf9
  v9 := Tryz.zeroValue9
  i9 := by kernel_rfl
  t20 := Tryz.underlying20
  a20 := Tryz.isAgg20
  z20 := Tryz.sizeOf20
  v20 := Tryz.zeroValue20
  i20 := by kernel_rfl
  t21 := Tryz.underlying21
  a21 := Tryz.isAgg21
  z21 := Tryz.sizeOf21
  v21 := Tryz.zeroValue21
  i21 := by kernel_rfl
  t22 := Tryz.underlying22
  a22 := Tryz.isAgg22
  z22 := Tryz.sizeOf22
  v22 := Tryz.zeroValue22
  i22 := by kernel_rfl
  t24 := Tryz.underlying52
  a24 := Tryz.isAgg52
  z24 := Tryz.sizeOf52
  v24 := Tryz.zeroValue52
  i24 := by kernel_rfl
  t25 := Tryz.underlying53
  a25 := Tryz.isAgg53
  z25 := Tryz.sizeOf53
  v25 := Tryz.zeroValue53
  i25 := by kernel_rfl
  t34 := Tryz.underlying105
  a34 := Tryz.isAgg105
  z34 := Tryz.sizeOf105
  v34 := Tryz.zeroValue105
  i34 := by kernel_rfl
  c34 := by kernel_rfl
  t36 := Tryz.underlying47
  a36 := Tryz.isAgg47
  z36 := Tryz.sizeOf47
  v36 := Tryz.zeroValue47
  i36 := by kernel_rfl
  t37 := Tryz.underlying81
  a37 := Tryz.isAgg81
  z37 := Tryz.sizeOf81
  v37 := Tryz.zeroValue81
  i37 := by kernel_rfl
  t39 := Tryz.underlying108
  a39 := Tryz.isAgg108
  z39 := Tryz.sizeOf108
  v39 := Tryz.zeroValue108
  i39 := by kernel_rfl
  t44 := Tryz.underlying135
  a44 := Tryz.isAgg135
  z44 := Tryz.sizeOf135
  v44 := Tryz.zeroValue135
  i44 := by kernel_rfl
  t47 := Tryz.underlying124
  a47 := Tryz.isAgg124
  z47 := Tryz.sizeOf124
  v47 := Tryz.zeroValue124
  i47 := by kernel_rfl
  t48 := Tryz.underlying158
  a48 := Tryz.isAgg158
  z48 := Tryz.sizeOf158
  v48 := Tryz.zeroValue158
  i48 := by kernel_rfl
  t50 := Tryz.underlying160
  a50 := Tryz.isAgg160
  z50 := Tryz.sizeOf160
  v50 := Tryz.zeroValue160
  i50 := by kernel_rfl
  t52 := Tryz.underlying113
  a52 := Tryz.isAgg113
  z52 := Tryz.sizeOf113
  v52 := Tryz.zeroValue113
  i52 := by kernel_rfl
  t55 := Tryz.underlying115
  a55 := Tryz.isAgg115
  z55 := Tryz.sizeOf115
  v55 := Tryz.zeroValue115
  i55 := by kernel_rfl
  t59 := Tryz.underlying140
  a59 := Tryz.isAgg140
  z59 := Tryz.sizeOf140
  v59 := Tryz.zeroValue140
  i59 := by kernel_rfl
  t60 := Tryz.underlying119
  a60 := Tryz.isAgg119
  z60 := Tryz.sizeOf119
  v60 := Tryz.zeroValue119
  i60 := by kernel_rfl
  t61 := Tryz.underlying141
  a61 := Tryz.isAgg141
  z61 := Tryz.sizeOf141
  t65 := Tryz.underlying178
  a65 := Tryz.isAgg178
  z65 := Tryz.sizeOf178
  v65 := Tryz.zeroValue178
  i65 := by kernel_rfl
  t66 := Tryz.underlying179
  a66 := Tryz.isAgg179
  z66 := Tryz.sizeOf179
  v66 := Tryz.zeroValue179
  i66 := by kernel_rfl
  t67 := Tryz.underlying88
  a67 := Tryz.isAgg88
  z67 := Tryz.sizeOf88
  v67 := Tryz.zeroValue88
  i67 := by kernel_rfl
  g0 := by kernel_rfl
  m0 := by kernel_rfl
  g1 := by kernel_rfl
  m1 := by kernel_rfl
  g2 := by kernel_rfl
  m2 := by kernel_rfl
  g3 := by kernel_rfl
  m3 := by kernel_rfl
  g4 := by kernel_rfl
  m4 := by kernel_rfl }
end Go.Proofs.YtggikfcdecnooaaGreatDoor
