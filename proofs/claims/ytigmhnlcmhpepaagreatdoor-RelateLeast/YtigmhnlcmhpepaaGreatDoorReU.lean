/-
  abacuslaw18's awake.
-/
import Derived.Test.YtigmhnlcmhpepaaGreatDoorReT
namespace Go.Proofs.YtigmhnlcmhpepaaGreatDoor
open Go Go.RowKit Go.Deep Go.Shelf

namespace Re
theorem uniq : ∀ (D E : List Tk), D.Perm E → D.Pairwise (fun x y => ct x y ≤ 0) → E.Pairwise (fun x y => ct x y ≤ 0) → D = E
  | [], E, h, _, _ => (List.Perm.nil_eq h)
  | x :: D, [], h, _, _ => absurd (List.Perm.length_eq h) (by simp)
  | x :: D, y :: E, h, hd, he => by
    rw [List.pairwise_cons] at hd he
    have exy : x = y := by
      have hy : y ∈ x :: D := h.mem_iff.2 (List.mem_cons_self ..)
      have hx : x ∈ y :: E := h.mem_iff.1 (List.mem_cons_self ..)
      rcases List.mem_cons.1 hy with e | e
      · exact e.symm
      · rcases List.mem_cons.1 hx with f | f
        · exact f
        · have a := hd.1 y e
          have b := he.1 x f
          have c := ct_anti x y
          exact ct_zero (by omega)
    subst exy
    rw [uniq D E (List.Perm.cons_inv h) hd.2 he.2]
def v3 : List Vl := [⟨2, 0, ⟨#[98]⟩⟩, ⟨1, 4607182418800017408, ⟨#[]⟩⟩, ⟨2, 0, ⟨#[97]⟩⟩]
theorem sorts3 {P : List Int} (h : Sorts v3 P) : P = [1, 2, 0] := by
  obtain ⟨D, h1, h2, rfl⟩ := h
  have a : rt 1 4607182418800017408 ⟨#[]⟩ = .nu 4607182418800017408 := by
    rw [rt, if_neg (by decide)]
    congr 1
  have e : tks v3 = [⟨.tx ⟨#[98]⟩, 0⟩, ⟨.nu 4607182418800017408, 1⟩, ⟨.tx ⟨#[97]⟩, 2⟩] := by
    rw [← a]; rfl
  rw [e] at h1
  have h3 : ([⟨.nu 4607182418800017408, 1⟩, ⟨.tx ⟨#[97]⟩, 2⟩, ⟨.tx ⟨#[98]⟩, 0⟩] : List Tk).Pairwise (fun x y => ct x y ≤ 0) := by
    refine List.Pairwise.cons ?_ (List.Pairwise.cons ?_ (List.Pairwise.cons (by simp) List.Pairwise.nil))
    · intro y hy
      simp only [List.mem_cons, List.not_mem_nil, or_false] at hy
      rcases hy with rfl | rfl <;> (rw [ct_le]; left; show (-1 : Int) < 0; decide)
    · intro y hy
      simp only [List.mem_cons, List.not_mem_nil, or_false] at hy
      subst hy
      rw [ct_le]; left; show Sc.lex (bl ⟨#[97]⟩) (bl ⟨#[98]⟩) < 0; decide
  have h4 : ([⟨.nu 4607182418800017408, 1⟩, ⟨.tx ⟨#[97]⟩, 2⟩, ⟨.tx ⟨#[98]⟩, 0⟩] : List Tk).Perm [⟨.tx ⟨#[98]⟩, 0⟩, ⟨.nu 4607182418800017408, 1⟩, ⟨.tx ⟨#[97]⟩, 2⟩] :=
    ((List.Perm.swap _ _ _).cons _ |>.trans (List.Perm.swap _ _ _))
  rw [uniq D _ (h1.trans h4.symm) h2 h3]
  rfl
end Re

theorem cmp_nine (w : World) (ht : Tab10 w) :
    Calls Tryz.prog 6 #[.agg #[.int .i64 2, .int .u64 0, .string ⟨#[49, 48]⟩], .agg #[.int .i64 1, .int .u64 4621256167635550208, .string ⟨#[]⟩], .string ⟨#[37, 46, 54, 103]⟩] w fun e w' => e = .returned (.tuple #[.int .i64 (-1), .int .i64 0]) ∧ Below w.heap.size w w' := by
  have ok : Va.ok 4621256167635550208 = true := by kernel_rfl
  have h := compareS_any 2 0 ⟨#[49, 48]⟩ 1 4621256167635550208 ⟨#[]⟩ ⟨#[37, 46, 54, 103]⟩ ⟨#[49, 48]⟩ (strOfNums (Va.tx 4621256167635550208)) w (.inl rfl)
    (fun W _ => rwritten_text 2 0 _ _ W (.inl rfl))
    (fun W hW => rwritten_num 1 _ _ _ _ 0 W (by decide) (by decide) (fun W2 hW2 => vtostrI_any _ _ _ W2 (rtab10_on (rtab10_on ht hW) hW2) (by omega) (by omega) ok))
  have e : Sc.lex (Re.bl ⟨#[49, 48]⟩) (Re.bl (strOfNums (Va.tx 4621256167635550208))) = -1 := by kernel_rfl
  rw [e] at h
  exact h

theorem holds_two (w : World) :
    Calls Tryz.prog 7 #[.int .i64 5, .agg #[.int .i64 1, .int .u64 4611686018427387904, .string ⟨#[]⟩], .agg #[.int .i64 1, .int .u64 4607182418800017408, .string ⟨#[]⟩], .string ⟨#[]⟩] w fun e w' => e = .returned (.tuple #[.bool true, .int .i64 0]) ∧ Below w.heap.size w w' := by
  have c : Re.cn (Re.nu 1 4611686018427387904) (Re.nu 1 4607182418800017408) = 1 := by kernel_rfl
  exact holds_any 5 1 _ _ 1 _ _ _ 1 w (by omega) (by omega) (fun W _ => by
    have := compareN_any 1 4611686018427387904 ⟨#[]⟩ 1 4607182418800017408 ⟨#[]⟩ ⟨#[]⟩ W (by omega) (by omega) (by omega) (by omega) (by decide) (by decide)
    rw [c] at this
    exact this)

set_option maxRecDepth 100000 in
set_option maxHeartbeats 4000000 in
theorem rawake_any (w : World) (ht : Tab10 w) : Calls Tryz.prog 5 #[] w fun e w' => e = .returned (.bool true) ∧ Below w.heap.size w w' := by
  have S10 := hid (fun W => rstr_any ⟨#[49, 48]⟩ W)
  have N9 := hid (fun W => rnum_any 4621256167635550208 W)
  have N2 := hid (fun W => rnum_any 4611686018427387904 W)
  have N1 := hid (fun W => rnum_any 4607182418800017408 W)
  have SB := hid (fun W => rstr_any ⟨#[98]⟩ W)
  have SA := hid (fun W => rstr_any ⟨#[97]⟩ W)
  have CP := hid (fun W (h : Below w.heap.size w W) => cmp_nine W (rtab10_on ht h))
  have HD := hid (fun W => holds_two W)
  have QU := hid (fun W => queued_any W)
  have SO : Hid (∀ (W : World) (g : Nat), Bx W g 24 #[.int .i64 2, .int .u64 0, .string ⟨#[98]⟩, .int .i64 1, .int .u64 4607182418800017408, .string ⟨#[]⟩, .int .i64 2, .int .u64 0, .string ⟨#[97]⟩] → Calls Tryz.prog 19 #[.slice (some ⟨g, 0, none⟩) 3 3] W fun e w' => ∃ g', e = .returned (.slice (some ⟨g', 0, none⟩) 3 3) ∧ Bx w' g' 3 #[.int .i64 1, .int .i64 2, .int .i64 0] ∧ Below W.heap.size W w') := fun W g hb => by
    refine (sort_any (some ⟨g, 0, none⟩) 3 Re.v3 W (.inr ⟨g, 0, rfl, fun i a hi => ?_⟩) ?_ (by decide)).mono ?_
    · have hl : i < 3 := (List.getElem?_eq_some_iff.1 hi).1
      rcases (show i = 0 ∨ i = 1 ∨ i = 2 by omega) with rfl | rfl | rfl
      · obtain rfl := Option.some.inj hi
        exact ⟨hb.cell 0 _ rfl, hb.cell 1 _ rfl, hb.cell 2 _ rfl⟩
      · obtain rfl := Option.some.inj hi
        exact ⟨hb.cell 3 _ rfl, hb.cell 4 _ rfl, hb.cell 5 _ rfl⟩
      · obtain rfl := Option.some.inj hi
        exact ⟨hb.cell 6 _ rfl, hb.cell 7 _ rfl, hb.cell 8 _ rfl⟩
    · intro a ha
      simp only [Re.v3, List.mem_cons, List.not_mem_nil, or_false] at ha
      rcases ha with rfl | rfl | rfl <;> decide
    · rintro e w' ⟨g', P, rfl, _, hx, hs, _, hB⟩
      have := Re.sorts3 hs
      subst this
      exact ⟨g', rfl, hx, hB⟩
  have B0 : Hid (Below w.heap.size w w) := Below.refl _ _
  clear ht
  go_enter Tryz.func5, Tryz.ntmps5
  go_wp2_with fail
  refine (S10.out _).mono ?_
  rintro e w1 ⟨rfl, b1⟩
  have B1 := hid (below_on B0.out b1)
  clear b1 B0 S10
  go_wp2_with fail
  refine (N9.out _).mono ?_
  rintro e w2 ⟨rfl, b2⟩
  have B2 := hid (below_on B1.out b2)
  clear b2 B1 N9
  go_wp2_with fail
  refine (CP.out _ B2.out).mono ?_
  rintro e w3 ⟨rfl, b3⟩
  have B3 := hid (below_on B2.out b3)
  clear b3 B2 CP
  go_wp2_with fail
  refine (N2.out _).mono ?_
  rintro e w4 ⟨rfl, b4⟩
  have B4 := hid (below_on B3.out b4)
  clear b4 B3 N2
  go_wp2_with fail
  refine (N1.out _).mono ?_
  rintro e w5 ⟨rfl, b5⟩
  have B5 := hid (below_on B4.out b5)
  clear b5 B4
  go_wp2_with fail
  refine (HD.out _).mono ?_
  rintro e w6 ⟨rfl, b6⟩
  have B6 := hid (below_on B5.out b6)
  clear b6 B5 HD
  go_wp2_with fail
  refine (SB.out _).mono ?_
  rintro e w7 ⟨rfl, b7⟩
  have B7 := hid (below_on B6.out b7)
  clear b7 B6 SB
  go_wp2_with fail
  refine (N1.out _).mono ?_
  rintro e w8 ⟨rfl, b8⟩
  have B8 := hid (below_on B7.out b8)
  clear b8 B7 N1
  go_wp2_with fail
  refine (SA.out _).mono ?_
  rintro e w9 ⟨rfl, b9⟩
  have B9 := hid (below_on (below_on B8.out b9) (alloc_b w9 (.cells #[.int .i64 2, .int .u64 0, .string ⟨#[98]⟩, .int .i64 1, .int .u64 4607182418800017408, .string ⟨#[]⟩, .int .i64 2, .int .u64 0, .string ⟨#[97]⟩] 24)))
  have X9 := hid (Bx.new w9 24 #[.int .i64 2, .int .u64 0, .string ⟨#[98]⟩, .int .i64 1, .int .u64 4607182418800017408, .string ⟨#[]⟩, .int .i64 2, .int .u64 0, .string ⟨#[97]⟩])
  clear b9 B8 SA
  go_wp2_with fail
  refine (SO.out _ _ X9.out).mono ?_
  rintro e wA ⟨g', rfl, xA, bA⟩
  have BA := hid (below_on B9.out bA)
  have l0 := xA.cell 0 _ rfl
  have l1 := xA.cell 1 _ rfl
  have l2 := xA.cell 2 _ rfl
  clear bA B9 X9 SO xA
  go_wp2_with fail
  refine (QU.out _).mono ?_
  rintro e wB ⟨rfl, bB⟩
  have F := hid (below_on BA.out bB)
  clear bB BA QU l0 l1 l2
  go_wp2_with fail
  go_ret
  exact ⟨rfl, F.out⟩
end Go.Proofs.YtigmhnlcmhpepaaGreatDoor
