/-
  Texts put together: ReU, OpenValR, ReTot, ReTr, ReTrL.
-/
import Derived.Test.YtigmhnlcmhpepaaGreatDoorWBD
import Derived.Test.YtigmhnlcmhpepaaGreatDoorGBulk
import Derived.SizedLaws
import Derived.ProofKit
import Derived.Deep.LoopGhost
namespace Go.Proofs.YtigmhnlcmhpepaaGreatDoor
open Go Go.RowKit Go.Deep Go.Shelf

namespace Re
theorem uniq : ∀ (D E : List Tk), D.Perm E → D.Pairwise (fun x y => ct x y ≤ 0) → E.Pairwise (fun x y => ct x y ≤ 0) → D = E
  | [], E, h, _, _ => (List.Perm.nil_eq h)
  | x :: D, [], h, _, _ => absurd (List.Perm.length_eq h) (by simp)
  | x :: D, y :: E, h, hd, he => by
    rw [List.pairwise_cons] at hd he
    have exy : x = y := by
      have hy : y ∈ x :: D := h.mem_iff.2 (List.mem_cons_self ..)
      have hx : x ∈ y :: E := h.mem_iff.1 (List.mem_cons_self ..)
      rcases List.mem_cons.1 hy with e | e
      · exact e.symm
      · rcases List.mem_cons.1 hx with f | f
        · exact f
        · have a := hd.1 y e
          have b := he.1 x f
          have c := ct_anti x y
          exact ct_zero (by omega)
    subst exy
    rw [uniq D E (List.Perm.cons_inv h) hd.2 he.2]
def v3 : List Vl := [⟨2, 0, ⟨#[98]⟩⟩, ⟨1, 4607182418800017408, ⟨#[]⟩⟩, ⟨2, 0, ⟨#[97]⟩⟩]
theorem sorts3 {P : List Int} (h : Sorts v3 P) : P = [1, 2, 0] := by
  obtain ⟨D, h1, h2, rfl⟩ := h
  have a : rt 1 4607182418800017408 ⟨#[]⟩ = .nu 4607182418800017408 := by
    rw [rt, if_neg (by decide)]
    congr 1
  have e : tks v3 = [⟨.tx ⟨#[98]⟩, 0⟩, ⟨.nu 4607182418800017408, 1⟩, ⟨.tx ⟨#[97]⟩, 2⟩] := by
    rw [← a]; rfl
  rw [e] at h1
  have h3 : ([⟨.nu 4607182418800017408, 1⟩, ⟨.tx ⟨#[97]⟩, 2⟩, ⟨.tx ⟨#[98]⟩, 0⟩] : List Tk).Pairwise (fun x y => ct x y ≤ 0) := by
    refine List.Pairwise.cons ?_ (List.Pairwise.cons ?_ (List.Pairwise.cons (by simp) List.Pairwise.nil))
    · intro y hy
      simp only [List.mem_cons, List.not_mem_nil, or_false] at hy
      rcases hy with rfl | rfl <;> (rw [ct_le]; left; show (-1 : Int) < 0; decide)
    · intro y hy
      simp only [List.mem_cons, List.not_mem_nil, or_false] at hy
      subst hy
      rw [ct_le]; left; show Sc.lex (bl ⟨#[97]⟩) (bl ⟨#[98]⟩) < 0; decide
  have h4 : ([⟨.nu 4607182418800017408, 1⟩, ⟨.tx ⟨#[97]⟩, 2⟩, ⟨.tx ⟨#[98]⟩, 0⟩] : List Tk).Perm [⟨.tx ⟨#[98]⟩, 0⟩, ⟨.nu 4607182418800017408, 1⟩, ⟨.tx ⟨#[97]⟩, 2⟩] :=
    ((List.Perm.swap _ _ _).cons _ |>.trans (List.Perm.swap _ _ _))
  rw [uniq D _ (h1.trans h4.symm) h2 h3]
  rfl
end Re

theorem cmp_nine (w : World) (ht : Tab10 w) :
    Calls Tryz.prog 6 #[.agg #[.int .i64 2, .int .u64 0, .string ⟨#[49, 48]⟩], .agg #[.int .i64 1, .int .u64 4621256167635550208, .string ⟨#[]⟩], .string ⟨#[37, 46, 54, 103]⟩] w fun e w' => e = .returned (.tuple #[.int .i64 (-1), .int .i64 0]) ∧ Below w.heap.size w w' := by
  have ok : Va.ok 4621256167635550208 = true := by kernel_rfl
  have h := compareS_any 2 0 ⟨#[49, 48]⟩ 1 4621256167635550208 ⟨#[]⟩ ⟨#[37, 46, 54, 103]⟩ ⟨#[49, 48]⟩ (strOfNums (Va.tx 4621256167635550208)) w (.inl rfl)
    (fun W _ => rwritten_text 2 0 _ _ W (.inl rfl))
    (fun W hW => rwritten_num 1 _ _ _ _ 0 W (by decide) (by decide) (fun W2 hW2 => vtostrI_any _ _ _ W2 (rtab10_on (rtab10_on ht hW) hW2) (by omega) (by omega) ok))
  have e : Sc.lex (Re.bl ⟨#[49, 48]⟩) (Re.bl (strOfNums (Va.tx 4621256167635550208))) = -1 := by kernel_rfl
  rw [e] at h
  exact h

theorem holds_two (w : World) :
    Calls Tryz.prog 7 #[.int .i64 5, .agg #[.int .i64 1, .int .u64 4611686018427387904, .string ⟨#[]⟩], .agg #[.int .i64 1, .int .u64 4607182418800017408, .string ⟨#[]⟩], .string ⟨#[]⟩] w fun e w' => e = .returned (.tuple #[.bool true, .int .i64 0]) ∧ Below w.heap.size w w' := by
  have c : Re.cn (Re.nu 1 4611686018427387904) (Re.nu 1 4607182418800017408) = 1 := by kernel_rfl
  exact holds_any 5 1 _ _ 1 _ _ _ 1 w (by omega) (by omega) (fun W _ => by
    have := compareN_any 1 4611686018427387904 ⟨#[]⟩ 1 4607182418800017408 ⟨#[]⟩ ⟨#[]⟩ W (by omega) (by omega) (by omega) (by omega) (by decide) (by decide)
    rw [c] at this
    exact this)

set_option maxRecDepth 100000 in
set_option maxHeartbeats 4000000 in
theorem rawake_any (w : World) (ht : Tab10 w) : Calls Tryz.prog 5 #[] w fun e w' => e = .returned (.bool true) ∧ Below w.heap.size w w' := by
  have S10 := hid (fun W => rstr_any ⟨#[49, 48]⟩ W)
  have N9 := hid (fun W => rnum_any 4621256167635550208 W)
  have N2 := hid (fun W => rnum_any 4611686018427387904 W)
  have N1 := hid (fun W => rnum_any 4607182418800017408 W)
  have SB := hid (fun W => rstr_any ⟨#[98]⟩ W)
  have SA := hid (fun W => rstr_any ⟨#[97]⟩ W)
  have CP := hid (fun W (h : Below w.heap.size w W) => cmp_nine W (rtab10_on ht h))
  have HD := hid (fun W => holds_two W)
  have QU := hid (fun W => queued_any W)
  have SO : Hid (∀ (W : World) (g : Nat), Bx W g 24 #[.int .i64 2, .int .u64 0, .string ⟨#[98]⟩, .int .i64 1, .int .u64 4607182418800017408, .string ⟨#[]⟩, .int .i64 2, .int .u64 0, .string ⟨#[97]⟩] → Calls Tryz.prog 19 #[.slice (some ⟨g, 0, none⟩) 3 3] W fun e w' => ∃ g', e = .returned (.slice (some ⟨g', 0, none⟩) 3 3) ∧ Bx w' g' 3 #[.int .i64 1, .int .i64 2, .int .i64 0] ∧ Below W.heap.size W w') := fun W g hb => by
    refine (sort_any (some ⟨g, 0, none⟩) 3 Re.v3 W (.inr ⟨g, 0, rfl, fun i a hi => ?_⟩) ?_ (by decide)).mono ?_
    · have hl : i < 3 := (List.getElem?_eq_some_iff.1 hi).1
      rcases (show i = 0 ∨ i = 1 ∨ i = 2 by omega) with rfl | rfl | rfl
      · obtain rfl := Option.some.inj hi
        exact ⟨hb.cell 0 _ rfl, hb.cell 1 _ rfl, hb.cell 2 _ rfl⟩
      · obtain rfl := Option.some.inj hi
        exact ⟨hb.cell 3 _ rfl, hb.cell 4 _ rfl, hb.cell 5 _ rfl⟩
      · obtain rfl := Option.some.inj hi
        exact ⟨hb.cell 6 _ rfl, hb.cell 7 _ rfl, hb.cell 8 _ rfl⟩
    · intro a ha
      simp only [Re.v3, List.mem_cons, List.not_mem_nil, or_false] at ha
      rcases ha with rfl | rfl | rfl <;> decide
    · rintro e w' ⟨g', P, rfl, _, hx, hs, _, hB⟩
      have := Re.sorts3 hs
      subst this
      exact ⟨g', rfl, hx, hB⟩
  have B0 : Hid (Below w.heap.size w w) := Below.refl _ _
  clear ht
  go_enter Tryz.func5, Tryz.ntmps5
  go_wp2_with fail
  refine (S10.out _).mono ?_
  rintro e w1 ⟨rfl, b1⟩
  have B1 := hid (below_on B0.out b1)
  clear b1 B0 S10
  go_wp2_with fail
  refine (N9.out _).mono ?_
  rintro e w2 ⟨rfl, b2⟩
  have B2 := hid (below_on B1.out b2)
  clear b2 B1 N9
  go_wp2_with fail
  refine (CP.out _ B2.out).mono ?_
  rintro e w3 ⟨rfl, b3⟩
  have B3 := hid (below_on B2.out b3)
  clear b3 B2 CP
  go_wp2_with fail
  refine (N2.out _).mono ?_
  rintro e w4 ⟨rfl, b4⟩
  have B4 := hid (below_on B3.out b4)
  clear b4 B3 N2
  go_wp2_with fail
  refine (N1.out _).mono ?_
  rintro e w5 ⟨rfl, b5⟩
  have B5 := hid (below_on B4.out b5)
  clear b5 B4
  go_wp2_with fail
  refine (HD.out _).mono ?_
  rintro e w6 ⟨rfl, b6⟩
  have B6 := hid (below_on B5.out b6)
  clear b6 B5 HD
  go_wp2_with fail
  refine (SB.out _).mono ?_
  rintro e w7 ⟨rfl, b7⟩
  have B7 := hid (below_on B6.out b7)
  clear b7 B6 SB
  go_wp2_with fail
  refine (N1.out _).mono ?_
  rintro e w8 ⟨rfl, b8⟩
  have B8 := hid (below_on B7.out b8)
  clear b8 B7 N1
  go_wp2_with fail
  refine (SA.out _).mono ?_
  rintro e w9 ⟨rfl, b9⟩
  have B9 := hid (below_on (below_on B8.out b9) (alloc_b w9 (.cells #[.int .i64 2, .int .u64 0, .string ⟨#[98]⟩, .int .i64 1, .int .u64 4607182418800017408, .string ⟨#[]⟩, .int .i64 2, .int .u64 0, .string ⟨#[97]⟩] 24)))
  have X9 := hid (Bx.new w9 24 #[.int .i64 2, .int .u64 0, .string ⟨#[98]⟩, .int .i64 1, .int .u64 4607182418800017408, .string ⟨#[]⟩, .int .i64 2, .int .u64 0, .string ⟨#[97]⟩])
  clear b9 B8 SA
  go_wp2_with fail
  refine (SO.out _ _ X9.out).mono ?_
  rintro e wA ⟨g', rfl, xA, bA⟩
  have BA := hid (below_on B9.out bA)
  have l0 := xA.cell 0 _ rfl
  have l1 := xA.cell 1 _ rfl
  have l2 := xA.cell 2 _ rfl
  clear bA B9 X9 SO xA
  go_wp2_with fail
  refine (QU.out _).mono ?_
  rintro e wB ⟨rfl, bB⟩
  have F := hid (below_on BA.out bB)
  clear bB BA QU l0 l1 l2
  go_wp2_with fail
  go_ret
  exact ⟨rfl, F.out⟩
end Go.Proofs.YtigmhnlcmhpepaaGreatDoor

namespace Go.Proofs.YtigmhnlcmhpepaaGreatDoor
open Go Go.RowKit Go.Deep Go.ChangeShapes Go.WideShapes Go.ChangeAt

namespace Va
structure Vl where
  k : Int
  n : Int
  s : List Int
end Va
def VlW (a : Va.Vl) : Prop := (∀ x ∈ a.s, 0 ≤ x ∧ x < 256) ∧ (0 ≤ a.n ∧ a.n < 18446744073709551616) ∧ a.s.length ≤ 140737488351232
def VCells (w : World) (b o : Nat) (a : Va.Vl) : Prop := w.cell? ⟨b, o, none⟩ = some (.int .i64 a.k) ∧ w.cell? ⟨b, o + 1, none⟩ = some (.int .u64 a.n) ∧ w.cell? ⟨b, o + 2, none⟩ = some (.string (strOfNums a.s))
def LV (w : World) (p : Option Addr) (A : List Va.Vl) : Prop := A = [] ∨ ∃ b off, p = some ⟨b, off, none⟩ ∧ ∀ i a, A[i]? = some a → VCells w b (off + i * 3) a
theorem vcell_below {B : Nat} {w w' : World} {a : Addr} {v : Value} (h : w.cell? a = some v) (k : Below B w w') (hb : a.block < B) : w'.cell? a = some v := by
  rw [← h]; exact k.cell hb
theorem VCells.below {w w' : World} {b o : Nat} {a : Va.Vl} (h : VCells w b o a) (k : Below w.heap.size w w') : VCells w' b o a := by
  obtain ⟨c0, c1, c2⟩ := h
  exact ⟨vcell_below c0 k (cell_lt c0), vcell_below c1 k (cell_lt c1), vcell_below c2 k (cell_lt c2)⟩
theorem LV.below {w w' : World} {p : Option Addr} {A : List Va.Vl} (h : LV w p A) (k : Below w.heap.size w w') : LV w' p A := by
  rcases h with h | ⟨b, off, e, h⟩
  · exact .inl h
  · exact .inr ⟨b, off, e, fun i a hi => (h i a hi).below k⟩

theorem vlist3 {α : Type} {l : List α} (h : l.length = 3) : ∃ c0 c1 c2, l = [c0, c1, c2] := by
  match l, h with
  | [c0, c1, c2], _ => exact ⟨c0, c1, c2, rfl⟩

theorem open_val_cells {H : Type} {enc : TypeId × Value → H} {W : World} {fuel : Nat} {a0 a1 a2 : Value} {x : DataW H × List MemPlace} (hf : DataW.trod enc Tryz.prog W 0 (fun _ => true) true fuel 24 [a0, a1, a2] = some x)
    (hsz : ∀ n ∈ x.1.weights Tryz.prog 24, n ≤ reachBytes) :
    ∃ q : Va.Vl, (a0 = .int .i64 q.k ∧ a1 = .int .u64 q.n ∧ a2 = .string (strOfNums q.s)) ∧ VlW q ∧ q.s.length ≤ Rows.uptoBulk x.1 := by
  obtain ⟨xs, n, _, hx, _, hlen, hfs⟩ := DataW.trod_struct Tryz.underlying24 hf
  obtain ⟨y0, y1, y2, rfl⟩ := vlist3 hlen
  have c4 : Tryz.prog.cellsOf 3 = 1 := by kernel_rfl
  have c6 : Tryz.prog.cellsOf 22 = 1 := by kernel_rfl
  have cs : Tryz.prog.cellsOf 9 = 1 := by kernel_rfl
  have f0 : DataW.trod enc Tryz.prog W 0 (fun _ => true) true n 3 [a0] = some y0 := by simpa [c4] using hfs 0 _ rfl
  have f1 : DataW.trod enc Tryz.prog W 0 (fun _ => true) true n 22 [a1] = some y1 := by simpa [c6] using hfs 1 _ rfl
  have f2 : DataW.trod enc Tryz.prog W 0 (fun _ => true) true n 9 [a2] = some y2 := by simpa [cs] using hfs 2 _ rfl
  have hd : x.1 = .agg [y0.1, y1.1, y2.1] := by rw [hx]; rfl
  obtain ⟨bx, e0, _, w0⟩ := DataW.trod_int Tryz.underlying3 f0
  obtain ⟨v, e1, _, w1⟩ := DataW.trod_int Tryz.underlying22 f1
  obtain ⟨s, e2, q2, _⟩ := DataW.trod_string Tryz.underlying9 f2
  have hs : s.data.toList.length ≤ reachBytes := by
    refine hsz _ ?_
    rw [hd]
    simp only [DataW.weights, Tryz.underlying24]
    refine DataW.weights_mem_each (ts := [3, 22, 9]) (ds := [y0.1, y1.1, y2.1]) (j := 2) (t := 9) (d := y2.1) rfl rfl _ ?_
    rw [q2]
    simp [DataW.weights]
  have hb : s.data.toList.length ≤ Rows.uptoBulk x.1 := by
    rw [hd, q2]
    simp only [Rows.uptoBulk, Rows.uptoBulkAll]
    simp
    omega
  have b1 := bounds_u64 w1
  refine ⟨⟨bx, v, s.data.toList.map (fun b => (b.toNat : Int))⟩, ⟨(List.cons.inj e0).1, (List.cons.inj e1).1, ?_⟩, ⟨fun x hx => (Str.self s).mem hx, ⟨b1.1, Int.lt_of_le_of_lt b1.2 (by decide)⟩, ?_⟩, ?_⟩
  · rw [(List.cons.inj e2).1, ← str_of (Str.self s)]
  · rw [List.length_map]; exact Nat.le_trans hs (by decide)
  · rw [List.length_map]; exact hb

theorem varray3 {α : Type} {cs : Array α} (h : cs.size = 3) : ∃ c0 c1 c2, cs = #[c0, c1, c2] := by
  obtain ⟨l⟩ := cs
  match l, h with
  | [c0, c1, c2], _ => exact ⟨c0, c1, c2, rfl⟩

set_option maxRecDepth 100000 in
theorem open_val {H : Type} {enc : TypeId × Value → H} {W : World} {base : Nat} {v : Value} {d : DataW H} {p : List MemPlace} (hv : Value.okWide Tryz.prog W .any base 24 v) (h : DataW.Trod enc Tryz.prog W 0 (fun _ => true) true 24 v d p)
    (hsz : ∀ n ∈ d.weights Tryz.prog 24, n ≤ reachBytes) :
    ∃ q : Va.Vl, v = .agg #[.int .i64 q.k, .int .u64 q.n, .string (strOfNums q.s)] ∧ VlW q ∧ q.s.length ≤ Rows.uptoBulk d := by
  obtain ⟨cs, rfl, hs7⟩ := okWide_struct Tryz.underlying24 hv
  obtain ⟨a0, a1, a2, rfl⟩ := varray3 (hs7.trans (show Tryz.prog.cellsOf 24 = 3 by kernel_rfl))
  obtain ⟨fuel, hf⟩ := h
  have hf' : DataW.trod enc Tryz.prog W 0 (fun _ => true) true fuel 24 [a0, a1, a2] = some (d, p) := by simpa [Value.cells] using hf
  obtain ⟨q, ⟨e0, e1, e2⟩, h1, h3⟩ := open_val_cells (x := (d, p)) hf' hsz
  rw [e0, e1, e2]
  exact ⟨q, rfl, h1, h3⟩

def LS (w : World) (a : Option Addr) (its : List ByteArray) : Prop := its = [] ∨ ∃ b off, a = some ⟨b, off, none⟩ ∧ ∀ i it, its[i]? = some it → w.cell? ⟨b, off + i, none⟩ = some (.string it)
theorem LS.below {w w' : World} {p : Option Addr} {A : List ByteArray} (h : LS w p A) (k : Below w.heap.size w w') : LS w' p A := by
  rcases h with h | ⟨b, off, e, h⟩
  · exact .inl h
  · exact .inr ⟨b, off, e, fun i a hi => vcell_below (h i a hi) k (cell_lt (h i a hi))⟩

end Go.Proofs.YtigmhnlcmhpepaaGreatDoor

namespace Go.Proofs.YtigmhnlcmhpepaaGreatDoor
open Go Go.RowKit Go.Deep Go.Shelf

/-- A value's box. -/
structure VBr (w : World) (k n : Int) (t : ByteArray) (W : World) : Prop where
  bel : Below w.heap.size w W
  box : Bx W w.heap.size 24 #[.int .i64 k, .int .u64 n, .string t]
theorem VBr.new (w : World) (k n : Int) (t : ByteArray) : VBr w k n t (w.alloc (.cells #[.int .i64 k, .int .u64 n, .string t] 24)) := ⟨alloc_b w _, Bx.new w _ _⟩
theorem VBr.on {w W W' : World} {k n : Int} {t : ByteArray} (h : VBr w k n t W) (b : Below W.heap.size W W') : VBr w k n t W' := ⟨below_on h.bel b, h.box.on b⟩
theorem VBr.cells {w W : World} {k n : Int} {t : ByteArray} (h : VBr w k n t W) : W.cell? ⟨w.heap.size, 0, none⟩ = some (.int .i64 k) ∧ W.cell? ⟨w.heap.size, 1, none⟩ = some (.int .u64 n) ∧ W.cell? ⟨w.heap.size, 2, none⟩ = some (.string t) := ⟨h.box.cell 0 _ rfl, h.box.cell 1 _ rfl, h.box.cell 2 _ rfl⟩

set_option maxRecDepth 100000 in
set_option maxHeartbeats 1000000 in
theorem risnan_any (k n : Int) (s : ByteArray) (w : World) (n0 : 0 ≤ n) (n1 : n < 18446744073709551616) (hk : k ≠ 2) :
    Calls Tryz.prog 9 #[.agg #[.int .i64 k, .int .u64 n, .string s]] w fun e w' => e = .returned (.bool (!Ie.okd (Re.nu k n))) ∧ Below w.heap.size w w' := by
  have NU : Hid (∀ W, Calls Tryz.prog 8 #[.agg #[.int .i64 k, .int .u64 n, .string s]] W fun e w' => e = .returned (.bool true) ∧ Below W.heap.size W w') := fun W => by have := vnumeric_any k n s W; rwa [decide_eq_true hk] at this
  have TN := hid (fun W => vtonum_any k n s W hk)
  have m0 : 0 ≤ Re.nu k n := by unfold Re.nu; split <;> omega
  have m1 : Re.nu k n < 18446744073709551616 := by unfold Re.nu; split <;> omega
  have B0 := hid (VBr.new w k n s)
  have E : Hid (decide (9218868437227405312 < (Re.nu k n) % 9223372036854775808) = !Ie.okd (Re.nu k n)) := by
    rw [Hid, Ie.okd]
    by_cases c : Re.nu k n % 9223372036854775808 ≤ 9218868437227405312
    · rw [decide_eq_true c, decide_eq_false (by omega)]; rfl
    · rw [decide_eq_false c, decide_eq_true (by omega)]; rfl
  have tm : (Re.nu k n).tmod 9223372036854775808 = Re.nu k n % 9223372036854775808 := Int.tmod_eq_emod_of_nonneg m0
  rw [← E.out]
  generalize Re.nu k n = X at *
  clear E hk n0 n1
  go_enter Tryz.func9, Tryz.ntmps9
  go_wp2_with fail
  generalize w.alloc (.cells #[.int .i64 k, .int .u64 n, .string s] 24) = wA at *
  refine (NU.out _).mono ?_
  rintro e w1 ⟨rfl, b1⟩
  have B1 := hid (B0.out.on b1)
  clear b1 B0 NU
  obtain ⟨c0, c1, c2⟩ := B1.out.cells
  go_wp2_with fail
  refine (TN.out _).mono ?_
  rintro e w2 ⟨rfl, b2⟩
  have F := hid (B1.out.on b2).bel
  clear b2 B1 TN c0 c1 c2
  go_wp2_with fail
  go_ret
  exact ⟨by simp, F.out⟩
end Go.Proofs.YtigmhnlcmhpepaaGreatDoor

namespace Go.Proofs.YtigmhnlcmhpepaaGreatDoor
open Go Go.RowKit Go.Deep Go.Shelf

theorem eq_b7 (a b c d e f g : Bool) (w : World) : (Op.equalIn 10000 29 (.agg #[.bool a, .bool b, .bool c, .bool d, .bool e, .bool f, .bool g]) (.agg #[.bool a, .bool b, .bool c, .bool d, .bool e, .bool f, .bool g])).run Tryz.prog w = .ok true w := by
  have u3 := Tryz.underlying4
  have a3 := Tryz.isAgg4
  have z3 := Tryz.sizeOf4
  rw [show (10000 : Nat) = 9999 + 1 from rfl, Op.equalIn]
  simp only [Sem.run_bind, run_underlying Tryz.underlying29, Result.andThen_ok]
  simp only [Std.Legacy.Range.forIn_eq_forIn_range', Std.Legacy.Range.size, Nat.sub_zero, Nat.add_sub_cancel, Nat.div_one, List.range'_succ, List.range'_zero, List.forIn_cons, List.forIn_nil]
  go_simp

namespace Re
/-- The relations that were asked so far. -/
def hs (C : Int) (E : Bool) (j : Nat) : Array Value := #[.bool false, .bool (decide (1 < j) && E && ag 1 C), .bool (decide (2 < j) && E && ag 2 C), .bool (decide (3 < j) && E && ag 3 C), .bool (decide (4 < j) && E && ag 4 C), .bool (decide (5 < j) && E && ag 5 C), .bool (decide (6 < j) && E && ag 6 C)]
theorem hs_at (C : Int) (E : Bool) {j : Nat} (h1 : 1 ≤ j) (h6 : j ≤ 6) : (hs C E j)[j]? = some (.bool false) := by
  rcases (show j = 1 ∨ j = 2 ∨ j = 3 ∨ j = 4 ∨ j = 5 ∨ j = 6 by omega) with rfl | rfl | rfl | rfl | rfl | rfl <;> simp [hs]
theorem hs_set (C : Int) (E : Bool) {j : Nat} (h1 : 1 ≤ j) (h6 : j ≤ 6) : (hs C E j).setIfInBounds j (.bool (E && ag (j : Int) C)) = hs C E (j + 1) := by
  rcases (show j = 1 ∨ j = 2 ∨ j = 3 ∨ j = 4 ∨ j = 5 ∨ j = 6 by omega) with rfl | rfl | rfl | rfl | rfl | rfl <;> simp [hs]
/-- The state: two values' boxes and the relations'. -/
structure Tr (w : World) (k n : Int) (s : ByteArray) (l m : Int) (t : ByteArray) (g : Nat) (c : Array Value) (W : World) : Prop where
  bx : B2 w k n s l m t W
  hb : Bx W g 29 c
  gl : w.heap.size + 2 ≤ g
theorem Tr.on {w : World} {k n : Int} {s : ByteArray} {l m : Int} {t : ByteArray} {g : Nat} {c : Array Value} {W W' : World} (h : Tr w k n s l m t g c W) (b : Below W.heap.size W W') : Tr w k n s l m t g c W' := ⟨h.bx.on b, h.hb.on b, h.gl⟩
end Re
end Go.Proofs.YtigmhnlcmhpepaaGreatDoor

namespace Go.Proofs.YtigmhnlcmhpepaaGreatDoor
open Go Go.RowKit Go.Deep Go.Shelf

namespace Re
/-- What Compare's answers can be. -/
inductive TrC (C E D F : Int) (na nb ia ib : Bool) : Prop
  | err (h : E ≠ 0) (c : C = 0) (p : na = false) : TrC C E D F na nb ia ib
  | err2 (h : E ≠ 0) (c : C = 0) (p : na = true) (q : nb = false) : TrC C E D F na nb ia ib
  | nan (h : E = 0) (f : F = 0) (c : C = 2) (d : D = 2) (p : na = true) (q : nb = true) (r : ia = true) : TrC C E D F na nb ia ib
  | nan2 (h : E = 0) (f : F = 0) (c : C = 2) (d : D = 2) (p : na = true) (q : nb = true) (r : ia = false) (r' : ib = true) : TrC C E D F na nb ia ib
  | tx (h : E = 0) (f : F = 0) (c : C = -1 ∨ C = 0 ∨ C = 1) (d : D = - C) (p : na = false) : TrC C E D F na nb ia ib
  | tx2 (h : E = 0) (f : F = 0) (c : C = -1 ∨ C = 0 ∨ C = 1) (d : D = - C) (p : na = true) (q : nb = false) : TrC C E D F na nb ia ib
  | nu (h : E = 0) (f : F = 0) (c : C = -1 ∨ C = 0 ∨ C = 1) (d : D = - C) (p : na = true) (q : nb = true) (r : ia = false) (r' : ib = false) : TrC C E D F na nb ia ib
end Re

set_option maxRecDepth 100000 in
set_option maxHeartbeats 8000000 in
theorem rtrich_of (k n : Int) (s : ByteArray) (l m : Int) (t c : ByteArray) (C E D F : Int) (na nb ia ib : Bool) (w : World) (T : Re.TrC C E D F na nb ia ib)
    (AW : ∀ W, Below w.heap.size w W → Calls Tryz.prog 5 #[] W fun e w' => e = .returned (.bool true) ∧ Below W.heap.size W w')
    (CA : ∀ W, Below w.heap.size w W → Calls Tryz.prog 6 #[.agg #[.int .i64 k, .int .u64 n, .string s], .agg #[.int .i64 l, .int .u64 m, .string t], .string c] W fun e w' => e = .returned (.tuple #[.int .i64 C, .int .i64 E]) ∧ Below W.heap.size W w')
    (HO : ∀ j : Nat, 1 ≤ j → j ≤ 6 → ∀ W, Below w.heap.size w W → Calls Tryz.prog 7 #[.int .i64 (j : Int), .agg #[.int .i64 k, .int .u64 n, .string s], .agg #[.int .i64 l, .int .u64 m, .string t], .string c] W fun e w' => e = .returned (.tuple #[.bool (decide (E = 0) && Re.ag (j : Int) C), .int .i64 E]) ∧ Below W.heap.size W w')
    (CB : E = 0 → ∀ W, Below w.heap.size w W → Calls Tryz.prog 6 #[.agg #[.int .i64 l, .int .u64 m, .string t], .agg #[.int .i64 k, .int .u64 n, .string s], .string c] W fun e w' => e = .returned (.tuple #[.int .i64 D, .int .i64 F]) ∧ Below W.heap.size W w')
    (NA : ∀ W, Calls Tryz.prog 8 #[.agg #[.int .i64 k, .int .u64 n, .string s]] W fun e w' => e = .returned (.bool na) ∧ Below W.heap.size W w')
    (NB : ∀ W, Calls Tryz.prog 8 #[.agg #[.int .i64 l, .int .u64 m, .string t]] W fun e w' => e = .returned (.bool nb) ∧ Below W.heap.size W w')
    (IA : na = true → ∀ W, Calls Tryz.prog 9 #[.agg #[.int .i64 k, .int .u64 n, .string s]] W fun e w' => e = .returned (.bool ia) ∧ Below W.heap.size W w')
    (IB : nb = true → ∀ W, Calls Tryz.prog 9 #[.agg #[.int .i64 l, .int .u64 m, .string t]] W fun e w' => e = .returned (.bool ib) ∧ Below W.heap.size W w') :
    Calls Tryz.prog 3 #[.agg #[.int .i64 k, .int .u64 n, .string s], .agg #[.int .i64 l, .int .u64 m, .string t], .string c] w fun e w' => e = .returned (.bool true) ∧ Below w.heap.size w w' := by
  have AW := hid AW
  have CA := hid CA
  have HO := hid HO
  have CB := hid CB
  have NA := hid NA
  have NB := hid NB
  have IA := hid IA
  have IB := hid IB
  have T := hid T
  have B0 := hid (Re.B2.new w k n s l m t)
  have sz : Hid (((w.alloc (.cells #[.int .i64 k, .int .u64 n, .string s] 24)).alloc (.cells #[.int .i64 l, .int .u64 m, .string t] 24)).heap.size = w.heap.size + 2) := by rw [Hid, World.size_alloc, World.size_alloc]
  go_enter Tryz.func3, Tryz.ntmps3
  go_wp2_with fail
  generalize (w.alloc (.cells #[.int .i64 k, .int .u64 n, .string s] 24)).alloc (.cells #[.int .i64 l, .int .u64 m, .string t] 24) = wA at *
  refine (AW.out _ B0.out.bel).mono ?_
  rintro e w1 ⟨rfl, b1⟩
  have B1 := hid (B0.out.on b1)
  have S1 := hid (Nat.le_trans (Nat.le_of_eq sz.out.symm) b1.size)
  clear b1 B0 AW sz
  obtain ⟨c0, c1, c2, d0, d1, d2⟩ := B1.out.flat
  go_wp2_with fail
  refine (CA.out _ B1.out.bel).mono ?_
  rintro e w2 ⟨rfl, b2⟩
  have B2 := hid (B1.out.on b2)
  have S2 := hid (Nat.le_trans S1.out b2.size)
  clear b2 B1 CA S1 c0 c1 c2 d0 d1 d2
  have I0 : Hid (Re.Tr w k n s l m t w2.heap.size (Re.hs C (decide (E = 0)) 1) (w2.alloc (.cells #[.bool false, .bool false, .bool false, .bool false, .bool false, .bool false, .bool false] 29))) := by
    refine ⟨B2.out.on (alloc_b _ _), ?_, S2.out⟩
    rw [show Re.hs C (decide (E = 0)) 1 = #[.bool false, .bool false, .bool false, .bool false, .bool false, .bool false, .bool false] by simp [Re.hs]]
    exact Bx.new _ _ _
  clear B2 S2
  go_upto_region 6 with fail
  generalize w2.alloc (.cells #[.bool false, .bool false, .bool false, .bool false, .bool false, .bool false, .bool false] 29) = w3 at *
  generalize w2.heap.size = g at *
  go_wp2_with fail
  go_loopg [11] 6 (fun q ov wr => ∃ j : Nat, Hid (1 ≤ j ∧ j + q = 7) ∧ ov = .int .i64 (j : Int) ∧ Hid (Re.Tr w k n s l m t g (Re.hs C (decide (E = 0)) j) wr))
  case atStart => exact ⟨1, by rw [Hid]; omega, rfl, I0⟩
  case round =>
    obtain ⟨j, hj, rfl, I⟩ := hrel
    clear I0
    by_cases j6 : j ≤ 6
    · have HJ := hid (HO.out j hj.out.1 j6)
      generalize hH : (decide (E = 0) && Re.ag (j : Int) C) = H at *
      have ji : (j : Int) ≤ 6 := by omega
      have ji7 : (j : Int) < 7 := by omega
      have jn7 : j < 7 := by omega
      obtain ⟨c0, c1, c2, d0, d1, d2⟩ := I.out.bx.flat
      go_wp2_with fail
      refine (HJ.out _ I.out.bx.bel).mono ?_
      rintro e w4 ⟨rfl, b4⟩
      have J := hid (I.out.on b4)
      clear b4 I HJ c0 c1 c2 d0 d1 d2
      have hc := J.out.hb.cell j _ (Re.hs_at C _ hj.out.1 j6)
      have hf := J.out.hb.free j
      have N : Hid (Re.Tr w k n s l m t g (Re.hs C (decide (E = 0)) (j + 1)) (w4.setCell ⟨g, j, none⟩ (.bool H))) := by
        refine ⟨⟨J.out.bx.bel.setCell (p := ⟨g, j, none⟩) (by show w.heap.size ≤ g; have := J.out.gl; omega) _, J.out.bx.vb.far (by have := J.out.gl; omega), J.out.bx.vc.far (by have := J.out.gl; omega)⟩, ?_, J.out.gl⟩
        rw [← hH, ← Re.hs_set C _ hj.out.1 j6]
        exact J.out.hb.set _ _
      clear J hH
      go_wp2_with fail
      go_roundg (6 - j)
      case measure => have := hj.out; omega
      case rel => exact ⟨j + 1, by rw [Hid]; have := hj.out; omega, by go_num, N⟩
    · have ji : ¬ (j : Int) ≤ 6 := by omega
      obtain rfl : j = 7 := by have := hj.out; omega
      clear HO hj
      cases T.out with
      | err hE hC pa =>
        subst hC pa
        clear T IA IB CB NB
        have EE : Re.hs 0 (decide (E = 0)) 7 = #[.bool false, .bool false, .bool false, .bool false, .bool false, .bool false, .bool false] := by rw [decide_eq_false hE]; simp [Re.hs]
        have e0 : (E == 0) = false := by simpa using hE
        rw [EE] at I
        clear EE
        have EQ := fun W => eq_b7 false false false false false false false W
        obtain ⟨c0, c1, c2, d0, d1, d2⟩ := I.out.bx.flat
        have h0 := I.out.hb.cell 0 _ rfl
        have h1 := I.out.hb.cell 1 _ rfl
        have h2 := I.out.hb.cell 2 _ rfl
        have h3 := I.out.hb.cell 3 _ rfl
        have h4 := I.out.hb.cell 4 _ rfl
        have h5 := I.out.hb.cell 5 _ rfl
        have h6 := I.out.hb.cell 6 _ rfl
        go_wp2_with fail
        refine (NA.out _).mono ?_
        rintro e v1 ⟨rfl, b1⟩
        have I1 := hid (I.out.on b1)
        clear b1 I
        clear c0 c1 c2 d0 d1 d2 h0 h1 h2 h3 h4 h5 h6
        have R := hid I1.out.bx.bel
        clear I1
        go_wp2_with fail
        go_ret
        exact ⟨rfl, R.out⟩
      | err2 hE hC pa pb =>
        subst hC pa pb
        clear T IA IB CB
        have EE : Re.hs 0 (decide (E = 0)) 7 = #[.bool false, .bool false, .bool false, .bool false, .bool false, .bool false, .bool false] := by rw [decide_eq_false hE]; simp [Re.hs]
        have e0 : (E == 0) = false := by simpa using hE
        rw [EE] at I
        clear EE
        have EQ := fun W => eq_b7 false false false false false false false W
        obtain ⟨c0, c1, c2, d0, d1, d2⟩ := I.out.bx.flat
        have h0 := I.out.hb.cell 0 _ rfl
        have h1 := I.out.hb.cell 1 _ rfl
        have h2 := I.out.hb.cell 2 _ rfl
        have h3 := I.out.hb.cell 3 _ rfl
        have h4 := I.out.hb.cell 4 _ rfl
        have h5 := I.out.hb.cell 5 _ rfl
        have h6 := I.out.hb.cell 6 _ rfl
        go_wp2_with fail
        refine (NA.out _).mono ?_
        rintro e v1 ⟨rfl, b1⟩
        have I1 := hid (I.out.on b1)
        clear b1 I
        clear c0 c1 c2 d0 d1 d2 h0 h1 h2 h3 h4 h5 h6
        obtain ⟨c0, c1, c2, d0, d1, d2⟩ := I1.out.bx.flat
        have h0 := I1.out.hb.cell 0 _ rfl
        have h1 := I1.out.hb.cell 1 _ rfl
        have h2 := I1.out.hb.cell 2 _ rfl
        have h3 := I1.out.hb.cell 3 _ rfl
        have h4 := I1.out.hb.cell 4 _ rfl
        have h5 := I1.out.hb.cell 5 _ rfl
        have h6 := I1.out.hb.cell 6 _ rfl
        go_wp2_with fail
        refine (NB.out _).mono ?_
        rintro e v2 ⟨rfl, b2⟩
        have I2 := hid (I1.out.on b2)
        clear b2 I1
        clear c0 c1 c2 d0 d1 d2 h0 h1 h2 h3 h4 h5 h6
        have R := hid I2.out.bx.bel
        clear I2
        go_wp2_with fail
        go_ret
        exact ⟨rfl, R.out⟩
      | nan hE hF hC hD pa pb r =>
        subst hE hF hC hD pa pb r
        have CB2 := hid (CB.out rfl)
        clear CB
        have IA2 := hid (IA.out rfl)
        clear IA
        clear T IB
        have EE : Re.hs (2) (decide ((0 : Int) = 0)) 7 = #[.bool false, .bool false, .bool false, .bool false, .bool true, .bool false, .bool false] := by simp [Re.hs, Re.ag]
        rw [EE] at I
        clear EE
        have EQ := fun W => eq_b7 false false false false true false false W
        obtain ⟨c0, c1, c2, d0, d1, d2⟩ := I.out.bx.flat
        have h0 := I.out.hb.cell 0 _ rfl
        have h1 := I.out.hb.cell 1 _ rfl
        have h2 := I.out.hb.cell 2 _ rfl
        have h3 := I.out.hb.cell 3 _ rfl
        have h4 := I.out.hb.cell 4 _ rfl
        have h5 := I.out.hb.cell 5 _ rfl
        have h6 := I.out.hb.cell 6 _ rfl
        go_wp2_with fail
        refine (NA.out _).mono ?_
        rintro e v1 ⟨rfl, b1⟩
        have I1 := hid (I.out.on b1)
        clear b1 I
        clear c0 c1 c2 d0 d1 d2 h0 h1 h2 h3 h4 h5 h6
        obtain ⟨c0, c1, c2, d0, d1, d2⟩ := I1.out.bx.flat
        have h0 := I1.out.hb.cell 0 _ rfl
        have h1 := I1.out.hb.cell 1 _ rfl
        have h2 := I1.out.hb.cell 2 _ rfl
        have h3 := I1.out.hb.cell 3 _ rfl
        have h4 := I1.out.hb.cell 4 _ rfl
        have h5 := I1.out.hb.cell 5 _ rfl
        have h6 := I1.out.hb.cell 6 _ rfl
        go_wp2_with fail
        refine (NB.out _).mono ?_
        rintro e v2 ⟨rfl, b2⟩
        have I2 := hid (I1.out.on b2)
        clear b2 I1
        clear c0 c1 c2 d0 d1 d2 h0 h1 h2 h3 h4 h5 h6
        obtain ⟨c0, c1, c2, d0, d1, d2⟩ := I2.out.bx.flat
        have h0 := I2.out.hb.cell 0 _ rfl
        have h1 := I2.out.hb.cell 1 _ rfl
        have h2 := I2.out.hb.cell 2 _ rfl
        have h3 := I2.out.hb.cell 3 _ rfl
        have h4 := I2.out.hb.cell 4 _ rfl
        have h5 := I2.out.hb.cell 5 _ rfl
        have h6 := I2.out.hb.cell 6 _ rfl
        go_wp2_with fail
        refine (IA2.out _).mono ?_
        rintro e v3 ⟨rfl, b3⟩
        have I3 := hid (I2.out.on b3)
        clear b3 I2
        clear c0 c1 c2 d0 d1 d2 h0 h1 h2 h3 h4 h5 h6
        obtain ⟨c0, c1, c2, d0, d1, d2⟩ := I3.out.bx.flat
        have h0 := I3.out.hb.cell 0 _ rfl
        have h1 := I3.out.hb.cell 1 _ rfl
        have h2 := I3.out.hb.cell 2 _ rfl
        have h3 := I3.out.hb.cell 3 _ rfl
        have h4 := I3.out.hb.cell 4 _ rfl
        have h5 := I3.out.hb.cell 5 _ rfl
        have h6 := I3.out.hb.cell 6 _ rfl
        have XW := hid (And.intro (I3.out.on (alloc_b v3 (.cells #[.bool false, .bool false, .bool false, .bool false, .bool true, .bool false, .bool false] 29))) (Bx.new v3 29 #[.bool false, .bool false, .bool false, .bool false, .bool true, .bool false, .bool false]))
        clear I3
        go_upto_region 17 with fail
        generalize v3.alloc (.cells #[.bool false, .bool false, .bool false, .bool false, .bool true, .bool false, .bool false] 29) = u at *
        generalize v3.heap.size = gw at *
        clear c0 c1 c2 d0 d1 d2 h0 h1 h2 h3 h4 h5 h6
        obtain ⟨c0, c1, c2, d0, d1, d2⟩ := XW.out.1.bx.flat
        go_wp2_with fail
        refine (CB2.out _ XW.out.1.bx.bel).mono ?_
        rintro e z ⟨rfl, bz⟩
        have XZ := hid (And.intro (XW.out.1.on bz) (XW.out.2.on bz))
        clear bz XW CB2 c0 c1 c2 d0 d1 d2
        have h0 := XZ.out.1.hb.cell 0 _ rfl
        have h1 := XZ.out.1.hb.cell 1 _ rfl
        have h2 := XZ.out.1.hb.cell 2 _ rfl
        have h3 := XZ.out.1.hb.cell 3 _ rfl
        have h4 := XZ.out.1.hb.cell 4 _ rfl
        have h5 := XZ.out.1.hb.cell 5 _ rfl
        have h6 := XZ.out.1.hb.cell 6 _ rfl
        have g0 := XZ.out.2.cell 0 _ rfl
        have g1 := XZ.out.2.cell 1 _ rfl
        have g2 := XZ.out.2.cell 2 _ rfl
        have g3 := XZ.out.2.cell 3 _ rfl
        have g4 := XZ.out.2.cell 4 _ rfl
        have g5 := XZ.out.2.cell 5 _ rfl
        have g6 := XZ.out.2.cell 6 _ rfl
        have R := hid XZ.out.1.bx.bel
        clear XZ
        go_wp2_with fail
        go_ret
        exact ⟨rfl, R.out⟩
      | nan2 hE hF hC hD pa pb r q =>
        subst hE hF hC hD pa pb r q
        have CB2 := hid (CB.out rfl)
        clear CB
        have IA2 := hid (IA.out rfl)
        clear IA
        have IB2 := hid (IB.out rfl)
        clear IB
        clear T
        have EE : Re.hs (2) (decide ((0 : Int) = 0)) 7 = #[.bool false, .bool false, .bool false, .bool false, .bool true, .bool false, .bool false] := by simp [Re.hs, Re.ag]
        rw [EE] at I
        clear EE
        have EQ := fun W => eq_b7 false false false false true false false W
        obtain ⟨c0, c1, c2, d0, d1, d2⟩ := I.out.bx.flat
        have h0 := I.out.hb.cell 0 _ rfl
        have h1 := I.out.hb.cell 1 _ rfl
        have h2 := I.out.hb.cell 2 _ rfl
        have h3 := I.out.hb.cell 3 _ rfl
        have h4 := I.out.hb.cell 4 _ rfl
        have h5 := I.out.hb.cell 5 _ rfl
        have h6 := I.out.hb.cell 6 _ rfl
        go_wp2_with fail
        refine (NA.out _).mono ?_
        rintro e v1 ⟨rfl, b1⟩
        have I1 := hid (I.out.on b1)
        clear b1 I
        clear c0 c1 c2 d0 d1 d2 h0 h1 h2 h3 h4 h5 h6
        obtain ⟨c0, c1, c2, d0, d1, d2⟩ := I1.out.bx.flat
        have h0 := I1.out.hb.cell 0 _ rfl
        have h1 := I1.out.hb.cell 1 _ rfl
        have h2 := I1.out.hb.cell 2 _ rfl
        have h3 := I1.out.hb.cell 3 _ rfl
        have h4 := I1.out.hb.cell 4 _ rfl
        have h5 := I1.out.hb.cell 5 _ rfl
        have h6 := I1.out.hb.cell 6 _ rfl
        go_wp2_with fail
        refine (NB.out _).mono ?_
        rintro e v2 ⟨rfl, b2⟩
        have I2 := hid (I1.out.on b2)
        clear b2 I1
        clear c0 c1 c2 d0 d1 d2 h0 h1 h2 h3 h4 h5 h6
        obtain ⟨c0, c1, c2, d0, d1, d2⟩ := I2.out.bx.flat
        have h0 := I2.out.hb.cell 0 _ rfl
        have h1 := I2.out.hb.cell 1 _ rfl
        have h2 := I2.out.hb.cell 2 _ rfl
        have h3 := I2.out.hb.cell 3 _ rfl
        have h4 := I2.out.hb.cell 4 _ rfl
        have h5 := I2.out.hb.cell 5 _ rfl
        have h6 := I2.out.hb.cell 6 _ rfl
        go_wp2_with fail
        refine (IA2.out _).mono ?_
        rintro e v3 ⟨rfl, b3⟩
        have I3 := hid (I2.out.on b3)
        clear b3 I2
        clear c0 c1 c2 d0 d1 d2 h0 h1 h2 h3 h4 h5 h6
        obtain ⟨c0, c1, c2, d0, d1, d2⟩ := I3.out.bx.flat
        have h0 := I3.out.hb.cell 0 _ rfl
        have h1 := I3.out.hb.cell 1 _ rfl
        have h2 := I3.out.hb.cell 2 _ rfl
        have h3 := I3.out.hb.cell 3 _ rfl
        have h4 := I3.out.hb.cell 4 _ rfl
        have h5 := I3.out.hb.cell 5 _ rfl
        have h6 := I3.out.hb.cell 6 _ rfl
        go_wp2_with fail
        refine (IB2.out _).mono ?_
        rintro e v4 ⟨rfl, b4⟩
        have I4 := hid (I3.out.on b4)
        clear b4 I3
        clear c0 c1 c2 d0 d1 d2 h0 h1 h2 h3 h4 h5 h6
        obtain ⟨c0, c1, c2, d0, d1, d2⟩ := I4.out.bx.flat
        have h0 := I4.out.hb.cell 0 _ rfl
        have h1 := I4.out.hb.cell 1 _ rfl
        have h2 := I4.out.hb.cell 2 _ rfl
        have h3 := I4.out.hb.cell 3 _ rfl
        have h4 := I4.out.hb.cell 4 _ rfl
        have h5 := I4.out.hb.cell 5 _ rfl
        have h6 := I4.out.hb.cell 6 _ rfl
        have XW := hid (And.intro (I4.out.on (alloc_b v4 (.cells #[.bool false, .bool false, .bool false, .bool false, .bool true, .bool false, .bool false] 29))) (Bx.new v4 29 #[.bool false, .bool false, .bool false, .bool false, .bool true, .bool false, .bool false]))
        clear I4
        go_upto_region 17 with fail
        generalize v4.alloc (.cells #[.bool false, .bool false, .bool false, .bool false, .bool true, .bool false, .bool false] 29) = u at *
        generalize v4.heap.size = gw at *
        clear c0 c1 c2 d0 d1 d2 h0 h1 h2 h3 h4 h5 h6
        obtain ⟨c0, c1, c2, d0, d1, d2⟩ := XW.out.1.bx.flat
        go_wp2_with fail
        refine (CB2.out _ XW.out.1.bx.bel).mono ?_
        rintro e z ⟨rfl, bz⟩
        have XZ := hid (And.intro (XW.out.1.on bz) (XW.out.2.on bz))
        clear bz XW CB2 c0 c1 c2 d0 d1 d2
        have h0 := XZ.out.1.hb.cell 0 _ rfl
        have h1 := XZ.out.1.hb.cell 1 _ rfl
        have h2 := XZ.out.1.hb.cell 2 _ rfl
        have h3 := XZ.out.1.hb.cell 3 _ rfl
        have h4 := XZ.out.1.hb.cell 4 _ rfl
        have h5 := XZ.out.1.hb.cell 5 _ rfl
        have h6 := XZ.out.1.hb.cell 6 _ rfl
        have g0 := XZ.out.2.cell 0 _ rfl
        have g1 := XZ.out.2.cell 1 _ rfl
        have g2 := XZ.out.2.cell 2 _ rfl
        have g3 := XZ.out.2.cell 3 _ rfl
        have g4 := XZ.out.2.cell 4 _ rfl
        have g5 := XZ.out.2.cell 5 _ rfl
        have g6 := XZ.out.2.cell 6 _ rfl
        have R := hid XZ.out.1.bx.bel
        clear XZ
        go_wp2_with fail
        go_ret
        exact ⟨rfl, R.out⟩
      | tx hE hF hc hD pa =>
        subst hE hF hD pa
        have CB2 := hid (CB.out rfl)
        clear CB
        clear T IA IB NB
        rcases hc with rfl | rfl | rfl
        · skip
          have EE : Re.hs (-1) (decide ((0 : Int) = 0)) 7 = #[.bool false, .bool true, .bool true, .bool false, .bool true, .bool false, .bool false] := by simp [Re.hs, Re.ag]
          rw [EE] at I
          clear EE
          have EQ := fun W => eq_b7 false true true false true false false W
          obtain ⟨c0, c1, c2, d0, d1, d2⟩ := I.out.bx.flat
          have h0 := I.out.hb.cell 0 _ rfl
          have h1 := I.out.hb.cell 1 _ rfl
          have h2 := I.out.hb.cell 2 _ rfl
          have h3 := I.out.hb.cell 3 _ rfl
          have h4 := I.out.hb.cell 4 _ rfl
          have h5 := I.out.hb.cell 5 _ rfl
          have h6 := I.out.hb.cell 6 _ rfl
          go_wp2_with fail
          refine (NA.out _).mono ?_
          rintro e v1 ⟨rfl, b1⟩
          have I1 := hid (I.out.on b1)
          clear b1 I
          clear c0 c1 c2 d0 d1 d2 h0 h1 h2 h3 h4 h5 h6
          obtain ⟨c0, c1, c2, d0, d1, d2⟩ := I1.out.bx.flat
          have h0 := I1.out.hb.cell 0 _ rfl
          have h1 := I1.out.hb.cell 1 _ rfl
          have h2 := I1.out.hb.cell 2 _ rfl
          have h3 := I1.out.hb.cell 3 _ rfl
          have h4 := I1.out.hb.cell 4 _ rfl
          have h5 := I1.out.hb.cell 5 _ rfl
          have h6 := I1.out.hb.cell 6 _ rfl
          have XW := hid (And.intro (I1.out.on (alloc_b v1 (.cells #[.bool false, .bool true, .bool true, .bool false, .bool true, .bool false, .bool false] 29))) (Bx.new v1 29 #[.bool false, .bool true, .bool true, .bool false, .bool true, .bool false, .bool false]))
          clear I1
          go_upto_region 17 with fail
          generalize v1.alloc (.cells #[.bool false, .bool true, .bool true, .bool false, .bool true, .bool false, .bool false] 29) = u at *
          generalize v1.heap.size = gw at *
          clear c0 c1 c2 d0 d1 d2 h0 h1 h2 h3 h4 h5 h6
          obtain ⟨c0, c1, c2, d0, d1, d2⟩ := XW.out.1.bx.flat
          go_wp2_with fail
          refine (CB2.out _ XW.out.1.bx.bel).mono ?_
          rintro e z ⟨rfl, bz⟩
          have XZ := hid (And.intro (XW.out.1.on bz) (XW.out.2.on bz))
          clear bz XW CB2 c0 c1 c2 d0 d1 d2
          have h0 := XZ.out.1.hb.cell 0 _ rfl
          have h1 := XZ.out.1.hb.cell 1 _ rfl
          have h2 := XZ.out.1.hb.cell 2 _ rfl
          have h3 := XZ.out.1.hb.cell 3 _ rfl
          have h4 := XZ.out.1.hb.cell 4 _ rfl
          have h5 := XZ.out.1.hb.cell 5 _ rfl
          have h6 := XZ.out.1.hb.cell 6 _ rfl
          have g0 := XZ.out.2.cell 0 _ rfl
          have g1 := XZ.out.2.cell 1 _ rfl
          have g2 := XZ.out.2.cell 2 _ rfl
          have g3 := XZ.out.2.cell 3 _ rfl
          have g4 := XZ.out.2.cell 4 _ rfl
          have g5 := XZ.out.2.cell 5 _ rfl
          have g6 := XZ.out.2.cell 6 _ rfl
          have R := hid XZ.out.1.bx.bel
          clear XZ
          go_wp2_with fail
          go_ret
          exact ⟨rfl, R.out⟩
        · skip
          have EE : Re.hs (0) (decide ((0 : Int) = 0)) 7 = #[.bool false, .bool false, .bool true, .bool true, .bool false, .bool false, .bool true] := by simp [Re.hs, Re.ag]
          rw [EE] at I
          clear EE
          have EQ := fun W => eq_b7 false false true true false false true W
          obtain ⟨c0, c1, c2, d0, d1, d2⟩ := I.out.bx.flat
          have h0 := I.out.hb.cell 0 _ rfl
          have h1 := I.out.hb.cell 1 _ rfl
          have h2 := I.out.hb.cell 2 _ rfl
          have h3 := I.out.hb.cell 3 _ rfl
          have h4 := I.out.hb.cell 4 _ rfl
          have h5 := I.out.hb.cell 5 _ rfl
          have h6 := I.out.hb.cell 6 _ rfl
          go_wp2_with fail
          refine (NA.out _).mono ?_
          rintro e v1 ⟨rfl, b1⟩
          have I1 := hid (I.out.on b1)
          clear b1 I
          clear c0 c1 c2 d0 d1 d2 h0 h1 h2 h3 h4 h5 h6
          obtain ⟨c0, c1, c2, d0, d1, d2⟩ := I1.out.bx.flat
          have h0 := I1.out.hb.cell 0 _ rfl
          have h1 := I1.out.hb.cell 1 _ rfl
          have h2 := I1.out.hb.cell 2 _ rfl
          have h3 := I1.out.hb.cell 3 _ rfl
          have h4 := I1.out.hb.cell 4 _ rfl
          have h5 := I1.out.hb.cell 5 _ rfl
          have h6 := I1.out.hb.cell 6 _ rfl
          have XW := hid (And.intro (I1.out.on (alloc_b v1 (.cells #[.bool false, .bool false, .bool true, .bool true, .bool false, .bool false, .bool true] 29))) (Bx.new v1 29 #[.bool false, .bool false, .bool true, .bool true, .bool false, .bool false, .bool true]))
          clear I1
          go_upto_region 17 with fail
          generalize v1.alloc (.cells #[.bool false, .bool false, .bool true, .bool true, .bool false, .bool false, .bool true] 29) = u at *
          generalize v1.heap.size = gw at *
          clear c0 c1 c2 d0 d1 d2 h0 h1 h2 h3 h4 h5 h6
          obtain ⟨c0, c1, c2, d0, d1, d2⟩ := XW.out.1.bx.flat
          go_wp2_with fail
          refine (CB2.out _ XW.out.1.bx.bel).mono ?_
          rintro e z ⟨rfl, bz⟩
          have XZ := hid (And.intro (XW.out.1.on bz) (XW.out.2.on bz))
          clear bz XW CB2 c0 c1 c2 d0 d1 d2
          have h0 := XZ.out.1.hb.cell 0 _ rfl
          have h1 := XZ.out.1.hb.cell 1 _ rfl
          have h2 := XZ.out.1.hb.cell 2 _ rfl
          have h3 := XZ.out.1.hb.cell 3 _ rfl
          have h4 := XZ.out.1.hb.cell 4 _ rfl
          have h5 := XZ.out.1.hb.cell 5 _ rfl
          have h6 := XZ.out.1.hb.cell 6 _ rfl
          have g0 := XZ.out.2.cell 0 _ rfl
          have g1 := XZ.out.2.cell 1 _ rfl
          have g2 := XZ.out.2.cell 2 _ rfl
          have g3 := XZ.out.2.cell 3 _ rfl
          have g4 := XZ.out.2.cell 4 _ rfl
          have g5 := XZ.out.2.cell 5 _ rfl
          have g6 := XZ.out.2.cell 6 _ rfl
          have R := hid XZ.out.1.bx.bel
          clear XZ
          go_wp2_with fail
          go_ret
          exact ⟨rfl, R.out⟩
        · skip
          have EE : Re.hs (1) (decide ((0 : Int) = 0)) 7 = #[.bool false, .bool false, .bool false, .bool false, .bool true, .bool true, .bool true] := by simp [Re.hs, Re.ag]
          rw [EE] at I
          clear EE
          have EQ := fun W => eq_b7 false false false false true true true W
          obtain ⟨c0, c1, c2, d0, d1, d2⟩ := I.out.bx.flat
          have h0 := I.out.hb.cell 0 _ rfl
          have h1 := I.out.hb.cell 1 _ rfl
          have h2 := I.out.hb.cell 2 _ rfl
          have h3 := I.out.hb.cell 3 _ rfl
          have h4 := I.out.hb.cell 4 _ rfl
          have h5 := I.out.hb.cell 5 _ rfl
          have h6 := I.out.hb.cell 6 _ rfl
          go_wp2_with fail
          refine (NA.out _).mono ?_
          rintro e v1 ⟨rfl, b1⟩
          have I1 := hid (I.out.on b1)
          clear b1 I
          clear c0 c1 c2 d0 d1 d2 h0 h1 h2 h3 h4 h5 h6
          obtain ⟨c0, c1, c2, d0, d1, d2⟩ := I1.out.bx.flat
          have h0 := I1.out.hb.cell 0 _ rfl
          have h1 := I1.out.hb.cell 1 _ rfl
          have h2 := I1.out.hb.cell 2 _ rfl
          have h3 := I1.out.hb.cell 3 _ rfl
          have h4 := I1.out.hb.cell 4 _ rfl
          have h5 := I1.out.hb.cell 5 _ rfl
          have h6 := I1.out.hb.cell 6 _ rfl
          have XW := hid (And.intro (I1.out.on (alloc_b v1 (.cells #[.bool false, .bool false, .bool false, .bool false, .bool true, .bool true, .bool true] 29))) (Bx.new v1 29 #[.bool false, .bool false, .bool false, .bool false, .bool true, .bool true, .bool true]))
          clear I1
          go_upto_region 17 with fail
          generalize v1.alloc (.cells #[.bool false, .bool false, .bool false, .bool false, .bool true, .bool true, .bool true] 29) = u at *
          generalize v1.heap.size = gw at *
          clear c0 c1 c2 d0 d1 d2 h0 h1 h2 h3 h4 h5 h6
          obtain ⟨c0, c1, c2, d0, d1, d2⟩ := XW.out.1.bx.flat
          go_wp2_with fail
          refine (CB2.out _ XW.out.1.bx.bel).mono ?_
          rintro e z ⟨rfl, bz⟩
          have XZ := hid (And.intro (XW.out.1.on bz) (XW.out.2.on bz))
          clear bz XW CB2 c0 c1 c2 d0 d1 d2
          have h0 := XZ.out.1.hb.cell 0 _ rfl
          have h1 := XZ.out.1.hb.cell 1 _ rfl
          have h2 := XZ.out.1.hb.cell 2 _ rfl
          have h3 := XZ.out.1.hb.cell 3 _ rfl
          have h4 := XZ.out.1.hb.cell 4 _ rfl
          have h5 := XZ.out.1.hb.cell 5 _ rfl
          have h6 := XZ.out.1.hb.cell 6 _ rfl
          have g0 := XZ.out.2.cell 0 _ rfl
          have g1 := XZ.out.2.cell 1 _ rfl
          have g2 := XZ.out.2.cell 2 _ rfl
          have g3 := XZ.out.2.cell 3 _ rfl
          have g4 := XZ.out.2.cell 4 _ rfl
          have g5 := XZ.out.2.cell 5 _ rfl
          have g6 := XZ.out.2.cell 6 _ rfl
          have R := hid XZ.out.1.bx.bel
          clear XZ
          go_wp2_with fail
          go_ret
          exact ⟨rfl, R.out⟩
      | tx2 hE hF hc hD pa pb =>
        subst hE hF hD pa pb
        have CB2 := hid (CB.out rfl)
        clear CB
        clear T IA IB
        rcases hc with rfl | rfl | rfl
        · skip
          have EE : Re.hs (-1) (decide ((0 : Int) = 0)) 7 = #[.bool false, .bool true, .bool true, .bool false, .bool true, .bool false, .bool false] := by simp [Re.hs, Re.ag]
          rw [EE] at I
          clear EE
          have EQ := fun W => eq_b7 false true true false true false false W
          obtain ⟨c0, c1, c2, d0, d1, d2⟩ := I.out.bx.flat
          have h0 := I.out.hb.cell 0 _ rfl
          have h1 := I.out.hb.cell 1 _ rfl
          have h2 := I.out.hb.cell 2 _ rfl
          have h3 := I.out.hb.cell 3 _ rfl
          have h4 := I.out.hb.cell 4 _ rfl
          have h5 := I.out.hb.cell 5 _ rfl
          have h6 := I.out.hb.cell 6 _ rfl
          go_wp2_with fail
          refine (NA.out _).mono ?_
          rintro e v1 ⟨rfl, b1⟩
          have I1 := hid (I.out.on b1)
          clear b1 I
          clear c0 c1 c2 d0 d1 d2 h0 h1 h2 h3 h4 h5 h6
          obtain ⟨c0, c1, c2, d0, d1, d2⟩ := I1.out.bx.flat
          have h0 := I1.out.hb.cell 0 _ rfl
          have h1 := I1.out.hb.cell 1 _ rfl
          have h2 := I1.out.hb.cell 2 _ rfl
          have h3 := I1.out.hb.cell 3 _ rfl
          have h4 := I1.out.hb.cell 4 _ rfl
          have h5 := I1.out.hb.cell 5 _ rfl
          have h6 := I1.out.hb.cell 6 _ rfl
          go_wp2_with fail
          refine (NB.out _).mono ?_
          rintro e v2 ⟨rfl, b2⟩
          have I2 := hid (I1.out.on b2)
          clear b2 I1
          clear c0 c1 c2 d0 d1 d2 h0 h1 h2 h3 h4 h5 h6
          obtain ⟨c0, c1, c2, d0, d1, d2⟩ := I2.out.bx.flat
          have h0 := I2.out.hb.cell 0 _ rfl
          have h1 := I2.out.hb.cell 1 _ rfl
          have h2 := I2.out.hb.cell 2 _ rfl
          have h3 := I2.out.hb.cell 3 _ rfl
          have h4 := I2.out.hb.cell 4 _ rfl
          have h5 := I2.out.hb.cell 5 _ rfl
          have h6 := I2.out.hb.cell 6 _ rfl
          have XW := hid (And.intro (I2.out.on (alloc_b v2 (.cells #[.bool false, .bool true, .bool true, .bool false, .bool true, .bool false, .bool false] 29))) (Bx.new v2 29 #[.bool false, .bool true, .bool true, .bool false, .bool true, .bool false, .bool false]))
          clear I2
          go_upto_region 17 with fail
          generalize v2.alloc (.cells #[.bool false, .bool true, .bool true, .bool false, .bool true, .bool false, .bool false] 29) = u at *
          generalize v2.heap.size = gw at *
          clear c0 c1 c2 d0 d1 d2 h0 h1 h2 h3 h4 h5 h6
          obtain ⟨c0, c1, c2, d0, d1, d2⟩ := XW.out.1.bx.flat
          go_wp2_with fail
          refine (CB2.out _ XW.out.1.bx.bel).mono ?_
          rintro e z ⟨rfl, bz⟩
          have XZ := hid (And.intro (XW.out.1.on bz) (XW.out.2.on bz))
          clear bz XW CB2 c0 c1 c2 d0 d1 d2
          have h0 := XZ.out.1.hb.cell 0 _ rfl
          have h1 := XZ.out.1.hb.cell 1 _ rfl
          have h2 := XZ.out.1.hb.cell 2 _ rfl
          have h3 := XZ.out.1.hb.cell 3 _ rfl
          have h4 := XZ.out.1.hb.cell 4 _ rfl
          have h5 := XZ.out.1.hb.cell 5 _ rfl
          have h6 := XZ.out.1.hb.cell 6 _ rfl
          have g0 := XZ.out.2.cell 0 _ rfl
          have g1 := XZ.out.2.cell 1 _ rfl
          have g2 := XZ.out.2.cell 2 _ rfl
          have g3 := XZ.out.2.cell 3 _ rfl
          have g4 := XZ.out.2.cell 4 _ rfl
          have g5 := XZ.out.2.cell 5 _ rfl
          have g6 := XZ.out.2.cell 6 _ rfl
          have R := hid XZ.out.1.bx.bel
          clear XZ
          go_wp2_with fail
          go_ret
          exact ⟨rfl, R.out⟩
        · skip
          have EE : Re.hs (0) (decide ((0 : Int) = 0)) 7 = #[.bool false, .bool false, .bool true, .bool true, .bool false, .bool false, .bool true] := by simp [Re.hs, Re.ag]
          rw [EE] at I
          clear EE
          have EQ := fun W => eq_b7 false false true true false false true W
          obtain ⟨c0, c1, c2, d0, d1, d2⟩ := I.out.bx.flat
          have h0 := I.out.hb.cell 0 _ rfl
          have h1 := I.out.hb.cell 1 _ rfl
          have h2 := I.out.hb.cell 2 _ rfl
          have h3 := I.out.hb.cell 3 _ rfl
          have h4 := I.out.hb.cell 4 _ rfl
          have h5 := I.out.hb.cell 5 _ rfl
          have h6 := I.out.hb.cell 6 _ rfl
          go_wp2_with fail
          refine (NA.out _).mono ?_
          rintro e v1 ⟨rfl, b1⟩
          have I1 := hid (I.out.on b1)
          clear b1 I
          clear c0 c1 c2 d0 d1 d2 h0 h1 h2 h3 h4 h5 h6
          obtain ⟨c0, c1, c2, d0, d1, d2⟩ := I1.out.bx.flat
          have h0 := I1.out.hb.cell 0 _ rfl
          have h1 := I1.out.hb.cell 1 _ rfl
          have h2 := I1.out.hb.cell 2 _ rfl
          have h3 := I1.out.hb.cell 3 _ rfl
          have h4 := I1.out.hb.cell 4 _ rfl
          have h5 := I1.out.hb.cell 5 _ rfl
          have h6 := I1.out.hb.cell 6 _ rfl
          go_wp2_with fail
          refine (NB.out _).mono ?_
          rintro e v2 ⟨rfl, b2⟩
          have I2 := hid (I1.out.on b2)
          clear b2 I1
          clear c0 c1 c2 d0 d1 d2 h0 h1 h2 h3 h4 h5 h6
          obtain ⟨c0, c1, c2, d0, d1, d2⟩ := I2.out.bx.flat
          have h0 := I2.out.hb.cell 0 _ rfl
          have h1 := I2.out.hb.cell 1 _ rfl
          have h2 := I2.out.hb.cell 2 _ rfl
          have h3 := I2.out.hb.cell 3 _ rfl
          have h4 := I2.out.hb.cell 4 _ rfl
          have h5 := I2.out.hb.cell 5 _ rfl
          have h6 := I2.out.hb.cell 6 _ rfl
          have XW := hid (And.intro (I2.out.on (alloc_b v2 (.cells #[.bool false, .bool false, .bool true, .bool true, .bool false, .bool false, .bool true] 29))) (Bx.new v2 29 #[.bool false, .bool false, .bool true, .bool true, .bool false, .bool false, .bool true]))
          clear I2
          go_upto_region 17 with fail
          generalize v2.alloc (.cells #[.bool false, .bool false, .bool true, .bool true, .bool false, .bool false, .bool true] 29) = u at *
          generalize v2.heap.size = gw at *
          clear c0 c1 c2 d0 d1 d2 h0 h1 h2 h3 h4 h5 h6
          obtain ⟨c0, c1, c2, d0, d1, d2⟩ := XW.out.1.bx.flat
          go_wp2_with fail
          refine (CB2.out _ XW.out.1.bx.bel).mono ?_
          rintro e z ⟨rfl, bz⟩
          have XZ := hid (And.intro (XW.out.1.on bz) (XW.out.2.on bz))
          clear bz XW CB2 c0 c1 c2 d0 d1 d2
          have h0 := XZ.out.1.hb.cell 0 _ rfl
          have h1 := XZ.out.1.hb.cell 1 _ rfl
          have h2 := XZ.out.1.hb.cell 2 _ rfl
          have h3 := XZ.out.1.hb.cell 3 _ rfl
          have h4 := XZ.out.1.hb.cell 4 _ rfl
          have h5 := XZ.out.1.hb.cell 5 _ rfl
          have h6 := XZ.out.1.hb.cell 6 _ rfl
          have g0 := XZ.out.2.cell 0 _ rfl
          have g1 := XZ.out.2.cell 1 _ rfl
          have g2 := XZ.out.2.cell 2 _ rfl
          have g3 := XZ.out.2.cell 3 _ rfl
          have g4 := XZ.out.2.cell 4 _ rfl
          have g5 := XZ.out.2.cell 5 _ rfl
          have g6 := XZ.out.2.cell 6 _ rfl
          have R := hid XZ.out.1.bx.bel
          clear XZ
          go_wp2_with fail
          go_ret
          exact ⟨rfl, R.out⟩
        · skip
          have EE : Re.hs (1) (decide ((0 : Int) = 0)) 7 = #[.bool false, .bool false, .bool false, .bool false, .bool true, .bool true, .bool true] := by simp [Re.hs, Re.ag]
          rw [EE] at I
          clear EE
          have EQ := fun W => eq_b7 false false false false true true true W
          obtain ⟨c0, c1, c2, d0, d1, d2⟩ := I.out.bx.flat
          have h0 := I.out.hb.cell 0 _ rfl
          have h1 := I.out.hb.cell 1 _ rfl
          have h2 := I.out.hb.cell 2 _ rfl
          have h3 := I.out.hb.cell 3 _ rfl
          have h4 := I.out.hb.cell 4 _ rfl
          have h5 := I.out.hb.cell 5 _ rfl
          have h6 := I.out.hb.cell 6 _ rfl
          go_wp2_with fail
          refine (NA.out _).mono ?_
          rintro e v1 ⟨rfl, b1⟩
          have I1 := hid (I.out.on b1)
          clear b1 I
          clear c0 c1 c2 d0 d1 d2 h0 h1 h2 h3 h4 h5 h6
          obtain ⟨c0, c1, c2, d0, d1, d2⟩ := I1.out.bx.flat
          have h0 := I1.out.hb.cell 0 _ rfl
          have h1 := I1.out.hb.cell 1 _ rfl
          have h2 := I1.out.hb.cell 2 _ rfl
          have h3 := I1.out.hb.cell 3 _ rfl
          have h4 := I1.out.hb.cell 4 _ rfl
          have h5 := I1.out.hb.cell 5 _ rfl
          have h6 := I1.out.hb.cell 6 _ rfl
          go_wp2_with fail
          refine (NB.out _).mono ?_
          rintro e v2 ⟨rfl, b2⟩
          have I2 := hid (I1.out.on b2)
          clear b2 I1
          clear c0 c1 c2 d0 d1 d2 h0 h1 h2 h3 h4 h5 h6
          obtain ⟨c0, c1, c2, d0, d1, d2⟩ := I2.out.bx.flat
          have h0 := I2.out.hb.cell 0 _ rfl
          have h1 := I2.out.hb.cell 1 _ rfl
          have h2 := I2.out.hb.cell 2 _ rfl
          have h3 := I2.out.hb.cell 3 _ rfl
          have h4 := I2.out.hb.cell 4 _ rfl
          have h5 := I2.out.hb.cell 5 _ rfl
          have h6 := I2.out.hb.cell 6 _ rfl
          have XW := hid (And.intro (I2.out.on (alloc_b v2 (.cells #[.bool false, .bool false, .bool false, .bool false, .bool true, .bool true, .bool true] 29))) (Bx.new v2 29 #[.bool false, .bool false, .bool false, .bool false, .bool true, .bool true, .bool true]))
          clear I2
          go_upto_region 17 with fail
          generalize v2.alloc (.cells #[.bool false, .bool false, .bool false, .bool false, .bool true, .bool true, .bool true] 29) = u at *
          generalize v2.heap.size = gw at *
          clear c0 c1 c2 d0 d1 d2 h0 h1 h2 h3 h4 h5 h6
          obtain ⟨c0, c1, c2, d0, d1, d2⟩ := XW.out.1.bx.flat
          go_wp2_with fail
          refine (CB2.out _ XW.out.1.bx.bel).mono ?_
          rintro e z ⟨rfl, bz⟩
          have XZ := hid (And.intro (XW.out.1.on bz) (XW.out.2.on bz))
          clear bz XW CB2 c0 c1 c2 d0 d1 d2
          have h0 := XZ.out.1.hb.cell 0 _ rfl
          have h1 := XZ.out.1.hb.cell 1 _ rfl
          have h2 := XZ.out.1.hb.cell 2 _ rfl
          have h3 := XZ.out.1.hb.cell 3 _ rfl
          have h4 := XZ.out.1.hb.cell 4 _ rfl
          have h5 := XZ.out.1.hb.cell 5 _ rfl
          have h6 := XZ.out.1.hb.cell 6 _ rfl
          have g0 := XZ.out.2.cell 0 _ rfl
          have g1 := XZ.out.2.cell 1 _ rfl
          have g2 := XZ.out.2.cell 2 _ rfl
          have g3 := XZ.out.2.cell 3 _ rfl
          have g4 := XZ.out.2.cell 4 _ rfl
          have g5 := XZ.out.2.cell 5 _ rfl
          have g6 := XZ.out.2.cell 6 _ rfl
          have R := hid XZ.out.1.bx.bel
          clear XZ
          go_wp2_with fail
          go_ret
          exact ⟨rfl, R.out⟩
      | nu hE hF hc hD pa pb r q =>
        subst hE hF hD pa pb r q
        have CB2 := hid (CB.out rfl)
        clear CB
        have IA2 := hid (IA.out rfl)
        clear IA
        have IB2 := hid (IB.out rfl)
        clear IB
        clear T
        rcases hc with rfl | rfl | rfl
        · skip
          have EE : Re.hs (-1) (decide ((0 : Int) = 0)) 7 = #[.bool false, .bool true, .bool true, .bool false, .bool true, .bool false, .bool false] := by simp [Re.hs, Re.ag]
          rw [EE] at I
          clear EE
          have EQ := fun W => eq_b7 false true true false true false false W
          obtain ⟨c0, c1, c2, d0, d1, d2⟩ := I.out.bx.flat
          have h0 := I.out.hb.cell 0 _ rfl
          have h1 := I.out.hb.cell 1 _ rfl
          have h2 := I.out.hb.cell 2 _ rfl
          have h3 := I.out.hb.cell 3 _ rfl
          have h4 := I.out.hb.cell 4 _ rfl
          have h5 := I.out.hb.cell 5 _ rfl
          have h6 := I.out.hb.cell 6 _ rfl
          go_wp2_with fail
          refine (NA.out _).mono ?_
          rintro e v1 ⟨rfl, b1⟩
          have I1 := hid (I.out.on b1)
          clear b1 I
          clear c0 c1 c2 d0 d1 d2 h0 h1 h2 h3 h4 h5 h6
          obtain ⟨c0, c1, c2, d0, d1, d2⟩ := I1.out.bx.flat
          have h0 := I1.out.hb.cell 0 _ rfl
          have h1 := I1.out.hb.cell 1 _ rfl
          have h2 := I1.out.hb.cell 2 _ rfl
          have h3 := I1.out.hb.cell 3 _ rfl
          have h4 := I1.out.hb.cell 4 _ rfl
          have h5 := I1.out.hb.cell 5 _ rfl
          have h6 := I1.out.hb.cell 6 _ rfl
          go_wp2_with fail
          refine (NB.out _).mono ?_
          rintro e v2 ⟨rfl, b2⟩
          have I2 := hid (I1.out.on b2)
          clear b2 I1
          clear c0 c1 c2 d0 d1 d2 h0 h1 h2 h3 h4 h5 h6
          obtain ⟨c0, c1, c2, d0, d1, d2⟩ := I2.out.bx.flat
          have h0 := I2.out.hb.cell 0 _ rfl
          have h1 := I2.out.hb.cell 1 _ rfl
          have h2 := I2.out.hb.cell 2 _ rfl
          have h3 := I2.out.hb.cell 3 _ rfl
          have h4 := I2.out.hb.cell 4 _ rfl
          have h5 := I2.out.hb.cell 5 _ rfl
          have h6 := I2.out.hb.cell 6 _ rfl
          go_wp2_with fail
          refine (IA2.out _).mono ?_
          rintro e v3 ⟨rfl, b3⟩
          have I3 := hid (I2.out.on b3)
          clear b3 I2
          clear c0 c1 c2 d0 d1 d2 h0 h1 h2 h3 h4 h5 h6
          obtain ⟨c0, c1, c2, d0, d1, d2⟩ := I3.out.bx.flat
          have h0 := I3.out.hb.cell 0 _ rfl
          have h1 := I3.out.hb.cell 1 _ rfl
          have h2 := I3.out.hb.cell 2 _ rfl
          have h3 := I3.out.hb.cell 3 _ rfl
          have h4 := I3.out.hb.cell 4 _ rfl
          have h5 := I3.out.hb.cell 5 _ rfl
          have h6 := I3.out.hb.cell 6 _ rfl
          go_wp2_with fail
          refine (IB2.out _).mono ?_
          rintro e v4 ⟨rfl, b4⟩
          have I4 := hid (I3.out.on b4)
          clear b4 I3
          clear c0 c1 c2 d0 d1 d2 h0 h1 h2 h3 h4 h5 h6
          obtain ⟨c0, c1, c2, d0, d1, d2⟩ := I4.out.bx.flat
          have h0 := I4.out.hb.cell 0 _ rfl
          have h1 := I4.out.hb.cell 1 _ rfl
          have h2 := I4.out.hb.cell 2 _ rfl
          have h3 := I4.out.hb.cell 3 _ rfl
          have h4 := I4.out.hb.cell 4 _ rfl
          have h5 := I4.out.hb.cell 5 _ rfl
          have h6 := I4.out.hb.cell 6 _ rfl
          have XW := hid (And.intro (I4.out.on (alloc_b v4 (.cells #[.bool false, .bool true, .bool true, .bool false, .bool true, .bool false, .bool false] 29))) (Bx.new v4 29 #[.bool false, .bool true, .bool true, .bool false, .bool true, .bool false, .bool false]))
          clear I4
          go_upto_region 17 with fail
          generalize v4.alloc (.cells #[.bool false, .bool true, .bool true, .bool false, .bool true, .bool false, .bool false] 29) = u at *
          generalize v4.heap.size = gw at *
          clear c0 c1 c2 d0 d1 d2 h0 h1 h2 h3 h4 h5 h6
          obtain ⟨c0, c1, c2, d0, d1, d2⟩ := XW.out.1.bx.flat
          go_wp2_with fail
          refine (CB2.out _ XW.out.1.bx.bel).mono ?_
          rintro e z ⟨rfl, bz⟩
          have XZ := hid (And.intro (XW.out.1.on bz) (XW.out.2.on bz))
          clear bz XW CB2 c0 c1 c2 d0 d1 d2
          have h0 := XZ.out.1.hb.cell 0 _ rfl
          have h1 := XZ.out.1.hb.cell 1 _ rfl
          have h2 := XZ.out.1.hb.cell 2 _ rfl
          have h3 := XZ.out.1.hb.cell 3 _ rfl
          have h4 := XZ.out.1.hb.cell 4 _ rfl
          have h5 := XZ.out.1.hb.cell 5 _ rfl
          have h6 := XZ.out.1.hb.cell 6 _ rfl
          have g0 := XZ.out.2.cell 0 _ rfl
          have g1 := XZ.out.2.cell 1 _ rfl
          have g2 := XZ.out.2.cell 2 _ rfl
          have g3 := XZ.out.2.cell 3 _ rfl
          have g4 := XZ.out.2.cell 4 _ rfl
          have g5 := XZ.out.2.cell 5 _ rfl
          have g6 := XZ.out.2.cell 6 _ rfl
          have R := hid XZ.out.1.bx.bel
          clear XZ
          go_wp2_with fail
          go_ret
          exact ⟨rfl, R.out⟩
        · skip
          have EE : Re.hs (0) (decide ((0 : Int) = 0)) 7 = #[.bool false, .bool false, .bool true, .bool true, .bool false, .bool false, .bool true] := by simp [Re.hs, Re.ag]
          rw [EE] at I
          clear EE
          have EQ := fun W => eq_b7 false false true true false false true W
          obtain ⟨c0, c1, c2, d0, d1, d2⟩ := I.out.bx.flat
          have h0 := I.out.hb.cell 0 _ rfl
          have h1 := I.out.hb.cell 1 _ rfl
          have h2 := I.out.hb.cell 2 _ rfl
          have h3 := I.out.hb.cell 3 _ rfl
          have h4 := I.out.hb.cell 4 _ rfl
          have h5 := I.out.hb.cell 5 _ rfl
          have h6 := I.out.hb.cell 6 _ rfl
          go_wp2_with fail
          refine (NA.out _).mono ?_
          rintro e v1 ⟨rfl, b1⟩
          have I1 := hid (I.out.on b1)
          clear b1 I
          clear c0 c1 c2 d0 d1 d2 h0 h1 h2 h3 h4 h5 h6
          obtain ⟨c0, c1, c2, d0, d1, d2⟩ := I1.out.bx.flat
          have h0 := I1.out.hb.cell 0 _ rfl
          have h1 := I1.out.hb.cell 1 _ rfl
          have h2 := I1.out.hb.cell 2 _ rfl
          have h3 := I1.out.hb.cell 3 _ rfl
          have h4 := I1.out.hb.cell 4 _ rfl
          have h5 := I1.out.hb.cell 5 _ rfl
          have h6 := I1.out.hb.cell 6 _ rfl
          go_wp2_with fail
          refine (NB.out _).mono ?_
          rintro e v2 ⟨rfl, b2⟩
          have I2 := hid (I1.out.on b2)
          clear b2 I1
          clear c0 c1 c2 d0 d1 d2 h0 h1 h2 h3 h4 h5 h6
          obtain ⟨c0, c1, c2, d0, d1, d2⟩ := I2.out.bx.flat
          have h0 := I2.out.hb.cell 0 _ rfl
          have h1 := I2.out.hb.cell 1 _ rfl
          have h2 := I2.out.hb.cell 2 _ rfl
          have h3 := I2.out.hb.cell 3 _ rfl
          have h4 := I2.out.hb.cell 4 _ rfl
          have h5 := I2.out.hb.cell 5 _ rfl
          have h6 := I2.out.hb.cell 6 _ rfl
          go_wp2_with fail
          refine (IA2.out _).mono ?_
          rintro e v3 ⟨rfl, b3⟩
          have I3 := hid (I2.out.on b3)
          clear b3 I2
          clear c0 c1 c2 d0 d1 d2 h0 h1 h2 h3 h4 h5 h6
          obtain ⟨c0, c1, c2, d0, d1, d2⟩ := I3.out.bx.flat
          have h0 := I3.out.hb.cell 0 _ rfl
          have h1 := I3.out.hb.cell 1 _ rfl
          have h2 := I3.out.hb.cell 2 _ rfl
          have h3 := I3.out.hb.cell 3 _ rfl
          have h4 := I3.out.hb.cell 4 _ rfl
          have h5 := I3.out.hb.cell 5 _ rfl
          have h6 := I3.out.hb.cell 6 _ rfl
          go_wp2_with fail
          refine (IB2.out _).mono ?_
          rintro e v4 ⟨rfl, b4⟩
          have I4 := hid (I3.out.on b4)
          clear b4 I3
          clear c0 c1 c2 d0 d1 d2 h0 h1 h2 h3 h4 h5 h6
          obtain ⟨c0, c1, c2, d0, d1, d2⟩ := I4.out.bx.flat
          have h0 := I4.out.hb.cell 0 _ rfl
          have h1 := I4.out.hb.cell 1 _ rfl
          have h2 := I4.out.hb.cell 2 _ rfl
          have h3 := I4.out.hb.cell 3 _ rfl
          have h4 := I4.out.hb.cell 4 _ rfl
          have h5 := I4.out.hb.cell 5 _ rfl
          have h6 := I4.out.hb.cell 6 _ rfl
          have XW := hid (And.intro (I4.out.on (alloc_b v4 (.cells #[.bool false, .bool false, .bool true, .bool true, .bool false, .bool false, .bool true] 29))) (Bx.new v4 29 #[.bool false, .bool false, .bool true, .bool true, .bool false, .bool false, .bool true]))
          clear I4
          go_upto_region 17 with fail
          generalize v4.alloc (.cells #[.bool false, .bool false, .bool true, .bool true, .bool false, .bool false, .bool true] 29) = u at *
          generalize v4.heap.size = gw at *
          clear c0 c1 c2 d0 d1 d2 h0 h1 h2 h3 h4 h5 h6
          obtain ⟨c0, c1, c2, d0, d1, d2⟩ := XW.out.1.bx.flat
          go_wp2_with fail
          refine (CB2.out _ XW.out.1.bx.bel).mono ?_
          rintro e z ⟨rfl, bz⟩
          have XZ := hid (And.intro (XW.out.1.on bz) (XW.out.2.on bz))
          clear bz XW CB2 c0 c1 c2 d0 d1 d2
          have h0 := XZ.out.1.hb.cell 0 _ rfl
          have h1 := XZ.out.1.hb.cell 1 _ rfl
          have h2 := XZ.out.1.hb.cell 2 _ rfl
          have h3 := XZ.out.1.hb.cell 3 _ rfl
          have h4 := XZ.out.1.hb.cell 4 _ rfl
          have h5 := XZ.out.1.hb.cell 5 _ rfl
          have h6 := XZ.out.1.hb.cell 6 _ rfl
          have g0 := XZ.out.2.cell 0 _ rfl
          have g1 := XZ.out.2.cell 1 _ rfl
          have g2 := XZ.out.2.cell 2 _ rfl
          have g3 := XZ.out.2.cell 3 _ rfl
          have g4 := XZ.out.2.cell 4 _ rfl
          have g5 := XZ.out.2.cell 5 _ rfl
          have g6 := XZ.out.2.cell 6 _ rfl
          have R := hid XZ.out.1.bx.bel
          clear XZ
          go_wp2_with fail
          go_ret
          exact ⟨rfl, R.out⟩
        · skip
          have EE : Re.hs (1) (decide ((0 : Int) = 0)) 7 = #[.bool false, .bool false, .bool false, .bool false, .bool true, .bool true, .bool true] := by simp [Re.hs, Re.ag]
          rw [EE] at I
          clear EE
          have EQ := fun W => eq_b7 false false false false true true true W
          obtain ⟨c0, c1, c2, d0, d1, d2⟩ := I.out.bx.flat
          have h0 := I.out.hb.cell 0 _ rfl
          have h1 := I.out.hb.cell 1 _ rfl
          have h2 := I.out.hb.cell 2 _ rfl
          have h3 := I.out.hb.cell 3 _ rfl
          have h4 := I.out.hb.cell 4 _ rfl
          have h5 := I.out.hb.cell 5 _ rfl
          have h6 := I.out.hb.cell 6 _ rfl
          go_wp2_with fail
          refine (NA.out _).mono ?_
          rintro e v1 ⟨rfl, b1⟩
          have I1 := hid (I.out.on b1)
          clear b1 I
          clear c0 c1 c2 d0 d1 d2 h0 h1 h2 h3 h4 h5 h6
          obtain ⟨c0, c1, c2, d0, d1, d2⟩ := I1.out.bx.flat
          have h0 := I1.out.hb.cell 0 _ rfl
          have h1 := I1.out.hb.cell 1 _ rfl
          have h2 := I1.out.hb.cell 2 _ rfl
          have h3 := I1.out.hb.cell 3 _ rfl
          have h4 := I1.out.hb.cell 4 _ rfl
          have h5 := I1.out.hb.cell 5 _ rfl
          have h6 := I1.out.hb.cell 6 _ rfl
          go_wp2_with fail
          refine (NB.out _).mono ?_
          rintro e v2 ⟨rfl, b2⟩
          have I2 := hid (I1.out.on b2)
          clear b2 I1
          clear c0 c1 c2 d0 d1 d2 h0 h1 h2 h3 h4 h5 h6
          obtain ⟨c0, c1, c2, d0, d1, d2⟩ := I2.out.bx.flat
          have h0 := I2.out.hb.cell 0 _ rfl
          have h1 := I2.out.hb.cell 1 _ rfl
          have h2 := I2.out.hb.cell 2 _ rfl
          have h3 := I2.out.hb.cell 3 _ rfl
          have h4 := I2.out.hb.cell 4 _ rfl
          have h5 := I2.out.hb.cell 5 _ rfl
          have h6 := I2.out.hb.cell 6 _ rfl
          go_wp2_with fail
          refine (IA2.out _).mono ?_
          rintro e v3 ⟨rfl, b3⟩
          have I3 := hid (I2.out.on b3)
          clear b3 I2
          clear c0 c1 c2 d0 d1 d2 h0 h1 h2 h3 h4 h5 h6
          obtain ⟨c0, c1, c2, d0, d1, d2⟩ := I3.out.bx.flat
          have h0 := I3.out.hb.cell 0 _ rfl
          have h1 := I3.out.hb.cell 1 _ rfl
          have h2 := I3.out.hb.cell 2 _ rfl
          have h3 := I3.out.hb.cell 3 _ rfl
          have h4 := I3.out.hb.cell 4 _ rfl
          have h5 := I3.out.hb.cell 5 _ rfl
          have h6 := I3.out.hb.cell 6 _ rfl
          go_wp2_with fail
          refine (IB2.out _).mono ?_
          rintro e v4 ⟨rfl, b4⟩
          have I4 := hid (I3.out.on b4)
          clear b4 I3
          clear c0 c1 c2 d0 d1 d2 h0 h1 h2 h3 h4 h5 h6
          obtain ⟨c0, c1, c2, d0, d1, d2⟩ := I4.out.bx.flat
          have h0 := I4.out.hb.cell 0 _ rfl
          have h1 := I4.out.hb.cell 1 _ rfl
          have h2 := I4.out.hb.cell 2 _ rfl
          have h3 := I4.out.hb.cell 3 _ rfl
          have h4 := I4.out.hb.cell 4 _ rfl
          have h5 := I4.out.hb.cell 5 _ rfl
          have h6 := I4.out.hb.cell 6 _ rfl
          have XW := hid (And.intro (I4.out.on (alloc_b v4 (.cells #[.bool false, .bool false, .bool false, .bool false, .bool true, .bool true, .bool true] 29))) (Bx.new v4 29 #[.bool false, .bool false, .bool false, .bool false, .bool true, .bool true, .bool true]))
          clear I4
          go_upto_region 17 with fail
          generalize v4.alloc (.cells #[.bool false, .bool false, .bool false, .bool false, .bool true, .bool true, .bool true] 29) = u at *
          generalize v4.heap.size = gw at *
          clear c0 c1 c2 d0 d1 d2 h0 h1 h2 h3 h4 h5 h6
          obtain ⟨c0, c1, c2, d0, d1, d2⟩ := XW.out.1.bx.flat
          go_wp2_with fail
          refine (CB2.out _ XW.out.1.bx.bel).mono ?_
          rintro e z ⟨rfl, bz⟩
          have XZ := hid (And.intro (XW.out.1.on bz) (XW.out.2.on bz))
          clear bz XW CB2 c0 c1 c2 d0 d1 d2
          have h0 := XZ.out.1.hb.cell 0 _ rfl
          have h1 := XZ.out.1.hb.cell 1 _ rfl
          have h2 := XZ.out.1.hb.cell 2 _ rfl
          have h3 := XZ.out.1.hb.cell 3 _ rfl
          have h4 := XZ.out.1.hb.cell 4 _ rfl
          have h5 := XZ.out.1.hb.cell 5 _ rfl
          have h6 := XZ.out.1.hb.cell 6 _ rfl
          have g0 := XZ.out.2.cell 0 _ rfl
          have g1 := XZ.out.2.cell 1 _ rfl
          have g2 := XZ.out.2.cell 2 _ rfl
          have g3 := XZ.out.2.cell 3 _ rfl
          have g4 := XZ.out.2.cell 4 _ rfl
          have g5 := XZ.out.2.cell 5 _ rfl
          have g6 := XZ.out.2.cell 6 _ rfl
          have R := hid XZ.out.1.bx.bel
          clear XZ
          go_wp2_with fail
          go_ret
          exact ⟨rfl, R.out⟩
end Go.Proofs.YtigmhnlcmhpepaaGreatDoor
