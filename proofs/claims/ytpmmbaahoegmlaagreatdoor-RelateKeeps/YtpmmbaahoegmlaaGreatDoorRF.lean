/-
  Texts put together: ReU, ReSo, ReGr, ReKb, ReKd, ReKe, ReKk, ReKm.
-/
import Derived.Test.YtpmmbaahoegmlaaGreatDoorRE
import Derived.Deep.DeepAppendWide
namespace Go.Proofs.YtpmmbaahoegmlaaGreatDoor
open Go Go.RowKit Go.Deep Go.Shelf

namespace Re
theorem uniq : ∀ (D E : List Tk), D.Perm E → D.Pairwise (fun x y => ct x y ≤ 0) → E.Pairwise (fun x y => ct x y ≤ 0) → D = E
  | [], E, h, _, _ => (List.Perm.nil_eq h)
  | x :: D, [], h, _, _ => absurd (List.Perm.length_eq h) (by simp)
  | x :: D, y :: E, h, hd, he => by
    rw [List.pairwise_cons] at hd he
    have exy : x = y := by
      have hy : y ∈ x :: D := h.mem_iff.2 (List.mem_cons_self ..)
      have hx : x ∈ y :: E := h.mem_iff.1 (List.mem_cons_self ..)
      rcases List.mem_cons.1 hy with e | e
      · exact e.symm
      · rcases List.mem_cons.1 hx with f | f
        · exact f
        · have a := hd.1 y e
          have b := he.1 x f
          have c := ct_anti x y
          exact ct_zero (by omega)
    subst exy
    rw [uniq D E (List.Perm.cons_inv h) hd.2 he.2]
def v3 : List Vl := [⟨2, 0, ⟨#[98]⟩⟩, ⟨1, 4607182418800017408, ⟨#[]⟩⟩, ⟨2, 0, ⟨#[97]⟩⟩]
theorem sorts3 {P : List Int} (h : Sorts v3 P) : P = [1, 2, 0] := by
  obtain ⟨D, h1, h2, rfl⟩ := h
  have a : rt 1 4607182418800017408 ⟨#[]⟩ = .nu 4607182418800017408 := by
    rw [rt, if_neg (by decide)]
    congr 1
  have e : tks v3 = [⟨.tx ⟨#[98]⟩, 0⟩, ⟨.nu 4607182418800017408, 1⟩, ⟨.tx ⟨#[97]⟩, 2⟩] := by
    rw [← a]; rfl
  rw [e] at h1
  have h3 : ([⟨.nu 4607182418800017408, 1⟩, ⟨.tx ⟨#[97]⟩, 2⟩, ⟨.tx ⟨#[98]⟩, 0⟩] : List Tk).Pairwise (fun x y => ct x y ≤ 0) := by
    refine List.Pairwise.cons ?_ (List.Pairwise.cons ?_ (List.Pairwise.cons (by simp) List.Pairwise.nil))
    · intro y hy
      simp only [List.mem_cons, List.not_mem_nil, or_false] at hy
      rcases hy with rfl | rfl <;> (rw [ct_le]; left; show (-1 : Int) < 0; decide)
    · intro y hy
      simp only [List.mem_cons, List.not_mem_nil, or_false] at hy
      subst hy
      rw [ct_le]; left; show Sc.lex (bl ⟨#[97]⟩) (bl ⟨#[98]⟩) < 0; decide
  have h4 : ([⟨.nu 4607182418800017408, 1⟩, ⟨.tx ⟨#[97]⟩, 2⟩, ⟨.tx ⟨#[98]⟩, 0⟩] : List Tk).Perm [⟨.tx ⟨#[98]⟩, 0⟩, ⟨.nu 4607182418800017408, 1⟩, ⟨.tx ⟨#[97]⟩, 2⟩] :=
    ((List.Perm.swap _ _ _).cons _ |>.trans (List.Perm.swap _ _ _))
  rw [uniq D _ (h1.trans h4.symm) h2 h3]
  rfl
end Re

theorem cmp_nine (w : World) (ht : Tab10 w) :
    Calls Tryz.prog 12 #[.agg #[.int .i64 2, .int .u64 0, .string ⟨#[49, 48]⟩], .agg #[.int .i64 1, .int .u64 4621256167635550208, .string ⟨#[]⟩], .string ⟨#[37, 46, 54, 103]⟩] w fun e w' => e = .returned (.tuple #[.int .i64 (-1), .int .i64 0]) ∧ Below w.heap.size w w' := by
  have ok : Va.ok 4621256167635550208 = true := by kernel_rfl
  have h := compareS_any 2 0 ⟨#[49, 48]⟩ 1 4621256167635550208 ⟨#[]⟩ ⟨#[37, 46, 54, 103]⟩ ⟨#[49, 48]⟩ (strOfNums (Va.tx 4621256167635550208)) w (.inl rfl)
    (fun W _ => rwritten_text 2 0 _ _ W (.inl rfl))
    (fun W hW => rwritten_num 1 _ _ _ _ 0 W (by decide) (by decide) (fun W2 hW2 => vtostrI_any _ _ _ W2 (rtab10_on (rtab10_on ht hW) hW2) (by omega) (by omega) ok))
  have e : Sc.lex (Re.bl ⟨#[49, 48]⟩) (Re.bl (strOfNums (Va.tx 4621256167635550208))) = -1 := by kernel_rfl
  rw [e] at h
  exact h

theorem holds_two (w : World) :
    Calls Tryz.prog 13 #[.int .i64 5, .agg #[.int .i64 1, .int .u64 4611686018427387904, .string ⟨#[]⟩], .agg #[.int .i64 1, .int .u64 4607182418800017408, .string ⟨#[]⟩], .string ⟨#[]⟩] w fun e w' => e = .returned (.tuple #[.bool true, .int .i64 0]) ∧ Below w.heap.size w w' := by
  have c : Re.cn (Re.nu 1 4611686018427387904) (Re.nu 1 4607182418800017408) = 1 := by kernel_rfl
  exact holds_any 5 1 _ _ 1 _ _ _ 1 w (by omega) (by omega) (fun W _ => by
    have := compareN_any 1 4611686018427387904 ⟨#[]⟩ 1 4607182418800017408 ⟨#[]⟩ ⟨#[]⟩ W (by omega) (by omega) (by omega) (by omega) (by decide) (by decide)
    rw [c] at this
    exact this)

set_option maxRecDepth 100000 in
set_option maxHeartbeats 4000000 in
theorem rawake_any (w : World) (ht : Tab10 w) : Calls Tryz.prog 4 #[] w fun e w' => e = .returned (.bool true) ∧ Below w.heap.size w w' := by
  have S10 := hid (fun W => rstr_any ⟨#[49, 48]⟩ W)
  have N9 := hid (fun W => rnum_any 4621256167635550208 W)
  have N2 := hid (fun W => rnum_any 4611686018427387904 W)
  have N1 := hid (fun W => rnum_any 4607182418800017408 W)
  have SB := hid (fun W => rstr_any ⟨#[98]⟩ W)
  have SA := hid (fun W => rstr_any ⟨#[97]⟩ W)
  have CP := hid (fun W (h : Below w.heap.size w W) => cmp_nine W (rtab10_on ht h))
  have HD := hid (fun W => holds_two W)
  have QU := hid (fun W => queued_any W)
  have SO : Hid (∀ (W : World) (g : Nat), Bx W g 26 #[.int .i64 2, .int .u64 0, .string ⟨#[98]⟩, .int .i64 1, .int .u64 4607182418800017408, .string ⟨#[]⟩, .int .i64 2, .int .u64 0, .string ⟨#[97]⟩] → Calls Tryz.prog 7 #[.slice (some ⟨g, 0, none⟩) 3 3] W fun e w' => ∃ g', e = .returned (.slice (some ⟨g', 0, none⟩) 3 3) ∧ Bx w' g' 3 #[.int .i64 1, .int .i64 2, .int .i64 0] ∧ Below W.heap.size W w') := fun W g hb => by
    refine (sort_any (some ⟨g, 0, none⟩) 3 Re.v3 W (.inr ⟨g, 0, rfl, fun i a hi => ?_⟩) ?_ (by decide)).mono ?_
    · have hl : i < 3 := (List.getElem?_eq_some_iff.1 hi).1
      rcases (show i = 0 ∨ i = 1 ∨ i = 2 by omega) with rfl | rfl | rfl
      · obtain rfl := Option.some.inj hi
        exact ⟨hb.cell 0 _ rfl, hb.cell 1 _ rfl, hb.cell 2 _ rfl⟩
      · obtain rfl := Option.some.inj hi
        exact ⟨hb.cell 3 _ rfl, hb.cell 4 _ rfl, hb.cell 5 _ rfl⟩
      · obtain rfl := Option.some.inj hi
        exact ⟨hb.cell 6 _ rfl, hb.cell 7 _ rfl, hb.cell 8 _ rfl⟩
    · intro a ha
      simp only [Re.v3, List.mem_cons, List.not_mem_nil, or_false] at ha
      rcases ha with rfl | rfl | rfl <;> decide
    · rintro e w' ⟨g', P, rfl, _, hx, hs, _, hB⟩
      have := Re.sorts3 hs
      subst this
      exact ⟨g', rfl, hx, hB⟩
  have B0 : Hid (Below w.heap.size w w) := Below.refl _ _
  clear ht
  go_enter Tryz.func4, Tryz.ntmps4
  go_wp2_with fail
  refine (S10.out _).mono ?_
  rintro e w1 ⟨rfl, b1⟩
  have B1 := hid (below_on B0.out b1)
  clear b1 B0 S10
  go_wp2_with fail
  refine (N9.out _).mono ?_
  rintro e w2 ⟨rfl, b2⟩
  have B2 := hid (below_on B1.out b2)
  clear b2 B1 N9
  go_wp2_with fail
  refine (CP.out _ B2.out).mono ?_
  rintro e w3 ⟨rfl, b3⟩
  have B3 := hid (below_on B2.out b3)
  clear b3 B2 CP
  go_wp2_with fail
  refine (N2.out _).mono ?_
  rintro e w4 ⟨rfl, b4⟩
  have B4 := hid (below_on B3.out b4)
  clear b4 B3 N2
  go_wp2_with fail
  refine (N1.out _).mono ?_
  rintro e w5 ⟨rfl, b5⟩
  have B5 := hid (below_on B4.out b5)
  clear b5 B4
  go_wp2_with fail
  refine (HD.out _).mono ?_
  rintro e w6 ⟨rfl, b6⟩
  have B6 := hid (below_on B5.out b6)
  clear b6 B5 HD
  go_wp2_with fail
  refine (SB.out _).mono ?_
  rintro e w7 ⟨rfl, b7⟩
  have B7 := hid (below_on B6.out b7)
  clear b7 B6 SB
  go_wp2_with fail
  refine (N1.out _).mono ?_
  rintro e w8 ⟨rfl, b8⟩
  have B8 := hid (below_on B7.out b8)
  clear b8 B7 N1
  go_wp2_with fail
  refine (SA.out _).mono ?_
  rintro e w9 ⟨rfl, b9⟩
  have B9 := hid (below_on (below_on B8.out b9) (alloc_b w9 (.cells #[.int .i64 2, .int .u64 0, .string ⟨#[98]⟩, .int .i64 1, .int .u64 4607182418800017408, .string ⟨#[]⟩, .int .i64 2, .int .u64 0, .string ⟨#[97]⟩] 26)))
  have X9 := hid (Bx.new w9 26 #[.int .i64 2, .int .u64 0, .string ⟨#[98]⟩, .int .i64 1, .int .u64 4607182418800017408, .string ⟨#[]⟩, .int .i64 2, .int .u64 0, .string ⟨#[97]⟩])
  clear b9 B8 SA
  go_wp2_with fail
  refine (SO.out _ _ X9.out).mono ?_
  rintro e wA ⟨g', rfl, xA, bA⟩
  have BA := hid (below_on B9.out bA)
  have l0 := xA.cell 0 _ rfl
  have l1 := xA.cell 1 _ rfl
  have l2 := xA.cell 2 _ rfl
  clear bA B9 X9 SO xA
  go_wp2_with fail
  refine (QU.out _).mono ?_
  rintro e wB ⟨rfl, bB⟩
  have F := hid (below_on BA.out bB)
  clear bB BA QU l0 l1 l2
  go_wp2_with fail
  go_ret
  exact ⟨rfl, F.out⟩
end Go.Proofs.YtpmmbaahoegmlaaGreatDoor

namespace Go.Proofs.YtpmmbaahoegmlaaGreatDoor
open Go Go.RowKit Go.Deep Go.Shelf

namespace Re
def eb (x : Bool) : List Value := [.bool x]
theorem eb_len (x : Bool) : (eb x).length = 1 := rfl
theorem infoB : (Tryz.prog.info? 4).map (fun i => (i.zero, i.size, i.bytes)) = some (some (.bool false), 1, 1) := by kernel_rfl
theorem make_v0 (n : Nat) (hn : n ≤ 4398046511104) (W : World) : (Instr.makeSlice 22 (.int .i64 0) (.int .i64 (n : Int))).run Tryz.prog W = .ok (.slice (some ⟨W.heap.size, 0, none⟩) 0 n) (W.alloc (.cells (fl ev (List.replicate n zv)).toArray 26)) := by
  obtain ⟨i, hi, hz⟩ := Option.map_eq_some_iff.1 infoV
  simp only [Prod.mk.injEq] at hz
  obtain ⟨z1, z2, z3⟩ := hz
  have := run_make (P := Tryz.prog) W 22 26 i _ Tryz.underlying22 hi z1 .i64 .i64 (0 : Int) (n : Int) (by omega) (by omega) (by rw [z3]; omega) (by omega)
  rw [this, z2, Int.toNat_natCast]
  have e := made_fl ev_len zv (by omega) n
  rw [← e]
  rfl
/-- The places, what has come, the values in order. -/
structure SS (w : World) (A : List Vl) (P : List Int) (n gp gs ga i : Nat) (W : World) : Prop where
  bp : Bx W gp 3 (fl ei P).toArray
  bs : Bx W gs 4 (fl eb (sn P n i)).toArray
  ba : Bx W ga 26 (fl ev (fil (agn A P) zv i)).toArray
  bl : Below w.heap.size w W
  ls : w.heap.size ≤ gs
  la : w.heap.size ≤ ga
  ps : gs ≠ gp
  pa : ga ≠ gp
  sa : gs ≠ ga
theorem SS.on {w : World} {A : List Vl} {P : List Int} {n gp gs ga i : Nat} {W W' : World} (h : SS w A P n gp gs ga i W) (b : Below W.heap.size W W') : SS w A P n gp gs ga i W' :=
  ⟨h.bp.on b, h.bs.on b, h.ba.on b, below_on h.bl b, h.ls, h.la, h.ps, h.pa, h.sa⟩
theorem SS.pc {w : World} {A : List Vl} {P : List Int} {n gp gs ga i : Nat} {W : World} (h : SS w A P n gp gs ga i W) {l : Nat} {x : Int} (hx : P[l]? = some x) : W.cell? ⟨gp, l, none⟩ = some (.int .i64 x) := by
  have := bx_cell ei_len h.bp hx 0 (by omega) _ rfl
  rwa [Nat.mul_one, Nat.add_zero] at this
theorem SS.sc {w : World} {A : List Vl} {P : List Int} {n gp gs ga i : Nat} {W : World} (h : SS w A P n gp gs ga i W) {j : Nat} {x : Bool} (hx : (sn P n i)[j]? = some x) : W.cell? ⟨gs, j, none⟩ = some (.bool x) := by
  have := bx_cell eb_len h.bs hx 0 (by omega) _ rfl
  rwa [Nat.mul_one, Nat.add_zero] at this
/-- A round: the mark is set, the value is put behind. -/
theorem SS.step {w : World} {A : List Vl} {P : List Int} {n gp gs ga i j : Nat} {W : World} {a : Vl} (h : SS w A P n gp gs ga i W) (hi : P[i]? = some (j : Int)) (hj : j < n) (ha : A[j]? = some a) (hl : P.length = n) :
    ∃ W3, (Builtin.append_ #[22, 22] 22 #[.slice (some ⟨ga, 0, none⟩) i n, .slice (some ⟨(W.setCell ⟨gs, j, none⟩ (.bool true)).heap.size, 0, none⟩) 1 1]).run Tryz.prog ((W.setCell ⟨gs, j, none⟩ (.bool true)).alloc (.cells #[.int .i64 a.k, .int .u64 a.n, .string a.s] 26)) = .ok (.slice (some ⟨ga, 0, none⟩) (i + 1) n) W3 ∧ SS w A P n gp gs ga (i + 1) W3 := by
  have hin : i < n := by rw [← hl]; exact (List.getElem?_eq_some_iff.1 hi).1
  have gi := agn_at hi ha
  have gl : (agn A P).length = n := by rw [agn_len, hl]
  obtain ⟨I, hI, hz⟩ := Option.map_eq_some_iff.1 infoV
  simp only [Prod.mk.injEq] at hz
  obtain ⟨z1, z2, z3⟩ := hz
  have s1 : Bx (W.setCell ⟨gs, j, none⟩ (.bool true)) gs 4 (fl eb (sn P n (i + 1))).toArray := by
    have := bx_put eb_len (i := j) h.bs true (by rw [sn_len]; exact hj)
    rw [sn_set hi hj, Nat.mul_one] at this
    exact this
  have p1 : Bx (W.setCell ⟨gs, j, none⟩ (.bool true)) gp 3 (fl ei P).toArray := h.bp.far h.ps
  have a1 : Bx (W.setCell ⟨gs, j, none⟩ (.bool true)) ga 26 (fl ev (fil (agn A P) zv i)).toArray := h.ba.far h.sa
  have b1 : Below w.heap.size w (W.setCell ⟨gs, j, none⟩ (.bool true)) := h.bl.setCell (p := ⟨gs, j, none⟩) h.ls _
  generalize W.setCell ⟨gs, j, none⟩ (.bool true) = W1 at *
  have bb := alloc_b W1 (.cells #[.int .i64 a.k, .int .u64 a.n, .string a.s] 26)
  have v2 := Bx.new W1 26 #[.int .i64 a.k, .int .u64 a.n, .string a.s]
  have s2 := s1.on bb
  have p2 := p1.on bb
  have a2 := a1.on bb
  have b2 := below_on b1 bb
  clear s1 p1 a1 b1 bb
  generalize hW2 : W1.alloc (.cells #[.int .i64 a.k, .int .u64 a.n, .string a.s] 26) = W2 at *
  have th := bx_there ev_len (i := i) a2 (by rw [fil_len _ _ (by omega)]; omega)
  have r := run_append_room_cells (P := Tryz.prog) W2 22 22 26 I Tryz.underlying22 hI ga 0 i n ⟨W1.heap.size, 0, none⟩ 1 1 (ev a) (by rw [z2]; rfl)
    (fun l u hu => by rw [Go.WideShapes.add_plain, Nat.zero_add]; exact v2.cell l u (by simpa [ev] using hu))
    (fun u hu => by
      simp only [ev, List.mem_cons, List.not_mem_nil, or_false] at hu
      rcases hu with rfl | rfl | rfl <;> rfl) (by omega)
    (fun l hl2 => by rw [z2, Nat.zero_add]; exact (th l hl2).1) (fun l hl2 => by rw [z2, Nat.zero_add]; exact (th l hl2).2)
  rw [z2, Nat.zero_add] at r
  refine ⟨_, r, ?_, ?_, ?_, ?_, h.ls, h.la, h.ps, h.pa, h.sa⟩
  · exact p2.kp ((Kp.refl (fun b => b = ga) W2).setcs (.inl rfl) (i * 3) (ev a)) (fun e => h.pa e.symm)
  · exact s2.kp ((Kp.refl (fun b => b = ga) W2).setcs (.inl rfl) (i * 3) (ev a)) h.sa
  · have := bx_put ev_len (i := i) a2 a (by rw [fil_len _ _ (by omega)]; omega)
    rw [fil_set _ _ gi] at this
    exact this
  · exact b2.trans (((Kp.refl (fun b => b = ga) W2).setcs (.inl rfl) (i * 3) (ev a)).below b2.size (fun b e => by rw [e]; exact h.la))
end Re
end Go.Proofs.YtpmmbaahoegmlaaGreatDoor

namespace Go.Proofs.YtpmmbaahoegmlaaGreatDoor
open Go Go.RowKit Go.Deep Go.Shelf

namespace Re
/-- A row in the block g, with room for cap things. -/
structure GR {α : Type} (enc : α → List Value) (k t base : Nat) (w : World) (g cap : Nat) (A : List α) : Prop where
  bx : ∃ cur : Array Value, Bx w g t cur ∧ cur.size = cap * k ∧ cur.toList.take (A.length * k) = fl enc A
  le : A.length ≤ cap
  cm : cap ≤ maxLen
  bb : base ≤ g
section
variable {α : Type} {enc : α → List Value} {k t base : Nat}
theorem GR.kp {w w' : World} {g cap : Nat} {A : List α} (h : GR enc k t base w g cap A) {S : Nat → Prop} (q : Kp S w w') (hs : ¬ S g) : GR enc k t base w' g cap A := by
  obtain ⟨cur, b, r⟩ := h.bx
  exact ⟨⟨cur, b.kp q hs, r⟩, h.le, h.cm, h.bb⟩
theorem GR.on {w w' : World} {g cap : Nat} {A : List α} (h : GR enc k t base w g cap A) (b : Below w.heap.size w w') : GR enc k t base w' g cap A := by
  obtain ⟨cur, x, r⟩ := h.bx
  exact ⟨⟨cur, x.on b, r⟩, h.le, h.cm, h.bb⟩
theorem GR.lt {w : World} {g cap : Nat} {A : List α} (h : GR enc k t base w g cap A) : g < w.heap.size := by
  obtain ⟨cur, x, r⟩ := h.bx
  exact x.lt
theorem GR.free {w : World} {g cap : Nat} {A : List α} (h : GR enc k t base w g cap A) (i : Nat) : w.frozen? ⟨g, i, none⟩ = false := by
  obtain ⟨cur, x, r⟩ := h.bx
  exact x.free i
theorem GR.new (w : World) (hb : base ≤ w.heap.size) : GR enc k t base (w.alloc (.cells #[] t)) w.heap.size 0 ([] : List α) :=
  ⟨⟨#[], Bx.new w t #[], by simp, by simp [fl]⟩, Nat.le_refl _, Nat.zero_le _, hb⟩
variable (hk : ∀ x, (enc x).length = k)
include hk
theorem GR.cell {w : World} {g cap : Nat} {A : List α} (h : GR enc k t base w g cap A) {i : Nat} {a : α} (hi : A[i]? = some a) (j : Nat) (hj : j < k) (v : Value) (hv : (enc a)[j]? = some v) : w.cell? ⟨g, i * k + j, none⟩ = some v := by
  obtain ⟨cur, x, s, r⟩ := h.bx
  refine x.cell _ _ ?_
  have e := fl_at hk hi j hj
  rw [← r, hv, List.getElem?_take] at e
  split at e
  · rw [← Array.getElem?_toList]; exact e
  · simp at e
/-- One of its things, written. -/
theorem GR.put {w : World} {g cap : Nat} {A : List α} (h : GR enc k t base w g cap A) {i : Nat} (hi : i < A.length) (x : α) : GR enc k t base (w.setCells g (i * k) (enc x)) g cap (A.set i x) := by
  obtain ⟨cur, b, s, r⟩ := h.bx
  have cl : cur.toList.length = cap * k := by rw [Array.length_toList]; exact s
  have m : i * k + k ≤ A.length * k := by
    have := Nat.mul_le_mul_right k (show i + 1 ≤ A.length from hi)
    rwa [Nat.add_mul, Nat.one_mul] at this
  have m2 := Nat.mul_le_mul_right k h.le
  have y := bx_setc (t := t) (enc x) (i * k) w cur.toList b (by rw [hk, cl]; omega)
  rw [hk] at y
  refine ⟨⟨_, y, ?_, ?_⟩, by rw [List.length_set]; exact h.le, h.cm, h.bb⟩
  · rw [List.size_toArray, List.length_append, List.length_append, List.length_take, List.length_drop, hk, cl]
    omega
  · rw [List.length_set, ← fl_set hk A i x hi, ← r, List.take_take, Nat.min_eq_left (by omega)]
    rw [List.take_append, List.length_append, List.length_take, hk, cl]
    rw [List.take_of_length_le (by rw [List.length_append, List.length_take, hk, cl]; omega), List.drop_take]
    congr 2
    omega
/-- One more. -/
theorem GR.push {P : Program} {T : TypeId} {w : World} {g cap : Nat} {A : List α} (h : GR enc k t base w g cap A) (a : α) (I : TypeInfo) (z : Value) (hu : P.underlying T = some (.slice t)) (hi : P.info? t = some I) (hz : I.zero = some z) (z2 : I.size = k) (hzs : z.cells.size = k) (k0 : 0 < k) (hby : (A.length + 1) * I.bytes ≤ 140737488355328) (hl : A.length < 1000000000000) (h1 : ∀ v ∈ enc a, v.oneCell' = true) (hb : base ≤ w.heap.size) :
    ∃ g' cap' w', (Builtin.append_ #[T, T] T #[.slice (some ⟨g, 0, none⟩) A.length cap, .slice (some ⟨w.heap.size, 0, none⟩) 1 1]).run P (w.alloc (.cells (enc a).toArray t)) = .ok (.slice (some ⟨g', 0, none⟩) (A.length + 1) cap') w' ∧ GR enc k t base w' g' cap' (A ++ [a]) ∧ Kp (fun b => b = g) w w' ∧ (g' = g ∨ w.heap.size ≤ g') := by
  have ba := alloc_b w (.cells (enc a).toArray t)
  have v2 := Bx.new w t (enc a).toArray
  have h2 := h.on ba
  have gl := h.lt
  have src : ∀ j u, (enc a)[j]? = some u → (w.alloc (.cells (enc a).toArray t)).cell? ((⟨w.heap.size, 0, none⟩ : Addr).add j) = some u := fun j u hu2 => by
    rw [Go.WideShapes.add_plain, Nat.zero_add]
    exact v2.cell j u (by rw [List.getElem?_toArray]; exact hu2)
  have sz : (w.alloc (.cells (enc a).toArray t)).heap.size = w.heap.size + 1 := World.size_alloc _ _
  have la : (A ++ [a]).length = A.length + 1 := by simp
  have fa : fl enc (A ++ [a]) = fl enc A ++ enc a := by simp [fl]
  obtain ⟨cur, b, s, r⟩ := h2.bx
  have cl : cur.toList.length = cap * k := by rw [Array.length_toList]; exact s
  have m2 := Nat.mul_le_mul_right k h.le
  by_cases room : A.length + 1 ≤ cap
  · have m3 := Nat.mul_le_mul_right k room
    rw [Nat.add_mul, Nat.one_mul] at m3
    have q := run_append_room_cells (P := P) (w.alloc (.cells (enc a).toArray t)) T T t I hu hi g 0 A.length cap ⟨w.heap.size, 0, none⟩ 1 1 (enc a) (by rw [z2, hk, Nat.one_mul]) src h1 room
      (fun j hj => by
        rw [hk] at hj
        have := b.cell (0 + A.length * I.size + j) _ (Array.getElem?_eq_getElem (by rw [s, z2]; omega))
        rw [this]; rfl) (fun j _ => b.free _)
    rw [z2, Nat.zero_add] at q
    refine ⟨g, cap, _, q, ⟨⟨_, bx_setc (t := t) (enc a) (A.length * k) _ cur.toList b (by rw [hk, cl]; omega), ?_, ?_⟩, by rw [la]; exact room, h.cm, h.bb⟩, (Kp.of ba).trans ((Kp.refl (fun b => b = g) _).setcs (.inl rfl) _ _), .inl rfl⟩
    · rw [List.size_toArray, List.length_append, List.length_append, List.length_take, List.length_drop, hk, cl]
      omega
    · rw [la, fa, r, Nat.add_mul, Nat.one_mul]
      have lf := fl_len hk A
      rw [List.take_left' (by rw [List.length_append, lf, hk])]
  · obtain ⟨v', w', q, o, gb⟩ := run_append_arg_grows (P := P) (w.alloc (.cells (enc a).toArray t)) T T t I z k I.bytes hu hi hz z2 rfl hzs k0 ⟨g, 0, none⟩ A.length cap (fl enc A) (fl_len hk A)
      (fun j u hu2 => by
        rw [Go.WideShapes.add_plain, Nat.zero_add]
        refine b.cell j u ?_
        rw [← r, List.getElem?_take] at hu2
        split at hu2
        · rw [← Array.getElem?_toList]; exact hu2
        · simp at hu2) ⟨w.heap.size, 0, none⟩ 1 1 (enc a) (by rw [hk, Nat.one_mul]) src (by omega) (by simp only [maxLen]; omega) hby
    rcases o.2 with ⟨_, c⟩ | ⟨g', cap', cur', rfl, hbg, hgg, hnc, hcm, hcs, htk⟩
    · omega
    · refine ⟨g', cap', w', q, ⟨⟨cur', hgg, hcs, by rw [la, fa]; exact htk⟩, by rw [la]; exact hnc, hcm, by omega⟩, (Kp.of ba).trans ?_, .inr (by omega)⟩
      exact ⟨gb.os, gb.tape, gb.output, gb.size, fun i hi2 _ => gb.block i hi2 (by simp)⟩
end
end Re
end Go.Proofs.YtpmmbaahoegmlaaGreatDoor

namespace Go.Proofs.YtpmmbaahoegmlaaGreatDoor
open Go Go.RowKit Go.Deep Go.Shelf

namespace Re
/-- append to nothing, in a block of its own. -/
theorem app_o {w : World} {g m n b base : Nat} {P : List Int} (h : Bx w g 3 (fl ei P).toArray) (hm : m ≤ P.length) (hl : m ≤ 4398046511104) (m0 : 0 < m) (hb : base ≤ w.heap.size) :
    ∃ c w', (Builtin.append_ #[29, 29] 29 #[.slice (some ⟨b, 0, none⟩) 0 0, .slice (some ⟨g, 0, none⟩) m n]).run Tryz.prog w = .ok (.slice (some ⟨w.heap.size, 0, none⟩) m c) w' ∧ GR ei 1 3 base w' w.heap.size c (P.take m) ∧ Below w.heap.size w w' := by
  obtain ⟨i, hi, hz⟩ := Option.map_eq_some_iff.1 infoI
  simp only [Prod.mk.injEq] at hz
  obtain ⟨z1, z2, z3⟩ := hz
  obtain ⟨s1, s2, s3⟩ := src_i h hm
  have l1 : (fl ei (P.take m)).length = m := by rw [s1, Nat.mul_one]
  rw [← z2] at s1
  have r := run_append_grow w 29 29 3 i _ Tryz.underlying29 hi z1 ⟨b, 0, none⟩ 0 0 [] (by simp) (by simp) ⟨g, 0, none⟩ m n _ s1 s2 (by omega) (by omega) (by rw [Nat.zero_add, next0 m (by omega), z3]; omega)
  rw [Nat.zero_add] at r
  have ge := grownCap_ge w m 0 3
  have le := grownCap_le_maxLen w m 0 3 (by simp only [maxLen]; omega)
  have tl : (P.take m).length = m := by rw [List.length_take]; omega
  refine ⟨_, _, r, ⟨⟨_, Bx.new w.drew 3 _, ?_, ?_⟩, by rw [tl]; exact ge, le, hb⟩, below_on (Below.drew (Below.refl _ _)) (alloc_b _ _)⟩
  · simp [Builtin.zeroCells, Value.cells, l1]
    omega
  · rw [tl, Nat.mul_one]
    rw [Array.toList_append, Array.toList_append, List.nil_append, List.take_append_of_le_length (by rw [l1]; exact Nat.le_refl _)]
    exact List.take_of_length_le (by rw [l1]; exact Nat.le_refl _)
end Re

set_option maxRecDepth 100000 in
set_option maxHeartbeats 2000000 in
theorem iclone_own (g m n base : Nat) (P : List Int) (w : World) (h : Bx w g 3 (Re.fl Re.ei P).toArray) (hm : m ≤ P.length) (hl : m ≤ 4398046511104) (m0 : 0 < m) (hb : base ≤ w.heap.size) :
    Calls Tryz.prog 18 #[.slice (some ⟨g, 0, none⟩) m n] w fun e w' => ∃ b c, e = .returned (.slice (some ⟨b, 0, none⟩) m c) ∧ Re.GR Re.ei 1 3 base w' b c (P.take m) ∧ Below w.heap.size w w' := by
  have b1 := alloc_b w (.cells #[] 3)
  have hs : (w.alloc (.cells #[] 3)).heap.size = w.heap.size + 1 := by simp
  obtain ⟨c, w', AP, cc, bb⟩ := Re.app_o (m := m) (n := n) (b := w.heap.size) (base := base) (h.on b1) hm hl m0 (Nat.le_trans hb b1.size)
  have AP := hid AP
  rw [hs] at cc
  have R := hid (And.intro cc (below_on b1 bb))
  have EN : ∀ W, (binOp .eql 29 (.slice (some ⟨g, 0, none⟩) m n) (.slice none 0 0)).run Tryz.prog W = .ok (.bool false) W := fun W => by
    simp only [binOp]
    simp [Op.equal, Op.maxDepth, Lib.run_equalIn_slice_nil W 9999 29 3 (some ⟨g, 0, none⟩) m n 0 0 Tryz.underlying29]
  clear h hm hl b1 cc bb m0 hb hs
  go_enter Tryz.func18, Tryz.ntmps18
  go_wp2_with (at_builtin; refine wpList_append_t rfl _ _ rfl AP.out (by rfl) (by rfl) ?_; clear AP)
  go_ret
  exact ⟨_, _, rfl, R.out⟩
end Go.Proofs.YtpmmbaahoegmlaaGreatDoor

namespace Go.Proofs.YtpmmbaahoegmlaaGreatDoor
open Go Go.RowKit Go.Deep Go.Shelf

namespace Re
/-- A list of ints in a block of its own, or nil. -/
def Li (base : Nat) (w : World) (q : Option Addr) (c : Nat) (P : List Int) : Prop := (q = none ∧ c = 0 ∧ P = []) ∨ ∃ g, q = some ⟨g, 0, none⟩ ∧ GR ei 1 3 base w g c P
theorem Li.on {base : Nat} {w w' : World} {q : Option Addr} {c : Nat} {P : List Int} (h : Li base w q c P) (b : Below w.heap.size w w') : Li base w' q c P := by
  rcases h with h | ⟨g, e, h⟩
  · exact .inl h
  · exact .inr ⟨g, e, h.on b⟩
theorem GR.whole {base g : Nat} {w : World} {P : List Int} (h : Bx w g 3 (fl ei P).toArray) (hb : base ≤ g) (hm : P.length ≤ 4398046511104) : GR ei 1 3 base w g P.length P :=
  ⟨⟨_, h, by rw [List.size_toArray, fl_len ei_len], by
    have := fl_len ei_len P
    exact List.take_of_length_le (by rw [this]; exact Nat.le_refl _)⟩, Nat.le_refl _, by simp only [maxLen]; omega, hb⟩
end Re

set_option maxRecDepth 100000 in
set_option maxHeartbeats 2000000 in
theorem iclone_nil (g n base : Nat) (P : List Int) (w : World) (hb : base ≤ w.heap.size) :
    Calls Tryz.prog 18 #[.slice (some ⟨g, 0, none⟩) 0 n] w fun e w' => ∃ b c, e = .returned (.slice (some ⟨b, 0, none⟩) 0 c) ∧ Re.GR Re.ei 1 3 base w' b c (P.take 0) ∧ Below w.heap.size w w' := by
  have b1 := alloc_b w (.cells #[] 3)
  have AP : Hid ((Builtin.append_ #[29, 29] 29 #[.slice (some ⟨w.heap.size, 0, none⟩) 0 0, .slice (some ⟨g, 0, none⟩) 0 n]).run Tryz.prog (w.alloc (.cells #[] 3)) = .ok (.slice (some ⟨w.heap.size, 0, none⟩) 0 0) (w.alloc (.cells #[] 3))) := by
    obtain ⟨i, hi, hz⟩ := Option.map_eq_some_iff.1 Re.infoI
    exact run_append_room_cells _ 29 29 3 i Tryz.underlying29 hi w.heap.size 0 0 0 ⟨g, 0, none⟩ 0 n [] (by simp) (by simp) (by simp) (by omega) (by simp) (by simp)
  have R : Hid (Re.GR Re.ei 1 3 base (w.alloc (.cells #[] 3)) w.heap.size 0 (P.take 0) ∧ Below w.heap.size w (w.alloc (.cells #[] 3))) := ⟨by rw [List.take_zero]; exact Re.GR.new w hb, b1⟩
  have EN : ∀ W, (binOp .eql 29 (.slice (some ⟨g, 0, none⟩) 0 n) (.slice none 0 0)).run Tryz.prog W = .ok (.bool false) W := fun W => by
    simp only [binOp]
    simp [Op.equal, Op.maxDepth, Lib.run_equalIn_slice_nil W 9999 29 3 (some ⟨g, 0, none⟩) 0 n 0 0 Tryz.underlying29]
  clear b1 hb
  go_enter Tryz.func18, Tryz.ntmps18
  go_wp2_with (at_builtin; refine wpList_append_t rfl _ _ rfl AP.out (by rfl) (by rfl) ?_; clear AP)
  go_ret
  exact ⟨_, _, rfl, R.out⟩

theorem iclone_all (g m n base : Nat) (P : List Int) (w : World) (h : Bx w g 3 (Re.fl Re.ei P).toArray) (hm : m ≤ P.length) (hl : m ≤ 4398046511104) (hb : base ≤ w.heap.size) :
    Calls Tryz.prog 18 #[.slice (some ⟨g, 0, none⟩) m n] w fun e w' => ∃ b c, e = .returned (.slice (some ⟨b, 0, none⟩) m c) ∧ Re.GR Re.ei 1 3 base w' b c (P.take m) ∧ Below w.heap.size w w' := by
  by_cases m0 : m = 0
  · subst m0
    exact iclone_nil g n base P w hb
  · exact iclone_own g m n base P w h hm hl (by omega) hb

set_option maxRecDepth 100000 in
set_option maxHeartbeats 2000000 in
theorem top_own (p : Option Addr) (cap : Nat) (A : List Re.Vl) (k : Int) (w : World) (hv : Re.LV w p A) (hw : ∀ a ∈ A, 0 ≤ a.n ∧ a.n < 18446744073709551616) (hl : A.length ≤ 4398046511104) (hk : k ≤ 9223372036854775807) :
    Calls Tryz.prog 8 #[.slice p A.length cap, .int .i64 k] w fun e w' => ∃ q m c R, e = .returned (.slice q m c) ∧ (m : Int) = min (max k 0) (A.length : Int) ∧ R.length = m ∧ Re.Li w.heap.size w' q c R ∧ (∀ Q, Re.Sorts A Q → R = Q.take m) ∧ Below w.heap.size w w' := by
  have SO := hid (sort_any p cap A w hv hw hl)
  have IC := hid (fun g m n P W h hm hl hb => iclone_all g m n w.heap.size P W h hm hl hb)
  obtain ⟨n, hn⟩ : ∃ n, A.length = n := ⟨_, rfl⟩
  have HN := hid hn
  rw [hn] at SO hl ⊢
  clear hv hw hn
  by_cases k1 : k < 1
  · clear SO IC
    have hmn : Hid ((0 : Int) = min (max k 0) (n : Int)) := by rw [Hid]; omega
    go_enter Tryz.func8, Tryz.ntmps8
    go_wp2_with fail
    go_ret
    exact ⟨none, 0, 0, [], rfl, hmn.out, rfl, .inl ⟨rfl, rfl, rfl⟩, fun Q _ => by rw [List.take_zero], Below.refl _ _⟩
  · go_enter Tryz.func8, Tryz.ntmps8
    go_wp2_with fail
    refine SO.out.mono ?_
    rintro e w1 ⟨g, P, rfl, hg, x1, so, pl, b1⟩
    have R1 := hid (And.intro so (And.intro pl (And.intro b1 x1)))
    clear so pl b1 x1 SO hg
    go_wp2_with fail
    refine (IC.out g (min k (n : Int)).toNat n P w1 R1.out.2.2.2 (by have := R1.out.2.1; omega) (by omega) R1.out.2.2.1.size).mono ?_
    rintro e w2 ⟨b, c, rfl, cc, b2⟩
    have hmn : Hid ((((min k (n : Int)).toNat : Nat) : Int) = min (max k 0) (n : Int)) := by rw [Hid]; omega
    have R2 : Hid ((P.take (min k (n : Int)).toNat).length = (min k (n : Int)).toNat ∧ Re.Li w.heap.size w2 (some ⟨b, 0, none⟩) c (P.take (min k (n : Int)).toNat) ∧ (∀ Q, Re.Sorts A Q → P.take (min k (n : Int)).toNat = Q.take (min k (n : Int)).toNat) ∧ Below w.heap.size w w2) :=
      ⟨by rw [List.length_take]; have := R1.out.2.1; omega, .inr ⟨b, rfl, cc⟩, fun Q hQ => by rw [R1.out.1.uniq hQ], below_on R1.out.2.2.1 b2⟩
    generalize (min k (n : Int)).toNat = m at *
    clear cc b2 R1 IC
    go_wp2_with fail
    go_ret
    exact ⟨_, _, _, _, rfl, hmn.out, R2.out⟩

theorem sort_own (p : Option Addr) (cap : Nat) (A : List Re.Vl) (w : World) (hv : Re.LV w p A) (hw : ∀ a ∈ A, 0 ≤ a.n ∧ a.n < 18446744073709551616) (hl : A.length ≤ 4398046511104) :
    Calls Tryz.prog 7 #[.slice p A.length cap] w fun e w' => ∃ g P, e = .returned (.slice (some ⟨g, 0, none⟩) A.length A.length) ∧ P.length = A.length ∧ Re.GR Re.ei 1 3 w.heap.size w' g A.length P ∧ Re.Sorts A P ∧ Below w.heap.size w w' := by
  refine (sort_any p cap A w hv hw hl).mono ?_
  rintro e w1 ⟨g, P, rfl, hg, x1, so, pl, b1⟩
  refine ⟨g, P, rfl, pl, ?_, so, b1⟩
  have := Re.GR.whole x1 hg (by omega)
  rwa [pl] at this
end Go.Proofs.YtpmmbaahoegmlaaGreatDoor

namespace Go.Proofs.YtpmmbaahoegmlaaGreatDoor
open Go Go.RowKit Go.Deep Go.Shelf

namespace Re
theorem fl_one (B : List Int) : ∀ v ∈ fl ei B, v.oneCell' = true := by
  intro v hv
  simp only [fl, List.mem_flatMap] at hv
  obtain ⟨x, _, h⟩ := hv
  simp only [ei, List.mem_cons, List.not_mem_nil, or_false] at h
  rw [h]; rfl
theorem GR.app {base : Nat} {w : World} {g cap gs n : Nat} {A B : List Int} (h : GR ei 1 3 base w g cap A) (hs : Bx w gs 3 (fl ei B).toArray) (hl : A.length + B.length ≤ 8796093022208) (hb : base ≤ w.heap.size) :
    ∃ g' cap' w', (Builtin.append_ #[29, 29] 29 #[.slice (some ⟨g, 0, none⟩) A.length cap, .slice (some ⟨gs, 0, none⟩) B.length n]).run Tryz.prog w = .ok (.slice (some ⟨g', 0, none⟩) (A.length + B.length) cap') w' ∧ GR ei 1 3 base w' g' cap' (A ++ B) ∧ Kp (fun b => b = g) w w' ∧ ((g' = g ∧ cap' = cap) ∨ (w.heap.size ≤ g' ∧ Below w.heap.size w w')) := by
  obtain ⟨I, hi, hz⟩ := Option.map_eq_some_iff.1 infoI
  simp only [Prod.mk.injEq] at hz
  obtain ⟨z1, z2, z3⟩ := hz
  have gl := h.lt
  have lb := fl_len ei_len B
  have src : ∀ j u, (fl ei B)[j]? = some u → w.cell? ((⟨gs, 0, none⟩ : Addr).add j) = some u := fun j u hu2 => by
    rw [Go.WideShapes.add_plain, Nat.zero_add]
    exact hs.cell j u (by rw [List.getElem?_toArray]; exact hu2)
  have la : (A ++ B).length = A.length + B.length := by simp
  have fa : fl ei (A ++ B) = fl ei A ++ fl ei B := by simp [fl]
  obtain ⟨cur, b, s, r⟩ := h.bx
  have cl : cur.toList.length = cap * 1 := by rw [Array.length_toList]; exact s
  have m2 := h.le
  by_cases room : A.length + B.length ≤ cap
  · have q := run_append_room_cells (P := Tryz.prog) w 29 29 3 I Tryz.underlying29 hi g 0 A.length cap ⟨gs, 0, none⟩ B.length n (fl ei B) (by rw [z2, lb]) src (fl_one B) room
      (fun j hj => by
        rw [lb] at hj
        have := b.cell (0 + A.length * I.size + j) _ (Array.getElem?_eq_getElem (by rw [s, z2]; omega))
        rw [this]; rfl) (fun j _ => b.free _)
    rw [z2, Nat.zero_add] at q
    refine ⟨g, cap, _, q, ⟨⟨_, bx_setc (t := 3) (fl ei B) (A.length * 1) _ cur.toList b (by rw [lb, cl]; omega), ?_, ?_⟩, by rw [la]; exact room, h.cm, h.bb⟩, (Kp.refl (fun b => b = g) _).setcs (.inl rfl) _ _, .inl ⟨rfl, rfl⟩⟩
    · rw [List.size_toArray, List.length_append, List.length_append, List.length_take, List.length_drop, lb, cl]
      omega
    · rw [la, fa, r]
      have lf := fl_len ei_len A
      rw [List.take_left' (by rw [List.length_append, lf, lb]; omega)]
  · obtain ⟨v', w', q, o, gb⟩ := run_append_arg_grows (P := Tryz.prog) w 29 29 3 I _ 1 I.bytes Tryz.underlying29 hi z1 z2 rfl rfl (by omega) ⟨g, 0, none⟩ A.length cap (fl ei A) (fl_len ei_len A)
      (fun j u hu2 => by
        rw [Go.WideShapes.add_plain, Nat.zero_add]
        refine b.cell j u ?_
        rw [← r, List.getElem?_take] at hu2
        split at hu2
        · rw [← Array.getElem?_toList]; exact hu2
        · simp at hu2) ⟨gs, 0, none⟩ B.length n (fl ei B) lb src (by omega) (by simp only [maxLen]; omega) (by rw [z3]; omega)
    rcases o.2 with ⟨_, c⟩ | ⟨g', cap', cur', rfl, hbg, hgg, hnc, hcm, hcs, htk⟩
    · omega
    · refine ⟨g', cap', w', q, ⟨⟨cur', hgg, hcs, by rw [la, fa]; exact htk⟩, by rw [la]; exact hnc, hcm, by omega⟩, ?_, .inr ⟨by omega, gb.os, gb.tape, gb.output, gb.size, fun i hi2 => gb.block i hi2 (by simp)⟩⟩
      exact ⟨gb.os, gb.tape, gb.output, gb.size, fun i hi2 _ => gb.block i hi2 (by simp)⟩
theorem Li.app {base : Nat} {w : World} {q : Option Addr} {c gs n : Nat} {A B : List Int} (h : Li base w q c A) (hs : Bx w gs 3 (fl ei B).toArray) (b0 : 0 < B.length) (hl : A.length + B.length ≤ 8796093022208) (hb : base ≤ w.heap.size) :
    ∃ g' c' w', (Builtin.append_ #[29, 29] 29 #[.slice q A.length c, .slice (some ⟨gs, 0, none⟩) B.length n]).run Tryz.prog w = .ok (.slice (some ⟨g', 0, none⟩) (A.length + B.length) c') w' ∧ GR ei 1 3 base w' g' c' (A ++ B) ∧ Kp (fun b => q = some ⟨b, 0, none⟩) w w' ∧ ((q = some ⟨g', 0, none⟩ ∧ c' = c) ∨ (w.heap.size ≤ g' ∧ Below w.heap.size w w')) := by
  rcases h with ⟨rfl, rfl, rfl⟩ | ⟨g, rfl, h⟩
  · obtain ⟨I, hi, hz⟩ := Option.map_eq_some_iff.1 infoI
    simp only [Prod.mk.injEq] at hz
    obtain ⟨z1, z2, z3⟩ := hz
    have lb := fl_len ei_len B
    have r := run_append_nil (P := Tryz.prog) w 29 29 3 I _ Tryz.underlying29 hi z1 ⟨gs, 0, none⟩ B.length n (fl ei B) (by rw [z2, lb]) (fun j u hu2 => by
      rw [Go.WideShapes.add_plain, Nat.zero_add]
      exact hs.cell j u (by rw [List.getElem?_toArray]; exact hu2)) b0 (by omega) (by rw [z3]; simp only [List.length_nil] at hl; omega)
    have ge := grownCap_ge w B.length 0 3
    have le := grownCap_le_maxLen w B.length 0 3 (by simp only [maxLen]; simp only [List.length_nil] at hl; omega)
    rw [List.length_nil, Nat.zero_add, List.nil_append]
    refine ⟨_, _, _, r, ⟨⟨_, Bx.new w.drew 3 _, ?_, ?_⟩, ge, le, hb⟩, Kp.of (below_on (Below.drew (Below.refl _ _)) (alloc_b _ _)), .inr ⟨Nat.le_refl _, below_on (Below.drew (Below.refl _ _)) (alloc_b _ _)⟩⟩
    · simp [Builtin.zeroCells, Value.cells, lb]
      omega
    · rw [Array.toList_append, List.take_append_of_le_length (by rw [lb]; exact Nat.le_refl _)]
      exact List.take_of_length_le (by rw [lb]; exact Nat.le_refl _)
  · obtain ⟨g', c', w', r, gr, k, o⟩ := h.app (n := n) hs hl hb
    refine ⟨g', c', w', r, gr, ⟨k.os, k.tape, k.output, k.size, fun i hi2 hn => k.block i hi2 (fun e => hn (by rw [e]))⟩, o.elim (fun e => .inl ⟨by rw [e.1], e.2⟩) .inr⟩
theorem GR.pre {base : Nat} {w : World} {g cap : Nat} {A B : List Int} (h : GR ei 1 3 base w g cap (A ++ B)) : GR ei 1 3 base w g cap A := by
  obtain ⟨cur, b, s, r⟩ := h.bx
  have le := h.le
  rw [List.length_append] at le
  refine ⟨⟨cur, b, s, ?_⟩, by omega, h.cm, h.bb⟩
  have fa : fl ei (A ++ B) = fl ei A ++ fl ei B := by simp [fl]
  have := congrArg (List.take (A.length * 1)) r
  rw [List.take_take, fa, List.length_append, Nat.min_eq_left (by omega)] at this
  rw [this]
  exact List.take_left' (fl_len ei_len A)
theorem Li.kp {base : Nat} {w w' : World} {q : Option Addr} {c : Nat} {A : List Int} (h : Li base w q c A) {S : Nat → Prop} (k : Kp S w w') (hs : ∀ g, q = some ⟨g, 0, none⟩ → ¬ S g) : Li base w' q c A := by
  rcases h with h | ⟨g, rfl, h⟩
  · exact .inl h
  · exact .inr ⟨g, rfl, h.kp k (hs g rfl)⟩
/-- Behind an append the list itself is as it was. -/
theorem Li.still {base : Nat} {w w' : World} {q : Option Addr} {c g' c' : Nat} {A B : List Int} (h : Li base w q c A) (gr : GR ei 1 3 base w' g' c' (A ++ B)) (o : (q = some ⟨g', 0, none⟩ ∧ c' = c) ∨ (w.heap.size ≤ g' ∧ Below w.heap.size w w')) : Li base w' q c A := by
  rcases o with ⟨e, ec⟩ | ⟨_, b⟩
  · rw [e, ← ec]
    exact .inr ⟨g', rfl, gr.pre⟩
  · exact h.on b
end Re
end Go.Proofs.YtpmmbaahoegmlaaGreatDoor

namespace Go.Proofs.YtpmmbaahoegmlaaGreatDoor
open Go Go.RowKit Go.Deep Go.Shelf
namespace Re

theorem appv {w : World} {g gs : Nat} {A B : List Vl} (h : Bx w g 26 (fl ev A).toArray) (hs : Bx w gs 26 (fl ev B).toArray) (b0 : 0 < B.length) (hl : A.length + B.length ≤ 4398046511200) :
    ∃ g' c w', (Builtin.append_ #[22, 22] 22 #[.slice (some ⟨g, 0, none⟩) A.length A.length, .slice (some ⟨gs, 0, none⟩) B.length B.length]).run Tryz.prog w = .ok (.slice (some ⟨g', 0, none⟩) (A.length + B.length) c) w' ∧ GR ev 3 26 w.heap.size w' g' c (A ++ B) ∧ Below w.heap.size w w' := by
  obtain ⟨I, hi, hz⟩ := Option.map_eq_some_iff.1 infoV
  simp only [Prod.mk.injEq] at hz
  obtain ⟨z1, z2, z3⟩ := hz
  have la := fl_len ev_len A
  have lb := fl_len ev_len B
  have fa : fl ev (A ++ B) = fl ev A ++ fl ev B := by simp [fl]
  have src : ∀ j u, (fl ev B)[j]? = some u → w.cell? ((⟨gs, 0, none⟩ : Addr).add j) = some u := fun j u hu2 => by
    rw [Go.WideShapes.add_plain, Nat.zero_add]
    exact hs.cell j u (by rw [List.getElem?_toArray]; exact hu2)
  have src0 : ∀ j u, (fl ev A)[j]? = some u → w.cell? ((⟨g, 0, none⟩ : Addr).add j) = some u := fun j u hu2 => by
    rw [Go.WideShapes.add_plain, Nat.zero_add]
    exact h.cell j u (by rw [List.getElem?_toArray]; exact hu2)
  have lo : (fl ev A ++ fl ev B).length = (A ++ B).length * 3 := by rw [List.length_append, la, lb, List.length_append]; omega
  have fit := growslice_fits_wide (need := A.length + B.length) (old := A.length) (bytes := I.bytes) (by omega) (by rw [z3]; omega)
  have q := run_append_grow (P := Tryz.prog) w 22 22 26 I _ Tryz.underlying22 hi z1 ⟨g, 0, none⟩ A.length A.length (fl ev A) (by rw [z2]; exact la) src0 ⟨gs, 0, none⟩ B.length B.length (fl ev B) (by rw [z2]; exact lb) src (by omega) (by omega) fit
  have ge := grownCap_ge w (A.length + B.length) A.length 26
  have le := grownCap_le_maxLen w (A.length + B.length) A.length 26 (by simp only [maxLen]; omega)
  have bo : Below w.heap.size w (w.drew.alloc (.cells ((fl ev A).toArray ++ (fl ev B).toArray ++ Builtin.zeroCells (Value.agg #[.int .i64 0, .int .u64 0, .string ⟨#[]⟩]).cells (grownCap w (A.length + B.length) A.length 26 - (A.length + B.length))) 26)) := below_on (Below.drew (Below.refl _ _)) (alloc_b w.drew _)
  refine ⟨_, _, _, q, ⟨⟨_, Bx.new w.drew 26 _, ?_, ?_⟩, by rw [List.length_append]; exact ge, le, Nat.le_refl _⟩, bo⟩
  · simp [Builtin.zeroCells, Value.cells, la, lb]
    omega
  · rw [fa, Array.toList_append, Array.toList_append]
    exact List.take_left' lo
end Re
end Go.Proofs.YtpmmbaahoegmlaaGreatDoor

namespace Go.Proofs.YtpmmbaahoegmlaaGreatDoor
open Go Go.RowKit Go.Deep Go.Shelf

namespace Re
/-- n, n - 1, .., 1: numbers by their bits. -/
def dwn (n : Nat) : List Vl := (List.range n).map fun i : Nat => ⟨1, ((n - i : Nat) : Int), ⟨#[]⟩⟩
theorem dwn_len (n : Nat) : (dwn n).length = n := by simp [dwn]
theorem dwn_at {n i : Nat} (h : i < n) : (dwn n)[i]? = some ⟨1, ((n - i : Nat) : Int), ⟨#[]⟩⟩ := by
  rw [dwn, List.getElem?_map, List.getElem?_range h]; rfl
/-- The list when i of its places are written. -/
def upd (A : List Vl) (n i : Nat) : List Vl := (dwn n).take i ++ A.drop i
theorem upd_len {A : List Vl} {n i : Nat} (h : A.length = n) (hi : i ≤ n) : (upd A n i).length = n := by
  rw [upd, List.length_append, List.length_take, List.length_drop, dwn_len, h]; omega
theorem upd_zero (A : List Vl) (n : Nat) : upd A n 0 = A := by simp [upd]
theorem upd_all {A : List Vl} {n : Nat} (h : A.length = n) : upd A n n = dwn n := by
  rw [upd, List.drop_of_length_le (by omega), List.append_nil, List.take_of_length_le (by rw [dwn_len]; exact Nat.le_refl _)]
theorem upd_set {A : List Vl} {n i : Nat} (h : A.length = n) (hi : i < n) : (upd A n i).set i ⟨1, ((n - i : Nat) : Int), ⟨#[]⟩⟩ = upd A n (i + 1) := by
  apply List.ext_getElem?
  intro j
  rw [List.getElem?_set, upd_len h (by omega)]
  rw [upd, upd, List.getElem?_append, List.getElem?_append, List.length_take, List.length_take, dwn_len, Nat.min_eq_left (by omega), Nat.min_eq_left (by omega)]
  rw [List.getElem?_take, List.getElem?_take, List.getElem?_drop, List.getElem?_drop]
  rcases Nat.lt_trichotomy j i with c | c | c
  · rw [if_neg (by omega), if_pos c, if_pos c, if_pos (by omega), if_pos (by omega)]
  · subst c
    rw [if_pos rfl, if_pos hi, if_pos (by omega), if_pos (by omega), dwn_at hi]
  · rw [if_neg (by omega), if_neg (by omega), if_neg (by omega)]
    congr 1
    omega
/-- The places turned about. -/
def rev (n : Nat) : List Int := (List.range n).map fun i : Nat => ((n - 1 - i : Nat) : Int)
theorem rev_at {n i : Nat} (h : i < n) : (rev n)[i]? = some ((n - 1 - i : Nat) : Int) := by
  rw [rev, List.getElem?_map, List.getElem?_range h]; rfl
theorem rt_small {m : Nat} (h : m ≤ 4398046511104) : rt 1 (m : Int) ⟨#[]⟩ = .nu (m : Int) := by
  rw [rt_nu (by decide)]
  have ok : Ie.okd (m : Int) = true := by rw [Ie.okd, decide_eq_true_eq]; omega
  rw [nu, if_pos (.inl rfl), pl, if_pos ok, Ie.rkv, if_pos ok, Ie.rk, if_pos (by omega)]
theorem dwn_sorts {n : Nat} (hn : n ≤ 4398046511104) : Sorts (dwn n) (rev n) := by
  have tl := tks_len (dwn n)
  rw [dwn_len] at tl
  refine ⟨(tks (dwn n)).reverse, List.reverse_perm _, ?_, ?_⟩
  · rw [List.pairwise_reverse, List.pairwise_iff_getElem]
    intro i l hi hl hil
    rw [tl] at hi hl
    have e1 := tks_at (dwn_at hi)
    have e2 := tks_at (dwn_at hl)
    rw [List.getElem?_eq_getElem (by rw [tl]; exact hi)] at e1
    rw [List.getElem?_eq_getElem (by rw [tl]; exact hl)] at e2
    rw [Option.some.inj e1, Option.some.inj e2, ct_le]
    left
    show cm (rt 1 ((n - l : Nat) : Int) ⟨#[]⟩) (rt 1 ((n - i : Nat) : Int) ⟨#[]⟩) < 0
    rw [rt_small (by omega), rt_small (by omega)]
    show Ie.cm _ _ < 0
    rw [Ie.cm, if_pos (by omega)]
    decide
  · apply List.ext_getElem?
    intro i
    by_cases h : i < n
    · rw [rev_at h, List.getElem?_map, List.getElem?_reverse (by rw [tl]; exact h), tl, tks_at (dwn_at (show n - 1 - i < n by omega))]
      rfl
    · rw [List.getElem?_eq_none (by simp [rev]; omega), List.getElem?_eq_none (by simp [tl]; omega)]
theorem GR.lv {base : Nat} {w : World} {g c : Nat} {A M : List Vl} (h : GR ev 3 26 base w g c (A ++ M)) : LV w (some ⟨g, 0, none⟩) A := by
  refine .inr ⟨g, 0, rfl, fun i a hi => ?_⟩
  have hi2 : (A ++ M)[i]? = some a := by
    rw [List.getElem?_append_left (by have := List.getElem?_eq_some_iff.1 hi; exact this.1)]; exact hi
  have K : ∀ j v, j < 3 → (ev a)[j]? = some v → w.cell? ⟨g, 0 + i * 3 + j, none⟩ = some v := fun j v hj hv => by
    rw [Nat.zero_add]; exact h.cell ev_len hi2 j hj v hv
  exact ⟨K 0 _ (by omega) rfl, K 1 _ (by omega) rfl, K 2 _ (by omega) rfl⟩
end Re
end Go.Proofs.YtpmmbaahoegmlaaGreatDoor
