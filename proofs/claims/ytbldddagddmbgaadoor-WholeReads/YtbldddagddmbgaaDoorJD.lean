/-
  Texts put together: JReadN, JReads, OpenSpc.
-/
import Derived.Test.YtbldddagddmbgaaDoorJB
import Derived.Test.YtbldddagddmbgaaDoorNF
import Derived.Test.YtbldddagddmbgaaDoorJC
import Derived.Test.YtbldddagddmbgaaDoorTrimW
import Derived.Test.YtbldddagddmbgaaDoorWalk5
import Derived.Test.YtbldddagddmbgaaDoorJA
import Derived.SizedLaws
import Derived.ProofKit
namespace Go.Proofs.YtbldddagddmbgaaDoor
open Go.RowKit Go.Deep
namespace Wh

theorem wv_ten {x : Int} (h : wv x < 10) : 48 ≤ x ∧ x ≤ 57 := by
  unfold wv at h
  split at h
  · assumption
  · split at h
    · omega
    · split at h <;> omega
theorem Dg.digs {up : Bool} {v : Int} {xs : List Int} (h : Dg 10 up v xs) : Digs xs := by
  intro x hx
  obtain ⟨i, hi, rfl⟩ := List.getElem_of_mem hx
  have q := h.dig i hi
  rw [List.getD_eq_getElem?_getD, List.getElem?_eq_getElem hi] at q
  exact wv_ten q
theorem Dg.dv {up : Bool} {v : Int} {xs : List Int} (h : Dg 10 up v xs) : dv xs = v := by
  rw [← h.val, wv_map h.digs]; rfl

/-- The digits brought to the precision. -/
structure FilOk (P v : Int) (xs : List Int) : Prop where
  digs : Digs xs
  val : dv xs = v
  len : P ≤ xs.length
  max : xs.length ≤ 270000
  nil : v = 0 → P = 0 → xs = []
  ne : ¬ (v = 0 ∧ P = 0) → xs ≠ []
  head : xs.getD 0 0 ≠ 48 ∨ (xs.getD 0 0 = 48 ∧ (xs.length : Int) = P) ∨ (xs.getD 0 0 = 48 ∧ (xs.length : Int) ≠ P ∧ v = 0 ∧ xs.length = 1)

theorem digs_rep (n : Int) : Digs (rep 48 n) := by
  intro x hx
  rw [rep, List.mem_replicate] at hx
  omega
theorem fil_ok {P : Int} {zs : List Int} (hz : Nm.Limbs zs) (ht : Nm.tsize zs ≤ 4096) (p0 : -1 ≤ P) (p1 : P ≤ 4096) : FilOk P (Nm.val zs) (fil P (dig 10 false (Nm.val zs))) := by
  have v0 := (Nm.val_bd zs hz).1
  have D : Digs (dig 10 false (Nm.val zs)) ∧ dv (dig 10 false (Nm.val zs)) = Nm.val zs ∧ (dig 10 false (Nm.val zs)).length ≤ 262144 ∧ (Nm.val zs = 0 → dig 10 false (Nm.val zs) = []) ∧ (Nm.val zs ≠ 0 → dig 10 false (Nm.val zs) ≠ [] ∧ (dig 10 false (Nm.val zs)).getD 0 0 ≠ 48) := by
    by_cases h : Nm.val zs = 0
    · have e : dig 10 false (Nm.val zs) = [] := by rw [dig, if_pos h]
      rw [e, h]
      exact ⟨by intro x hx; simp at hx, rfl, by simp, fun _ => rfl, fun q => absurd rfl q⟩
    · have g := dig_good (B := 10) (up := false) hz (by omega) ht (by omega) (by omega)
      exact ⟨g.digs, g.dv, g.len, fun q => absurd q h, fun _ => ⟨g.ne, g.head⟩⟩
  obtain ⟨d1, d2, d3, d4, d5⟩ := D
  generalize dig 10 false (Nm.val zs) = D at *
  generalize Nm.val zs = v at *
  obtain ⟨L, hL⟩ : ∃ L : Int, L = if P = -1 then 1 else P := ⟨_, rfl⟩
  have L0 : (P = -1 ∧ L = 1) ∨ (P ≠ -1 ∧ L = P) := by
    rw [hL]; split
    · exact .inl ⟨by assumption, rfl⟩
    · exact .inr ⟨by assumption, rfl⟩
  have e : fil P D = rep 48 (L - D.length) ++ D := by rw [fil, ← hL]
  rw [e]
  clear hL e
  have ll : (rep 48 (L - D.length) ++ D).length = (L - D.length).toNat + D.length := by rw [List.length_append, rep_len]
  have nz : v = 0 ↔ D.length = 0 := by
    constructor
    · intro h; rw [d4 h]; rfl
    · intro h
      by_cases c : v = 0
      · exact c
      · exact absurd (List.eq_nil_of_length_eq_zero h) (d5 c).1
  refine ⟨?_, ?_, ?_, ?_, ?_, ?_, ?_⟩
  · intro x hx
    rcases List.mem_append.1 hx with q | q
    · exact digs_rep _ x q
    · exact d1 x q
  · rw [dv_append, rep, dv_zeros, d2]; omega
  · rw [ll]; omega
  · rw [ll]; omega
  · intro h1 h2
    apply List.eq_nil_of_length_eq_zero
    rw [ll]; omega
  · intro h c
    rw [c] at ll
    simp at ll
    omega
  · by_cases k : L - D.length ≤ 0
    · rw [rep_neg k, List.nil_append]
      by_cases c : v = 0
      · left
        rw [d4 c]; decide
      · exact .inl (d5 c).2
    · have e : (rep 48 (L - D.length) ++ D).getD 0 0 = 48 := by
        rw [rep, show (L - (D.length : Int)).toNat = ((L - (D.length : Int)).toNat - 1) + 1 by omega, List.replicate_succ]
        rfl
      right
      rcases L0 with ⟨a, b⟩ | ⟨a, b⟩
      · right
        exact ⟨e, by rw [ll]; omega, by omega, by rw [ll]; omega⟩
      · left
        exact ⟨e, by rw [ll]; omega⟩
end Wh
end Go.Proofs.YtbldddagddmbgaaDoor

namespace Go.Proofs.YtbldddagddmbgaaDoor
open Go Go.RowKit Go.Deep Go.Shelf

theorem SB.s0 {w0 wk : World} {V F W P : Int} (h : SB w0 w0.heap.size V F W P wk) (v : Int) : SB w0 w0.heap.size v F W P (wk.setCell ⟨w0.heap.size, 0, none⟩ (.int .u8 v)) :=
  ⟨h.bel.setCell (p := ⟨w0.heap.size, 0, none⟩) (Nat.le_refl _) _, set1 h.box rfl⟩
theorem SB.s2 {w0 wk : World} {V F W P : Int} (h : SB w0 w0.heap.size V F W P wk) (v : Int) : SB w0 w0.heap.size V F v P (wk.setCell ⟨w0.heap.size, 2, none⟩ (.int .i64 v)) :=
  ⟨h.bel.setCell (p := ⟨w0.heap.size, 2, none⟩) (Nat.le_refl _) _, set1 h.box rfl⟩
theorem SB.free {w0 wk : World} {bx : Nat} {V F W P : Int} (h : SB w0 bx V F W P wk) : wk.frozen? ⟨bx, 0, none⟩ = false ∧ wk.frozen? ⟨bx, 1, none⟩ = false ∧ wk.frozen? ⟨bx, 2, none⟩ = false ∧ wk.frozen? ⟨bx, 3, none⟩ = false := h.box.cells.2

theorem trim_len (p : Option Addr) (n cap : Nat) (zs : List Int) (w : World) (ha : Arg w p n cap zs) :
    Calls Tryd.prog 12 #[.slice p n cap] w fun e w' => ∃ r, e = .returned (.slice r (Nm.tsize zs) (Nm.tsize zs)) ∧ Below w.heap.size w w' := by
  refine (trim_any p n cap zs w ha).mono ?_
  rintro e w' ⟨r, os, rfl, h, _, b⟩
  exact ⟨r, by rw [h, Nm.trim_length], b⟩
theorem cmp_same (v : Int) : cmpI v v = 0 := by
  unfold cmpI
  first | simp | (split <;> omega)

/-- All that is known of the text, the sign and the digits. -/
structure RT (T SN FD : List Int) : Prop where
  sT : (strOfNums T).size = SN.length + FD.length
  sF : (strOfNums FD).size = FD.length
  x1 : (strOfNums T).extract 0 SN.length = strOfNums SN
  x2 : (strOfNums T).extract SN.length (SN.length + FD.length) = strOfNums FD
  ix : ∀ h, (((strOfNums FD)[0]'h).toNat : Int) = FD.getD 0 0
theorem rt_of {SN FD : List Int} (h1 : Wh.By SN) (h2 : Wh.By FD) : RT (SN ++ FD) SN FD := by
  have S := Str.of_nums (h1.app h2)
  refine ⟨by rw [strOfNums_size, List.length_append], strOfNums_size _, ?_, ?_, fun h => (Str.of_nums h2).at 0 h⟩
  · have q := str_is (S.extract 0 SN.length)
    rw [q]; simp
  · have q := str_is (S.extract SN.length (SN.length + FD.length))
    rw [q]; simp

set_option maxRecDepth 100000 in
set_option maxHeartbeats 8000000 in
theorem reads_law (V F W P : Int) (neg : Bool) (p : Option Addr) (n cap : Nat) (zs : List Int) (w : World) (ha : Arg w p n cap zs) :
    Calls Tryd.prog 6 #[.agg #[.int .u8 V, .int .i64 F, .int .i64 W, .int .i64 P], .bool neg, .slice p n cap] w fun e w' => e = .returned (.bool true) ∧ Below w.heap.size w w' := by
  have B0 := hid (SB.new w V F W P)
  have FT := hid (fun W' => forty_any W')
  have GD := hid (fun W' => good_any 105 F 0 P W')
  have TR := hid (fun W' (k : Below w.heap.size w W') => trim_len p n cap zs W' (ha.below k (Nat.le_refl _)))
  by_cases hc : Wh.chk F 0 P = 0
  · rw [decide_eq_true hc] at GD
    obtain ⟨⟨q0, q1⟩, -, ⟨p0, p1⟩⟩ := Wh.chk_ok hc
    by_cases ht : 4096 < Nm.tsize zs
    · have hti : (4096 : Int) < (Nm.tsize zs : Int) := by omega
      generalize Nm.tsize zs = tN at *
      clear ha hc q0 q1 p0 p1 ht
      go_enter Tryd.func6, Tryd.ntmps6
      go_wp2_with fail
      with_reducible refine (FT.out _).mono ?_
      rintro e w1 ⟨rfl, b1⟩
      have B1 := hid (B0.out.on b1)
      clear b1 FT B0
      obtain ⟨f0, f1, f2, f3⟩ := B1.out.free
      obtain ⟨c0, c1, c2, c3⟩ := B1.out.flat
      have B2 := hid ((B1.out.s0 105).s2 0)
      go_upto_region 5 with fail
      clear f0 f1 f2 f3 c0 c1 c2 c3 B1
      generalize ((w1.setCell ⟨w.heap.size, 0, none⟩ (.int .u8 105)).setCell ⟨w.heap.size, 2, none⟩ (.int .i64 0)) = wS at *
      obtain ⟨c0, c1, c2, c3⟩ := B2.out.flat
      go_wp2_with fail
      with_reducible refine (GD.out _).mono ?_
      rintro e w2 ⟨rfl, b2⟩
      have B3 := hid (B2.out.on b2)
      clear b2 GD B2 c0 c1 c2 c3
      go_wp2_with fail
      with_reducible refine (TR.out _ B3.out.bel).mono ?_
      rintro e w3 ⟨r, rfl, b3⟩
      have B4 := hid (B3.out.on b3)
      clear b3 B3
      go_wp2_with fail
      go_ret
      exact ⟨rfl, B4.out.bel⟩
    · have SG := hid (fun W' (k : Below w.heap.size w W') => signed_any 105 F 0 P neg p n cap zs W' (by omega) (by omega) (ha.below k (Nat.le_refl _)))
      have hE : Wh.sigE 105 F 0 P (Nm.tsize zs) = 0 := by rw [Wh.sigE, if_pos (.inr rfl), if_pos hc, if_neg ht]
      have hT : Wh.sig 105 F 0 P neg zs = Wh.sgn F (neg && decide (Nm.val zs ≠ 0)) ++ Wh.fil P (Wh.dig 10 false (Nm.val zs)) := by rw [Wh.sig, hE, if_pos rfl, Wh.sigT, Wh.padT_zero]
      have FO := Wh.fil_ok (P := P) ha.2.2.2.2 (by omega) p0 p1
      have R := rt_of (Wh.sgn_by F (neg && decide (Nm.val zs ≠ 0))) (Wh.fil_by (P := P) (Wh.dig_by 10 false (Nm.val zs)))
      rw [← hT] at R
      have SG2 : Hid (∀ W', Below w.heap.size w W' → Calls Tryd.prog 13 #[.agg #[.int .u8 105, .int .i64 F, .int .i64 0, .int .i64 P], .bool neg, .slice p n cap] W' fun e w' => e = .returned (.tuple #[.string (strOfNums (Wh.sig 105 F 0 P neg zs)), .int .i64 0]) ∧ Below W'.heap.size W' w') := by
        intro W' k
        have q := SG.out W' k
        unfold SigTold at q
        rw [hE] at q
        exact q
      have RD := hid (fun W' (h0 : Wh.fil P (Wh.dig 10 false (Nm.val zs)) ≠ []) => read_any (strOfNums (Wh.fil P (Wh.dig 10 false (Nm.val zs)))) _ W' (Str.of_nums (Wh.fil_by (P := P) (Wh.dig_by 10 false (Nm.val zs)))) (by have := FO.max; omega) FO.digs h0 (by rw [FO.val]; exact (Nm.tsize_le_iff ha.2.2.2.2 4096).1 (by omega)))
      have CM := hid (fun W' r os (k : Below w.heap.size w W') (h : Ans w.heap.size W' r os (dv (Wh.fil P (Wh.dig 10 false (Nm.val zs))))) (hl : os.length ≤ 17592186044416) => cmp_any r p os.length os.length n cap os zs W' (h.arg hl) (ha.below k (Nat.le_refl _)))
      have CM2 : Hid (∀ W' r os b, w.heap.size ≤ b → Below w.heap.size w W' → Ans b W' r os (dv (Wh.fil P (Wh.dig 10 false (Nm.val zs)))) → Calls Tryd.prog 20 #[.slice r (List.length os) (List.length os), .slice p n cap] W' fun e w' => e = .returned (.int .i64 0) ∧ Below W'.heap.size W' w') := by
        intro W' r os b hb k h
        have hz : Nm.Limbs os := h.2.1
        have hv : Nm.val os = Nm.val zs := by rw [h.2.2.2.1, FO.val]
        have hl : os.length ≤ 4096 := by
          rw [← h.2.2.1, Nm.tsize_congr hz ha.2.2.2.2 hv]; omega
        have q := cmp_any r p os.length os.length n cap os zs W' (h.arg (by omega)) (ha.below k (Nat.le_refl _))
        rw [hv, cmp_same] at q
        exact q
      clear SG CM
      have LH := hid (fun W' => lhas_any 105 F 0 P 2 W' q0 q1 (by omega))
      have LI := hid (fun W' => lhas_any 105 F 0 P 4 W' q0 q1 (by omega))
      have tz := Nm.tsize_zero_iff ha.2.2.2.2
      have hti : ¬ (4096 : Int) < (Nm.tsize zs : Int) := by omega
      obtain ⟨sT, sF, x1, x2, ix⟩ := R
      have fne := hid FO.ne
      have fnil := hid FO.nil
      have fhd := FO.head
      have fln : ¬ ((Wh.fil P (Wh.dig 10 false (Nm.val zs))).length : Int) < P := by have := FO.len; omega
      have fmx : ((Wh.fil P (Wh.dig 10 false (Nm.val zs))).length : Int) ≤ 270000 := by have := FO.max; omega
      have sne : ∀ bl, Wh.sgn F bl = (if bl = true then [45] else if Wh.bit F 2 = true then [43] else if Wh.bit F 4 = true then [32] else []) := fun _ => rfl
      clear FO hT hE ha hc ht
      generalize Wh.fil P (Wh.dig 10 false (Nm.val zs)) = FD at *
      generalize strOfNums (Wh.sig 105 F 0 P neg zs) = tS at *
      generalize Nm.tsize zs = tN at *
      generalize Nm.val zs = v at *
      by_cases hv : v = 0
      · have t0 : tN = 0 := tz.2 hv
        subst t0
        have eb : (neg && decide (v ≠ 0)) = false := by rw [decide_eq_false (fun q => q hv), Bool.and_false]
        rw [eb] at sT x1 x2
        clear tz eb hti
        by_cases hp : P = 0
        · subst hp
          cases neg with
          | true =>
            cases h2 : Wh.bit F 2 with
            | true =>
              have es := (sne false).trans (by rw [if_neg Bool.false_ne_true, if_pos h2])
              rw [h2] at LH
              rw [es] at sT x1 x2
              rw [show strOfNums [43] = ⟨#[43]⟩ from rfl] at x1
              simp only [List.length_cons, List.length_nil, Nat.zero_add] at sT x1 x2
              have e0 : FD = [] := fnil.out hv rfl
              subst e0
              rw [show strOfNums [] = ⟨#[]⟩ from rfl] at x2
              simp only [List.length_nil, Nat.add_zero] at sT x2
              clear RD CM2 fhd fln fmx sF ix fne fnil
              go_enter Tryd.func6, Tryd.ntmps6
              go_wp2_with fail
              with_reducible refine (FT.out _).mono ?_
              rintro e w1 ⟨rfl, b1⟩
              have B1 := hid (B0.out.on b1)
              clear b1 FT B0
              obtain ⟨f0, f1, f2, f3⟩ := B1.out.free
              obtain ⟨c0, c1, c2, c3⟩ := B1.out.flat
              have B2 := hid ((B1.out.s0 105).s2 0)
              go_upto_region 5 with fail
              clear f0 f1 f2 f3 c0 c1 c2 c3 B1
              generalize ((w1.setCell ⟨w.heap.size, 0, none⟩ (.int .u8 105)).setCell ⟨w.heap.size, 2, none⟩ (.int .i64 0)) = wS at *
              obtain ⟨c0, c1, c2, c3⟩ := B2.out.flat
              go_wp2_with fail
              with_reducible refine (GD.out _).mono ?_
              rintro e w2 ⟨rfl, b2⟩
              have B3 := hid (B2.out.on b2)
              clear b2 GD B2 c0 c1 c2 c3
              go_wp2_with fail
              with_reducible refine (TR.out _ B3.out.bel).mono ?_
              rintro e w3 ⟨r, rfl, b3⟩
              have B4 := hid (B3.out.on b3)
              clear b3 B3
              obtain ⟨c0, c1, c2, c3⟩ := B4.out.flat
              go_wp2_with fail
              with_reducible refine (SG2.out _ B4.out.bel).mono ?_
              rintro e w4 ⟨rfl, b4⟩
              have B5 := hid (B4.out.on b4)
              clear b4 B4 SG2 c0 c1 c2 c3
              go_wp2_with fail
              with_reducible refine (TR.out _ B5.out.bel).mono ?_
              rintro e w5 ⟨r2, rfl, b5⟩
              have B6 := hid (B5.out.on b5)
              clear b5 B5 TR
              obtain ⟨c0, c1, c2, c3⟩ := B6.out.flat
              go_wp2_with fail
              with_reducible refine (LH.out _).mono ?_
              rintro e w6 ⟨rfl, b6⟩
              have B7 := hid (B6.out.on b6)
              clear b6 B6 c0 c1 c2 c3
              obtain ⟨c0, c1, c2, c3⟩ := B7.out.flat
              go_wp2_with fail
              go_ret
              exact ⟨rfl, B7.out.bel⟩
            | false =>
              rw [h2] at LH
              cases h4 : Wh.bit F 4 with
              | true =>
                have es := (sne false).trans (by rw [if_neg Bool.false_ne_true, h2, if_neg Bool.false_ne_true, if_pos h4])
                rw [h4] at LI
                rw [es] at sT x1 x2
                rw [show strOfNums [32] = ⟨#[32]⟩ from rfl] at x1
                simp only [List.length_cons, List.length_nil, Nat.zero_add] at sT x1 x2
                have e0 : FD = [] := fnil.out hv rfl
                subst e0
                rw [show strOfNums [] = ⟨#[]⟩ from rfl] at x2
                simp only [List.length_nil, Nat.add_zero] at sT x2
                clear RD CM2 fhd fln fmx sF ix fne fnil
                go_enter Tryd.func6, Tryd.ntmps6
                go_wp2_with fail
                with_reducible refine (FT.out _).mono ?_
                rintro e w1 ⟨rfl, b1⟩
                have B1 := hid (B0.out.on b1)
                clear b1 FT B0
                obtain ⟨f0, f1, f2, f3⟩ := B1.out.free
                obtain ⟨c0, c1, c2, c3⟩ := B1.out.flat
                have B2 := hid ((B1.out.s0 105).s2 0)
                go_upto_region 5 with fail
                clear f0 f1 f2 f3 c0 c1 c2 c3 B1
                generalize ((w1.setCell ⟨w.heap.size, 0, none⟩ (.int .u8 105)).setCell ⟨w.heap.size, 2, none⟩ (.int .i64 0)) = wS at *
                obtain ⟨c0, c1, c2, c3⟩ := B2.out.flat
                go_wp2_with fail
                with_reducible refine (GD.out _).mono ?_
                rintro e w2 ⟨rfl, b2⟩
                have B3 := hid (B2.out.on b2)
                clear b2 GD B2 c0 c1 c2 c3
                go_wp2_with fail
                with_reducible refine (TR.out _ B3.out.bel).mono ?_
                rintro e w3 ⟨r, rfl, b3⟩
                have B4 := hid (B3.out.on b3)
                clear b3 B3
                obtain ⟨c0, c1, c2, c3⟩ := B4.out.flat
                go_wp2_with fail
                with_reducible refine (SG2.out _ B4.out.bel).mono ?_
                rintro e w4 ⟨rfl, b4⟩
                have B5 := hid (B4.out.on b4)
                clear b4 B4 SG2 c0 c1 c2 c3
                go_wp2_with fail
                with_reducible refine (TR.out _ B5.out.bel).mono ?_
                rintro e w5 ⟨r2, rfl, b5⟩
                have B6 := hid (B5.out.on b5)
                clear b5 B5 TR
                obtain ⟨c0, c1, c2, c3⟩ := B6.out.flat
                go_wp2_with fail
                with_reducible refine (LH.out _).mono ?_
                rintro e w6 ⟨rfl, b6⟩
                have B7 := hid (B6.out.on b6)
                clear b6 B6 c0 c1 c2 c3
                obtain ⟨c0, c1, c2, c3⟩ := B7.out.flat
                go_wp2_with fail
                with_reducible refine (LI.out _).mono ?_
                rintro e w7 ⟨rfl, b7⟩
                have B8 := hid (B7.out.on b7)
                clear b7 B7 c0 c1 c2 c3
                obtain ⟨c0, c1, c2, c3⟩ := B8.out.flat
                go_wp2_with fail
                go_ret
                exact ⟨rfl, B8.out.bel⟩
              | false =>
                have es := (sne false).trans (by rw [if_neg Bool.false_ne_true, h2, if_neg Bool.false_ne_true, h4, if_neg Bool.false_ne_true])
                rw [h4] at LI
                rw [es] at sT x1 x2
                rw [show strOfNums [] = ⟨#[]⟩ from rfl] at x1
                simp only [List.length_nil, Nat.zero_add] at sT x1 x2
                have e0 : FD = [] := fnil.out hv rfl
                subst e0
                rw [show strOfNums [] = ⟨#[]⟩ from rfl] at x2
                simp only [List.length_nil] at sT x2
                clear RD CM2 fhd fln fmx sF ix fne fnil
                go_enter Tryd.func6, Tryd.ntmps6
                go_wp2_with fail
                with_reducible refine (FT.out _).mono ?_
                rintro e w1 ⟨rfl, b1⟩
                have B1 := hid (B0.out.on b1)
                clear b1 FT B0
                obtain ⟨f0, f1, f2, f3⟩ := B1.out.free
                obtain ⟨c0, c1, c2, c3⟩ := B1.out.flat
                have B2 := hid ((B1.out.s0 105).s2 0)
                go_upto_region 5 with fail
                clear f0 f1 f2 f3 c0 c1 c2 c3 B1
                generalize ((w1.setCell ⟨w.heap.size, 0, none⟩ (.int .u8 105)).setCell ⟨w.heap.size, 2, none⟩ (.int .i64 0)) = wS at *
                obtain ⟨c0, c1, c2, c3⟩ := B2.out.flat
                go_wp2_with fail
                with_reducible refine (GD.out _).mono ?_
                rintro e w2 ⟨rfl, b2⟩
                have B3 := hid (B2.out.on b2)
                clear b2 GD B2 c0 c1 c2 c3
                go_wp2_with fail
                with_reducible refine (TR.out _ B3.out.bel).mono ?_
                rintro e w3 ⟨r, rfl, b3⟩
                have B4 := hid (B3.out.on b3)
                clear b3 B3
                obtain ⟨c0, c1, c2, c3⟩ := B4.out.flat
                go_wp2_with fail
                with_reducible refine (SG2.out _ B4.out.bel).mono ?_
                rintro e w4 ⟨rfl, b4⟩
                have B5 := hid (B4.out.on b4)
                clear b4 B4 SG2 c0 c1 c2 c3
                go_wp2_with fail
                with_reducible refine (TR.out _ B5.out.bel).mono ?_
                rintro e w5 ⟨r2, rfl, b5⟩
                have B6 := hid (B5.out.on b5)
                clear b5 B5 TR
                obtain ⟨c0, c1, c2, c3⟩ := B6.out.flat
                go_wp2_with fail
                with_reducible refine (LH.out _).mono ?_
                rintro e w6 ⟨rfl, b6⟩
                have B7 := hid (B6.out.on b6)
                clear b6 B6 c0 c1 c2 c3
                obtain ⟨c0, c1, c2, c3⟩ := B7.out.flat
                go_wp2_with fail
                with_reducible refine (LI.out _).mono ?_
                rintro e w7 ⟨rfl, b7⟩
                have B8 := hid (B7.out.on b7)
                clear b7 B7 c0 c1 c2 c3
                obtain ⟨c0, c1, c2, c3⟩ := B8.out.flat
                go_wp2_with fail
                go_ret
                exact ⟨rfl, B8.out.bel⟩
          | false =>
            cases h2 : Wh.bit F 2 with
            | true =>
              have es := (sne false).trans (by rw [if_neg Bool.false_ne_true, if_pos h2])
              rw [h2] at LH
              rw [es] at sT x1 x2
              rw [show strOfNums [43] = ⟨#[43]⟩ from rfl] at x1
              simp only [List.length_cons, List.length_nil, Nat.zero_add] at sT x1 x2
              have e0 : FD = [] := fnil.out hv rfl
              subst e0
              rw [show strOfNums [] = ⟨#[]⟩ from rfl] at x2
              simp only [List.length_nil, Nat.add_zero] at sT x2
              clear RD CM2 fhd fln fmx sF ix fne fnil
              go_enter Tryd.func6, Tryd.ntmps6
              go_wp2_with fail
              with_reducible refine (FT.out _).mono ?_
              rintro e w1 ⟨rfl, b1⟩
              have B1 := hid (B0.out.on b1)
              clear b1 FT B0
              obtain ⟨f0, f1, f2, f3⟩ := B1.out.free
              obtain ⟨c0, c1, c2, c3⟩ := B1.out.flat
              have B2 := hid ((B1.out.s0 105).s2 0)
              go_upto_region 5 with fail
              clear f0 f1 f2 f3 c0 c1 c2 c3 B1
              generalize ((w1.setCell ⟨w.heap.size, 0, none⟩ (.int .u8 105)).setCell ⟨w.heap.size, 2, none⟩ (.int .i64 0)) = wS at *
              obtain ⟨c0, c1, c2, c3⟩ := B2.out.flat
              go_wp2_with fail
              with_reducible refine (GD.out _).mono ?_
              rintro e w2 ⟨rfl, b2⟩
              have B3 := hid (B2.out.on b2)
              clear b2 GD B2 c0 c1 c2 c3
              go_wp2_with fail
              with_reducible refine (TR.out _ B3.out.bel).mono ?_
              rintro e w3 ⟨r, rfl, b3⟩
              have B4 := hid (B3.out.on b3)
              clear b3 B3
              obtain ⟨c0, c1, c2, c3⟩ := B4.out.flat
              go_wp2_with fail
              with_reducible refine (SG2.out _ B4.out.bel).mono ?_
              rintro e w4 ⟨rfl, b4⟩
              have B5 := hid (B4.out.on b4)
              clear b4 B4 SG2 c0 c1 c2 c3
              go_wp2_with fail
              with_reducible refine (TR.out _ B5.out.bel).mono ?_
              rintro e w5 ⟨r2, rfl, b5⟩
              have B6 := hid (B5.out.on b5)
              clear b5 B5 TR
              obtain ⟨c0, c1, c2, c3⟩ := B6.out.flat
              go_wp2_with fail
              with_reducible refine (LH.out _).mono ?_
              rintro e w6 ⟨rfl, b6⟩
              have B7 := hid (B6.out.on b6)
              clear b6 B6 c0 c1 c2 c3
              obtain ⟨c0, c1, c2, c3⟩ := B7.out.flat
              go_wp2_with fail
              go_ret
              exact ⟨rfl, B7.out.bel⟩
            | false =>
              rw [h2] at LH
              cases h4 : Wh.bit F 4 with
              | true =>
                have es := (sne false).trans (by rw [if_neg Bool.false_ne_true, h2, if_neg Bool.false_ne_true, if_pos h4])
                rw [h4] at LI
                rw [es] at sT x1 x2
                rw [show strOfNums [32] = ⟨#[32]⟩ from rfl] at x1
                simp only [List.length_cons, List.length_nil, Nat.zero_add] at sT x1 x2
                have e0 : FD = [] := fnil.out hv rfl
                subst e0
                rw [show strOfNums [] = ⟨#[]⟩ from rfl] at x2
                simp only [List.length_nil, Nat.add_zero] at sT x2
                clear RD CM2 fhd fln fmx sF ix fne fnil
                go_enter Tryd.func6, Tryd.ntmps6
                go_wp2_with fail
                with_reducible refine (FT.out _).mono ?_
                rintro e w1 ⟨rfl, b1⟩
                have B1 := hid (B0.out.on b1)
                clear b1 FT B0
                obtain ⟨f0, f1, f2, f3⟩ := B1.out.free
                obtain ⟨c0, c1, c2, c3⟩ := B1.out.flat
                have B2 := hid ((B1.out.s0 105).s2 0)
                go_upto_region 5 with fail
                clear f0 f1 f2 f3 c0 c1 c2 c3 B1
                generalize ((w1.setCell ⟨w.heap.size, 0, none⟩ (.int .u8 105)).setCell ⟨w.heap.size, 2, none⟩ (.int .i64 0)) = wS at *
                obtain ⟨c0, c1, c2, c3⟩ := B2.out.flat
                go_wp2_with fail
                with_reducible refine (GD.out _).mono ?_
                rintro e w2 ⟨rfl, b2⟩
                have B3 := hid (B2.out.on b2)
                clear b2 GD B2 c0 c1 c2 c3
                go_wp2_with fail
                with_reducible refine (TR.out _ B3.out.bel).mono ?_
                rintro e w3 ⟨r, rfl, b3⟩
                have B4 := hid (B3.out.on b3)
                clear b3 B3
                obtain ⟨c0, c1, c2, c3⟩ := B4.out.flat
                go_wp2_with fail
                with_reducible refine (SG2.out _ B4.out.bel).mono ?_
                rintro e w4 ⟨rfl, b4⟩
                have B5 := hid (B4.out.on b4)
                clear b4 B4 SG2 c0 c1 c2 c3
                go_wp2_with fail
                with_reducible refine (TR.out _ B5.out.bel).mono ?_
                rintro e w5 ⟨r2, rfl, b5⟩
                have B6 := hid (B5.out.on b5)
                clear b5 B5 TR
                obtain ⟨c0, c1, c2, c3⟩ := B6.out.flat
                go_wp2_with fail
                with_reducible refine (LH.out _).mono ?_
                rintro e w6 ⟨rfl, b6⟩
                have B7 := hid (B6.out.on b6)
                clear b6 B6 c0 c1 c2 c3
                obtain ⟨c0, c1, c2, c3⟩ := B7.out.flat
                go_wp2_with fail
                with_reducible refine (LI.out _).mono ?_
                rintro e w7 ⟨rfl, b7⟩
                have B8 := hid (B7.out.on b7)
                clear b7 B7 c0 c1 c2 c3
                obtain ⟨c0, c1, c2, c3⟩ := B8.out.flat
                go_wp2_with fail
                go_ret
                exact ⟨rfl, B8.out.bel⟩
              | false =>
                have es := (sne false).trans (by rw [if_neg Bool.false_ne_true, h2, if_neg Bool.false_ne_true, h4, if_neg Bool.false_ne_true])
                rw [h4] at LI
                rw [es] at sT x1 x2
                rw [show strOfNums [] = ⟨#[]⟩ from rfl] at x1
                simp only [List.length_nil, Nat.zero_add] at sT x1 x2
                have e0 : FD = [] := fnil.out hv rfl
                subst e0
                rw [show strOfNums [] = ⟨#[]⟩ from rfl] at x2
                simp only [List.length_nil] at sT x2
                clear RD CM2 fhd fln fmx sF ix fne fnil
                go_enter Tryd.func6, Tryd.ntmps6
                go_wp2_with fail
                with_reducible refine (FT.out _).mono ?_
                rintro e w1 ⟨rfl, b1⟩
                have B1 := hid (B0.out.on b1)
                clear b1 FT B0
                obtain ⟨f0, f1, f2, f3⟩ := B1.out.free
                obtain ⟨c0, c1, c2, c3⟩ := B1.out.flat
                have B2 := hid ((B1.out.s0 105).s2 0)
                go_upto_region 5 with fail
                clear f0 f1 f2 f3 c0 c1 c2 c3 B1
                generalize ((w1.setCell ⟨w.heap.size, 0, none⟩ (.int .u8 105)).setCell ⟨w.heap.size, 2, none⟩ (.int .i64 0)) = wS at *
                obtain ⟨c0, c1, c2, c3⟩ := B2.out.flat
                go_wp2_with fail
                with_reducible refine (GD.out _).mono ?_
                rintro e w2 ⟨rfl, b2⟩
                have B3 := hid (B2.out.on b2)
                clear b2 GD B2 c0 c1 c2 c3
                go_wp2_with fail
                with_reducible refine (TR.out _ B3.out.bel).mono ?_
                rintro e w3 ⟨r, rfl, b3⟩
                have B4 := hid (B3.out.on b3)
                clear b3 B3
                obtain ⟨c0, c1, c2, c3⟩ := B4.out.flat
                go_wp2_with fail
                with_reducible refine (SG2.out _ B4.out.bel).mono ?_
                rintro e w4 ⟨rfl, b4⟩
                have B5 := hid (B4.out.on b4)
                clear b4 B4 SG2 c0 c1 c2 c3
                go_wp2_with fail
                with_reducible refine (TR.out _ B5.out.bel).mono ?_
                rintro e w5 ⟨r2, rfl, b5⟩
                have B6 := hid (B5.out.on b5)
                clear b5 B5 TR
                obtain ⟨c0, c1, c2, c3⟩ := B6.out.flat
                go_wp2_with fail
                with_reducible refine (LH.out _).mono ?_
                rintro e w6 ⟨rfl, b6⟩
                have B7 := hid (B6.out.on b6)
                clear b6 B6 c0 c1 c2 c3
                obtain ⟨c0, c1, c2, c3⟩ := B7.out.flat
                go_wp2_with fail
                with_reducible refine (LI.out _).mono ?_
                rintro e w7 ⟨rfl, b7⟩
                have B8 := hid (B7.out.on b7)
                clear b7 B7 c0 c1 c2 c3
                obtain ⟨c0, c1, c2, c3⟩ := B8.out.flat
                go_wp2_with fail
                go_ret
                exact ⟨rfl, B8.out.bel⟩
        · have hpe : (P == 0) = false := by simpa using hp
          cases neg with
          | true =>
            cases h2 : Wh.bit F 2 with
            | true =>
              have es := (sne false).trans (by rw [if_neg Bool.false_ne_true, if_pos h2])
              rw [h2] at LH
              rw [es] at sT x1 x2
              rw [show strOfNums [43] = ⟨#[43]⟩ from rfl] at x1
              simp only [List.length_cons, List.length_nil, Nat.zero_add] at sT x1 x2
              have f0 : FD ≠ [] := fne.out (by omega)
              have fl : 0 < FD.length := List.length_pos_iff.2 f0
              have RD2 := hid (fun W' => RD.out W' f0)
              clear RD fne fnil f0
              generalize strOfNums FD = fS at *
              generalize FD.getD 0 0 = x0 at *
              generalize FD.length = b at *
              have fli : (0 : Int) < (b : Int) := by omega
              go_enter Tryd.func6, Tryd.ntmps6
              go_wp2_with fail
              with_reducible refine (FT.out _).mono ?_
              rintro e w1 ⟨rfl, b1⟩
              have B1 := hid (B0.out.on b1)
              clear b1 FT B0
              obtain ⟨f0, f1, f2, f3⟩ := B1.out.free
              obtain ⟨c0, c1, c2, c3⟩ := B1.out.flat
              have B2 := hid ((B1.out.s0 105).s2 0)
              go_upto_region 5 with fail
              clear f0 f1 f2 f3 c0 c1 c2 c3 B1
              generalize ((w1.setCell ⟨w.heap.size, 0, none⟩ (.int .u8 105)).setCell ⟨w.heap.size, 2, none⟩ (.int .i64 0)) = wS at *
              obtain ⟨c0, c1, c2, c3⟩ := B2.out.flat
              go_wp2_with fail
              with_reducible refine (GD.out _).mono ?_
              rintro e w2 ⟨rfl, b2⟩
              have B3 := hid (B2.out.on b2)
              clear b2 GD B2 c0 c1 c2 c3
              go_wp2_with fail
              with_reducible refine (TR.out _ B3.out.bel).mono ?_
              rintro e w3 ⟨r, rfl, b3⟩
              have B4 := hid (B3.out.on b3)
              clear b3 B3
              obtain ⟨c0, c1, c2, c3⟩ := B4.out.flat
              go_wp2_with fail
              with_reducible refine (SG2.out _ B4.out.bel).mono ?_
              rintro e w4 ⟨rfl, b4⟩
              have B5 := hid (B4.out.on b4)
              clear b4 B4 SG2 c0 c1 c2 c3
              go_wp2_with fail
              with_reducible refine (TR.out _ B5.out.bel).mono ?_
              rintro e w5 ⟨r2, rfl, b5⟩
              have B6 := hid (B5.out.on b5)
              clear b5 B5 TR
              obtain ⟨c0, c1, c2, c3⟩ := B6.out.flat
              go_wp2_with fail
              with_reducible refine (LH.out _).mono ?_
              rintro e w6 ⟨rfl, b6⟩
              have B7 := hid (B6.out.on b6)
              clear b6 B6 c0 c1 c2 c3
              obtain ⟨c0, c1, c2, c3⟩ := B7.out.flat
              go_wp2_with fail
              with_reducible refine (RD2.out _).mono ?_
              rintro e wr ⟨ra, os, rfl, A1, br⟩
              have BR := hid (B7.out.on br)
              have C1 := hid (CM2.out _ ra os _ B7.out.bel.size BR.out.bel A1)
              clear A1 br B7 RD2 CM2 c0 c1 c2 c3
              obtain ⟨c0, c1, c2, c3⟩ := BR.out.flat
              go_wp2_with fail
              with_reducible refine C1.out.mono ?_
              rintro e wc ⟨rfl, bc⟩
              have BC := hid (BR.out.on bc)
              clear bc BR C1 c0 c1 c2 c3
              obtain ⟨c0, c1, c2, c3⟩ := BC.out.flat
              rcases fhd with h | ⟨h, k⟩ | ⟨h, k, k2, k3⟩
              · have h2 : (x0 == 48) = false := by simpa using h
                have h3 : (x0 != 48) = true := by simpa using h
                clear h
                go_wp2_with fail
                go_ret
                exact ⟨rfl, BC.out.bel⟩
              · subst h
                subst k
                go_wp2_with fail
                go_ret
                exact ⟨rfl, BC.out.bel⟩
              · subst h
                subst k3
                have k4 : ((1 : Int) == P) = false := by simpa using k
                clear k k2
                go_wp2_with fail
                go_ret
                exact ⟨rfl, BC.out.bel⟩
            | false =>
              rw [h2] at LH
              cases h4 : Wh.bit F 4 with
              | true =>
                have es := (sne false).trans (by rw [if_neg Bool.false_ne_true, h2, if_neg Bool.false_ne_true, if_pos h4])
                rw [h4] at LI
                rw [es] at sT x1 x2
                rw [show strOfNums [32] = ⟨#[32]⟩ from rfl] at x1
                simp only [List.length_cons, List.length_nil, Nat.zero_add] at sT x1 x2
                have f0 : FD ≠ [] := fne.out (by omega)
                have fl : 0 < FD.length := List.length_pos_iff.2 f0
                have RD2 := hid (fun W' => RD.out W' f0)
                clear RD fne fnil f0
                generalize strOfNums FD = fS at *
                generalize FD.getD 0 0 = x0 at *
                generalize FD.length = b at *
                have fli : (0 : Int) < (b : Int) := by omega
                go_enter Tryd.func6, Tryd.ntmps6
                go_wp2_with fail
                with_reducible refine (FT.out _).mono ?_
                rintro e w1 ⟨rfl, b1⟩
                have B1 := hid (B0.out.on b1)
                clear b1 FT B0
                obtain ⟨f0, f1, f2, f3⟩ := B1.out.free
                obtain ⟨c0, c1, c2, c3⟩ := B1.out.flat
                have B2 := hid ((B1.out.s0 105).s2 0)
                go_upto_region 5 with fail
                clear f0 f1 f2 f3 c0 c1 c2 c3 B1
                generalize ((w1.setCell ⟨w.heap.size, 0, none⟩ (.int .u8 105)).setCell ⟨w.heap.size, 2, none⟩ (.int .i64 0)) = wS at *
                obtain ⟨c0, c1, c2, c3⟩ := B2.out.flat
                go_wp2_with fail
                with_reducible refine (GD.out _).mono ?_
                rintro e w2 ⟨rfl, b2⟩
                have B3 := hid (B2.out.on b2)
                clear b2 GD B2 c0 c1 c2 c3
                go_wp2_with fail
                with_reducible refine (TR.out _ B3.out.bel).mono ?_
                rintro e w3 ⟨r, rfl, b3⟩
                have B4 := hid (B3.out.on b3)
                clear b3 B3
                obtain ⟨c0, c1, c2, c3⟩ := B4.out.flat
                go_wp2_with fail
                with_reducible refine (SG2.out _ B4.out.bel).mono ?_
                rintro e w4 ⟨rfl, b4⟩
                have B5 := hid (B4.out.on b4)
                clear b4 B4 SG2 c0 c1 c2 c3
                go_wp2_with fail
                with_reducible refine (TR.out _ B5.out.bel).mono ?_
                rintro e w5 ⟨r2, rfl, b5⟩
                have B6 := hid (B5.out.on b5)
                clear b5 B5 TR
                obtain ⟨c0, c1, c2, c3⟩ := B6.out.flat
                go_wp2_with fail
                with_reducible refine (LH.out _).mono ?_
                rintro e w6 ⟨rfl, b6⟩
                have B7 := hid (B6.out.on b6)
                clear b6 B6 c0 c1 c2 c3
                obtain ⟨c0, c1, c2, c3⟩ := B7.out.flat
                go_wp2_with fail
                with_reducible refine (LI.out _).mono ?_
                rintro e w7 ⟨rfl, b7⟩
                have B8 := hid (B7.out.on b7)
                clear b7 B7 c0 c1 c2 c3
                obtain ⟨c0, c1, c2, c3⟩ := B8.out.flat
                go_wp2_with fail
                with_reducible refine (RD2.out _).mono ?_
                rintro e wr ⟨ra, os, rfl, A1, br⟩
                have BR := hid (B8.out.on br)
                have C1 := hid (CM2.out _ ra os _ B8.out.bel.size BR.out.bel A1)
                clear A1 br B8 RD2 CM2 c0 c1 c2 c3
                obtain ⟨c0, c1, c2, c3⟩ := BR.out.flat
                go_wp2_with fail
                with_reducible refine C1.out.mono ?_
                rintro e wc ⟨rfl, bc⟩
                have BC := hid (BR.out.on bc)
                clear bc BR C1 c0 c1 c2 c3
                obtain ⟨c0, c1, c2, c3⟩ := BC.out.flat
                rcases fhd with h | ⟨h, k⟩ | ⟨h, k, k2, k3⟩
                · have h2 : (x0 == 48) = false := by simpa using h
                  have h3 : (x0 != 48) = true := by simpa using h
                  clear h
                  go_wp2_with fail
                  go_ret
                  exact ⟨rfl, BC.out.bel⟩
                · subst h
                  subst k
                  go_wp2_with fail
                  go_ret
                  exact ⟨rfl, BC.out.bel⟩
                · subst h
                  subst k3
                  have k4 : ((1 : Int) == P) = false := by simpa using k
                  clear k k2
                  go_wp2_with fail
                  go_ret
                  exact ⟨rfl, BC.out.bel⟩
              | false =>
                have es := (sne false).trans (by rw [if_neg Bool.false_ne_true, h2, if_neg Bool.false_ne_true, h4, if_neg Bool.false_ne_true])
                rw [h4] at LI
                rw [es] at sT x1 x2
                rw [show strOfNums [] = ⟨#[]⟩ from rfl] at x1
                simp only [List.length_nil, Nat.zero_add] at sT x1 x2
                have f0 : FD ≠ [] := fne.out (by omega)
                have fl : 0 < FD.length := List.length_pos_iff.2 f0
                have RD2 := hid (fun W' => RD.out W' f0)
                clear RD fne fnil f0
                generalize strOfNums FD = fS at *
                generalize FD.getD 0 0 = x0 at *
                generalize FD.length = b at *
                have fli : (0 : Int) < (b : Int) := by omega
                go_enter Tryd.func6, Tryd.ntmps6
                go_wp2_with fail
                with_reducible refine (FT.out _).mono ?_
                rintro e w1 ⟨rfl, b1⟩
                have B1 := hid (B0.out.on b1)
                clear b1 FT B0
                obtain ⟨f0, f1, f2, f3⟩ := B1.out.free
                obtain ⟨c0, c1, c2, c3⟩ := B1.out.flat
                have B2 := hid ((B1.out.s0 105).s2 0)
                go_upto_region 5 with fail
                clear f0 f1 f2 f3 c0 c1 c2 c3 B1
                generalize ((w1.setCell ⟨w.heap.size, 0, none⟩ (.int .u8 105)).setCell ⟨w.heap.size, 2, none⟩ (.int .i64 0)) = wS at *
                obtain ⟨c0, c1, c2, c3⟩ := B2.out.flat
                go_wp2_with fail
                with_reducible refine (GD.out _).mono ?_
                rintro e w2 ⟨rfl, b2⟩
                have B3 := hid (B2.out.on b2)
                clear b2 GD B2 c0 c1 c2 c3
                go_wp2_with fail
                with_reducible refine (TR.out _ B3.out.bel).mono ?_
                rintro e w3 ⟨r, rfl, b3⟩
                have B4 := hid (B3.out.on b3)
                clear b3 B3
                obtain ⟨c0, c1, c2, c3⟩ := B4.out.flat
                go_wp2_with fail
                with_reducible refine (SG2.out _ B4.out.bel).mono ?_
                rintro e w4 ⟨rfl, b4⟩
                have B5 := hid (B4.out.on b4)
                clear b4 B4 SG2 c0 c1 c2 c3
                go_wp2_with fail
                with_reducible refine (TR.out _ B5.out.bel).mono ?_
                rintro e w5 ⟨r2, rfl, b5⟩
                have B6 := hid (B5.out.on b5)
                clear b5 B5 TR
                obtain ⟨c0, c1, c2, c3⟩ := B6.out.flat
                go_wp2_with fail
                with_reducible refine (LH.out _).mono ?_
                rintro e w6 ⟨rfl, b6⟩
                have B7 := hid (B6.out.on b6)
                clear b6 B6 c0 c1 c2 c3
                obtain ⟨c0, c1, c2, c3⟩ := B7.out.flat
                go_wp2_with fail
                with_reducible refine (LI.out _).mono ?_
                rintro e w7 ⟨rfl, b7⟩
                have B8 := hid (B7.out.on b7)
                clear b7 B7 c0 c1 c2 c3
                obtain ⟨c0, c1, c2, c3⟩ := B8.out.flat
                go_wp2_with fail
                with_reducible refine (RD2.out _).mono ?_
                rintro e wr ⟨ra, os, rfl, A1, br⟩
                have BR := hid (B8.out.on br)
                have C1 := hid (CM2.out _ ra os _ B8.out.bel.size BR.out.bel A1)
                clear A1 br B8 RD2 CM2 c0 c1 c2 c3
                obtain ⟨c0, c1, c2, c3⟩ := BR.out.flat
                go_wp2_with fail
                with_reducible refine C1.out.mono ?_
                rintro e wc ⟨rfl, bc⟩
                have BC := hid (BR.out.on bc)
                clear bc BR C1 c0 c1 c2 c3
                obtain ⟨c0, c1, c2, c3⟩ := BC.out.flat
                rcases fhd with h | ⟨h, k⟩ | ⟨h, k, k2, k3⟩
                · have h2 : (x0 == 48) = false := by simpa using h
                  have h3 : (x0 != 48) = true := by simpa using h
                  clear h
                  go_wp2_with fail
                  go_ret
                  exact ⟨rfl, BC.out.bel⟩
                · subst h
                  subst k
                  go_wp2_with fail
                  go_ret
                  exact ⟨rfl, BC.out.bel⟩
                · subst h
                  subst k3
                  have k4 : ((1 : Int) == P) = false := by simpa using k
                  clear k k2
                  go_wp2_with fail
                  go_ret
                  exact ⟨rfl, BC.out.bel⟩
          | false =>
            cases h2 : Wh.bit F 2 with
            | true =>
              have es := (sne false).trans (by rw [if_neg Bool.false_ne_true, if_pos h2])
              rw [h2] at LH
              rw [es] at sT x1 x2
              rw [show strOfNums [43] = ⟨#[43]⟩ from rfl] at x1
              simp only [List.length_cons, List.length_nil, Nat.zero_add] at sT x1 x2
              have f0 : FD ≠ [] := fne.out (by omega)
              have fl : 0 < FD.length := List.length_pos_iff.2 f0
              have RD2 := hid (fun W' => RD.out W' f0)
              clear RD fne fnil f0
              generalize strOfNums FD = fS at *
              generalize FD.getD 0 0 = x0 at *
              generalize FD.length = b at *
              have fli : (0 : Int) < (b : Int) := by omega
              go_enter Tryd.func6, Tryd.ntmps6
              go_wp2_with fail
              with_reducible refine (FT.out _).mono ?_
              rintro e w1 ⟨rfl, b1⟩
              have B1 := hid (B0.out.on b1)
              clear b1 FT B0
              obtain ⟨f0, f1, f2, f3⟩ := B1.out.free
              obtain ⟨c0, c1, c2, c3⟩ := B1.out.flat
              have B2 := hid ((B1.out.s0 105).s2 0)
              go_upto_region 5 with fail
              clear f0 f1 f2 f3 c0 c1 c2 c3 B1
              generalize ((w1.setCell ⟨w.heap.size, 0, none⟩ (.int .u8 105)).setCell ⟨w.heap.size, 2, none⟩ (.int .i64 0)) = wS at *
              obtain ⟨c0, c1, c2, c3⟩ := B2.out.flat
              go_wp2_with fail
              with_reducible refine (GD.out _).mono ?_
              rintro e w2 ⟨rfl, b2⟩
              have B3 := hid (B2.out.on b2)
              clear b2 GD B2 c0 c1 c2 c3
              go_wp2_with fail
              with_reducible refine (TR.out _ B3.out.bel).mono ?_
              rintro e w3 ⟨r, rfl, b3⟩
              have B4 := hid (B3.out.on b3)
              clear b3 B3
              obtain ⟨c0, c1, c2, c3⟩ := B4.out.flat
              go_wp2_with fail
              with_reducible refine (SG2.out _ B4.out.bel).mono ?_
              rintro e w4 ⟨rfl, b4⟩
              have B5 := hid (B4.out.on b4)
              clear b4 B4 SG2 c0 c1 c2 c3
              go_wp2_with fail
              with_reducible refine (TR.out _ B5.out.bel).mono ?_
              rintro e w5 ⟨r2, rfl, b5⟩
              have B6 := hid (B5.out.on b5)
              clear b5 B5 TR
              obtain ⟨c0, c1, c2, c3⟩ := B6.out.flat
              go_wp2_with fail
              with_reducible refine (LH.out _).mono ?_
              rintro e w6 ⟨rfl, b6⟩
              have B7 := hid (B6.out.on b6)
              clear b6 B6 c0 c1 c2 c3
              obtain ⟨c0, c1, c2, c3⟩ := B7.out.flat
              go_wp2_with fail
              with_reducible refine (RD2.out _).mono ?_
              rintro e wr ⟨ra, os, rfl, A1, br⟩
              have BR := hid (B7.out.on br)
              have C1 := hid (CM2.out _ ra os _ B7.out.bel.size BR.out.bel A1)
              clear A1 br B7 RD2 CM2 c0 c1 c2 c3
              obtain ⟨c0, c1, c2, c3⟩ := BR.out.flat
              go_wp2_with fail
              with_reducible refine C1.out.mono ?_
              rintro e wc ⟨rfl, bc⟩
              have BC := hid (BR.out.on bc)
              clear bc BR C1 c0 c1 c2 c3
              obtain ⟨c0, c1, c2, c3⟩ := BC.out.flat
              rcases fhd with h | ⟨h, k⟩ | ⟨h, k, k2, k3⟩
              · have h2 : (x0 == 48) = false := by simpa using h
                have h3 : (x0 != 48) = true := by simpa using h
                clear h
                go_wp2_with fail
                go_ret
                exact ⟨rfl, BC.out.bel⟩
              · subst h
                subst k
                go_wp2_with fail
                go_ret
                exact ⟨rfl, BC.out.bel⟩
              · subst h
                subst k3
                have k4 : ((1 : Int) == P) = false := by simpa using k
                clear k k2
                go_wp2_with fail
                go_ret
                exact ⟨rfl, BC.out.bel⟩
            | false =>
              rw [h2] at LH
              cases h4 : Wh.bit F 4 with
              | true =>
                have es := (sne false).trans (by rw [if_neg Bool.false_ne_true, h2, if_neg Bool.false_ne_true, if_pos h4])
                rw [h4] at LI
                rw [es] at sT x1 x2
                rw [show strOfNums [32] = ⟨#[32]⟩ from rfl] at x1
                simp only [List.length_cons, List.length_nil, Nat.zero_add] at sT x1 x2
                have f0 : FD ≠ [] := fne.out (by omega)
                have fl : 0 < FD.length := List.length_pos_iff.2 f0
                have RD2 := hid (fun W' => RD.out W' f0)
                clear RD fne fnil f0
                generalize strOfNums FD = fS at *
                generalize FD.getD 0 0 = x0 at *
                generalize FD.length = b at *
                have fli : (0 : Int) < (b : Int) := by omega
                go_enter Tryd.func6, Tryd.ntmps6
                go_wp2_with fail
                with_reducible refine (FT.out _).mono ?_
                rintro e w1 ⟨rfl, b1⟩
                have B1 := hid (B0.out.on b1)
                clear b1 FT B0
                obtain ⟨f0, f1, f2, f3⟩ := B1.out.free
                obtain ⟨c0, c1, c2, c3⟩ := B1.out.flat
                have B2 := hid ((B1.out.s0 105).s2 0)
                go_upto_region 5 with fail
                clear f0 f1 f2 f3 c0 c1 c2 c3 B1
                generalize ((w1.setCell ⟨w.heap.size, 0, none⟩ (.int .u8 105)).setCell ⟨w.heap.size, 2, none⟩ (.int .i64 0)) = wS at *
                obtain ⟨c0, c1, c2, c3⟩ := B2.out.flat
                go_wp2_with fail
                with_reducible refine (GD.out _).mono ?_
                rintro e w2 ⟨rfl, b2⟩
                have B3 := hid (B2.out.on b2)
                clear b2 GD B2 c0 c1 c2 c3
                go_wp2_with fail
                with_reducible refine (TR.out _ B3.out.bel).mono ?_
                rintro e w3 ⟨r, rfl, b3⟩
                have B4 := hid (B3.out.on b3)
                clear b3 B3
                obtain ⟨c0, c1, c2, c3⟩ := B4.out.flat
                go_wp2_with fail
                with_reducible refine (SG2.out _ B4.out.bel).mono ?_
                rintro e w4 ⟨rfl, b4⟩
                have B5 := hid (B4.out.on b4)
                clear b4 B4 SG2 c0 c1 c2 c3
                go_wp2_with fail
                with_reducible refine (TR.out _ B5.out.bel).mono ?_
                rintro e w5 ⟨r2, rfl, b5⟩
                have B6 := hid (B5.out.on b5)
                clear b5 B5 TR
                obtain ⟨c0, c1, c2, c3⟩ := B6.out.flat
                go_wp2_with fail
                with_reducible refine (LH.out _).mono ?_
                rintro e w6 ⟨rfl, b6⟩
                have B7 := hid (B6.out.on b6)
                clear b6 B6 c0 c1 c2 c3
                obtain ⟨c0, c1, c2, c3⟩ := B7.out.flat
                go_wp2_with fail
                with_reducible refine (LI.out _).mono ?_
                rintro e w7 ⟨rfl, b7⟩
                have B8 := hid (B7.out.on b7)
                clear b7 B7 c0 c1 c2 c3
                obtain ⟨c0, c1, c2, c3⟩ := B8.out.flat
                go_wp2_with fail
                with_reducible refine (RD2.out _).mono ?_
                rintro e wr ⟨ra, os, rfl, A1, br⟩
                have BR := hid (B8.out.on br)
                have C1 := hid (CM2.out _ ra os _ B8.out.bel.size BR.out.bel A1)
                clear A1 br B8 RD2 CM2 c0 c1 c2 c3
                obtain ⟨c0, c1, c2, c3⟩ := BR.out.flat
                go_wp2_with fail
                with_reducible refine C1.out.mono ?_
                rintro e wc ⟨rfl, bc⟩
                have BC := hid (BR.out.on bc)
                clear bc BR C1 c0 c1 c2 c3
                obtain ⟨c0, c1, c2, c3⟩ := BC.out.flat
                rcases fhd with h | ⟨h, k⟩ | ⟨h, k, k2, k3⟩
                · have h2 : (x0 == 48) = false := by simpa using h
                  have h3 : (x0 != 48) = true := by simpa using h
                  clear h
                  go_wp2_with fail
                  go_ret
                  exact ⟨rfl, BC.out.bel⟩
                · subst h
                  subst k
                  go_wp2_with fail
                  go_ret
                  exact ⟨rfl, BC.out.bel⟩
                · subst h
                  subst k3
                  have k4 : ((1 : Int) == P) = false := by simpa using k
                  clear k k2
                  go_wp2_with fail
                  go_ret
                  exact ⟨rfl, BC.out.bel⟩
              | false =>
                have es := (sne false).trans (by rw [if_neg Bool.false_ne_true, h2, if_neg Bool.false_ne_true, h4, if_neg Bool.false_ne_true])
                rw [h4] at LI
                rw [es] at sT x1 x2
                rw [show strOfNums [] = ⟨#[]⟩ from rfl] at x1
                simp only [List.length_nil, Nat.zero_add] at sT x1 x2
                have f0 : FD ≠ [] := fne.out (by omega)
                have fl : 0 < FD.length := List.length_pos_iff.2 f0
                have RD2 := hid (fun W' => RD.out W' f0)
                clear RD fne fnil f0
                generalize strOfNums FD = fS at *
                generalize FD.getD 0 0 = x0 at *
                generalize FD.length = b at *
                have fli : (0 : Int) < (b : Int) := by omega
                go_enter Tryd.func6, Tryd.ntmps6
                go_wp2_with fail
                with_reducible refine (FT.out _).mono ?_
                rintro e w1 ⟨rfl, b1⟩
                have B1 := hid (B0.out.on b1)
                clear b1 FT B0
                obtain ⟨f0, f1, f2, f3⟩ := B1.out.free
                obtain ⟨c0, c1, c2, c3⟩ := B1.out.flat
                have B2 := hid ((B1.out.s0 105).s2 0)
                go_upto_region 5 with fail
                clear f0 f1 f2 f3 c0 c1 c2 c3 B1
                generalize ((w1.setCell ⟨w.heap.size, 0, none⟩ (.int .u8 105)).setCell ⟨w.heap.size, 2, none⟩ (.int .i64 0)) = wS at *
                obtain ⟨c0, c1, c2, c3⟩ := B2.out.flat
                go_wp2_with fail
                with_reducible refine (GD.out _).mono ?_
                rintro e w2 ⟨rfl, b2⟩
                have B3 := hid (B2.out.on b2)
                clear b2 GD B2 c0 c1 c2 c3
                go_wp2_with fail
                with_reducible refine (TR.out _ B3.out.bel).mono ?_
                rintro e w3 ⟨r, rfl, b3⟩
                have B4 := hid (B3.out.on b3)
                clear b3 B3
                obtain ⟨c0, c1, c2, c3⟩ := B4.out.flat
                go_wp2_with fail
                with_reducible refine (SG2.out _ B4.out.bel).mono ?_
                rintro e w4 ⟨rfl, b4⟩
                have B5 := hid (B4.out.on b4)
                clear b4 B4 SG2 c0 c1 c2 c3
                go_wp2_with fail
                with_reducible refine (TR.out _ B5.out.bel).mono ?_
                rintro e w5 ⟨r2, rfl, b5⟩
                have B6 := hid (B5.out.on b5)
                clear b5 B5 TR
                obtain ⟨c0, c1, c2, c3⟩ := B6.out.flat
                go_wp2_with fail
                with_reducible refine (LH.out _).mono ?_
                rintro e w6 ⟨rfl, b6⟩
                have B7 := hid (B6.out.on b6)
                clear b6 B6 c0 c1 c2 c3
                obtain ⟨c0, c1, c2, c3⟩ := B7.out.flat
                go_wp2_with fail
                with_reducible refine (LI.out _).mono ?_
                rintro e w7 ⟨rfl, b7⟩
                have B8 := hid (B7.out.on b7)
                clear b7 B7 c0 c1 c2 c3
                obtain ⟨c0, c1, c2, c3⟩ := B8.out.flat
                go_wp2_with fail
                with_reducible refine (RD2.out _).mono ?_
                rintro e wr ⟨ra, os, rfl, A1, br⟩
                have BR := hid (B8.out.on br)
                have C1 := hid (CM2.out _ ra os _ B8.out.bel.size BR.out.bel A1)
                clear A1 br B8 RD2 CM2 c0 c1 c2 c3
                obtain ⟨c0, c1, c2, c3⟩ := BR.out.flat
                go_wp2_with fail
                with_reducible refine C1.out.mono ?_
                rintro e wc ⟨rfl, bc⟩
                have BC := hid (BR.out.on bc)
                clear bc BR C1 c0 c1 c2 c3
                obtain ⟨c0, c1, c2, c3⟩ := BC.out.flat
                rcases fhd with h | ⟨h, k⟩ | ⟨h, k, k2, k3⟩
                · have h2 : (x0 == 48) = false := by simpa using h
                  have h3 : (x0 != 48) = true := by simpa using h
                  clear h
                  go_wp2_with fail
                  go_ret
                  exact ⟨rfl, BC.out.bel⟩
                · subst h
                  subst k
                  go_wp2_with fail
                  go_ret
                  exact ⟨rfl, BC.out.bel⟩
                · subst h
                  subst k3
                  have k4 : ((1 : Int) == P) = false := by simpa using k
                  clear k k2
                  go_wp2_with fail
                  go_ret
                  exact ⟨rfl, BC.out.bel⟩
      · have t0 : (tN : Int) ≠ 0 := by have := tz.1; omega
        have t1 : ((tN : Int) == 0) = false := by simpa using t0
        clear tz t0
        cases neg with
        | true =>
          have eb : (true && decide (v ≠ 0)) = true := by rw [decide_eq_true hv]; rfl
          rw [eb] at sT x1 x2
          have es := (sne true).trans (if_pos rfl)
          rw [es] at sT x1 x2
          rw [show strOfNums [45] = ⟨#[45]⟩ from rfl] at x1
          simp only [List.length_cons, List.length_nil, Nat.zero_add] at sT x1 x2
          have f0 : FD ≠ [] := fne.out (by omega)
          have fl : 0 < FD.length := List.length_pos_iff.2 f0
          have RD2 := hid (fun W' => RD.out W' f0)
          clear RD fne fnil f0
          generalize strOfNums FD = fS at *
          generalize FD.getD 0 0 = x0 at *
          generalize FD.length = b at *
          have fli : (0 : Int) < (b : Int) := by omega
          go_enter Tryd.func6, Tryd.ntmps6
          go_wp2_with fail
          with_reducible refine (FT.out _).mono ?_
          rintro e w1 ⟨rfl, b1⟩
          have B1 := hid (B0.out.on b1)
          clear b1 FT B0
          obtain ⟨f0, f1, f2, f3⟩ := B1.out.free
          obtain ⟨c0, c1, c2, c3⟩ := B1.out.flat
          have B2 := hid ((B1.out.s0 105).s2 0)
          go_upto_region 5 with fail
          clear f0 f1 f2 f3 c0 c1 c2 c3 B1
          generalize ((w1.setCell ⟨w.heap.size, 0, none⟩ (.int .u8 105)).setCell ⟨w.heap.size, 2, none⟩ (.int .i64 0)) = wS at *
          obtain ⟨c0, c1, c2, c3⟩ := B2.out.flat
          go_wp2_with fail
          with_reducible refine (GD.out _).mono ?_
          rintro e w2 ⟨rfl, b2⟩
          have B3 := hid (B2.out.on b2)
          clear b2 GD B2 c0 c1 c2 c3
          go_wp2_with fail
          with_reducible refine (TR.out _ B3.out.bel).mono ?_
          rintro e w3 ⟨r, rfl, b3⟩
          have B4 := hid (B3.out.on b3)
          clear b3 B3
          obtain ⟨c0, c1, c2, c3⟩ := B4.out.flat
          go_wp2_with fail
          with_reducible refine (SG2.out _ B4.out.bel).mono ?_
          rintro e w4 ⟨rfl, b4⟩
          have B5 := hid (B4.out.on b4)
          clear b4 B4 SG2 c0 c1 c2 c3
          go_wp2_with fail
          with_reducible refine (TR.out _ B5.out.bel).mono ?_
          rintro e w5 ⟨r2, rfl, b5⟩
          have B6 := hid (B5.out.on b5)
          clear b5 B5 TR
          obtain ⟨c0, c1, c2, c3⟩ := B6.out.flat
          go_wp2_with fail
          with_reducible refine (RD2.out _).mono ?_
          rintro e wr ⟨ra, os, rfl, A1, br⟩
          have BR := hid (B6.out.on br)
          have C1 := hid (CM2.out _ ra os _ B6.out.bel.size BR.out.bel A1)
          clear A1 br B6 RD2 CM2 c0 c1 c2 c3
          obtain ⟨c0, c1, c2, c3⟩ := BR.out.flat
          go_wp2_with fail
          with_reducible refine C1.out.mono ?_
          rintro e wc ⟨rfl, bc⟩
          have BC := hid (BR.out.on bc)
          clear bc BR C1 c0 c1 c2 c3
          obtain ⟨c0, c1, c2, c3⟩ := BC.out.flat
          rcases fhd with h | ⟨h, k⟩ | ⟨h, k, k2, k3⟩
          · have h2 : (x0 == 48) = false := by simpa using h
            have h3 : (x0 != 48) = true := by simpa using h
            clear h
            go_wp2_with fail
            go_ret
            exact ⟨rfl, BC.out.bel⟩
          · subst h
            subst k
            go_wp2_with fail
            go_ret
            exact ⟨rfl, BC.out.bel⟩
          · exact absurd k2 hv
        | false =>
          rw [Bool.false_and] at sT x1 x2
          cases h2 : Wh.bit F 2 with
          | true =>
            have es := (sne false).trans (by rw [if_neg Bool.false_ne_true, if_pos h2])
            rw [h2] at LH
            rw [es] at sT x1 x2
            rw [show strOfNums [43] = ⟨#[43]⟩ from rfl] at x1
            simp only [List.length_cons, List.length_nil, Nat.zero_add] at sT x1 x2
            have f0 : FD ≠ [] := fne.out (by omega)
            have fl : 0 < FD.length := List.length_pos_iff.2 f0
            have RD2 := hid (fun W' => RD.out W' f0)
            clear RD fne fnil f0
            generalize strOfNums FD = fS at *
            generalize FD.getD 0 0 = x0 at *
            generalize FD.length = b at *
            have fli : (0 : Int) < (b : Int) := by omega
            go_enter Tryd.func6, Tryd.ntmps6
            go_wp2_with fail
            with_reducible refine (FT.out _).mono ?_
            rintro e w1 ⟨rfl, b1⟩
            have B1 := hid (B0.out.on b1)
            clear b1 FT B0
            obtain ⟨f0, f1, f2, f3⟩ := B1.out.free
            obtain ⟨c0, c1, c2, c3⟩ := B1.out.flat
            have B2 := hid ((B1.out.s0 105).s2 0)
            go_upto_region 5 with fail
            clear f0 f1 f2 f3 c0 c1 c2 c3 B1
            generalize ((w1.setCell ⟨w.heap.size, 0, none⟩ (.int .u8 105)).setCell ⟨w.heap.size, 2, none⟩ (.int .i64 0)) = wS at *
            obtain ⟨c0, c1, c2, c3⟩ := B2.out.flat
            go_wp2_with fail
            with_reducible refine (GD.out _).mono ?_
            rintro e w2 ⟨rfl, b2⟩
            have B3 := hid (B2.out.on b2)
            clear b2 GD B2 c0 c1 c2 c3
            go_wp2_with fail
            with_reducible refine (TR.out _ B3.out.bel).mono ?_
            rintro e w3 ⟨r, rfl, b3⟩
            have B4 := hid (B3.out.on b3)
            clear b3 B3
            obtain ⟨c0, c1, c2, c3⟩ := B4.out.flat
            go_wp2_with fail
            with_reducible refine (SG2.out _ B4.out.bel).mono ?_
            rintro e w4 ⟨rfl, b4⟩
            have B5 := hid (B4.out.on b4)
            clear b4 B4 SG2 c0 c1 c2 c3
            go_wp2_with fail
            with_reducible refine (TR.out _ B5.out.bel).mono ?_
            rintro e w5 ⟨r2, rfl, b5⟩
            have B6 := hid (B5.out.on b5)
            clear b5 B5 TR
            obtain ⟨c0, c1, c2, c3⟩ := B6.out.flat
            go_wp2_with fail
            with_reducible refine (LH.out _).mono ?_
            rintro e w6 ⟨rfl, b6⟩
            have B7 := hid (B6.out.on b6)
            clear b6 B6 c0 c1 c2 c3
            obtain ⟨c0, c1, c2, c3⟩ := B7.out.flat
            go_wp2_with fail
            with_reducible refine (RD2.out _).mono ?_
            rintro e wr ⟨ra, os, rfl, A1, br⟩
            have BR := hid (B7.out.on br)
            have C1 := hid (CM2.out _ ra os _ B7.out.bel.size BR.out.bel A1)
            clear A1 br B7 RD2 CM2 c0 c1 c2 c3
            obtain ⟨c0, c1, c2, c3⟩ := BR.out.flat
            go_wp2_with fail
            with_reducible refine C1.out.mono ?_
            rintro e wc ⟨rfl, bc⟩
            have BC := hid (BR.out.on bc)
            clear bc BR C1 c0 c1 c2 c3
            obtain ⟨c0, c1, c2, c3⟩ := BC.out.flat
            rcases fhd with h | ⟨h, k⟩ | ⟨h, k, k2, k3⟩
            · have h2 : (x0 == 48) = false := by simpa using h
              have h3 : (x0 != 48) = true := by simpa using h
              clear h
              go_wp2_with fail
              go_ret
              exact ⟨rfl, BC.out.bel⟩
            · subst h
              subst k
              go_wp2_with fail
              go_ret
              exact ⟨rfl, BC.out.bel⟩
            · exact absurd k2 hv
          | false =>
            rw [h2] at LH
            cases h4 : Wh.bit F 4 with
            | true =>
              have es := (sne false).trans (by rw [if_neg Bool.false_ne_true, h2, if_neg Bool.false_ne_true, if_pos h4])
              rw [h4] at LI
              rw [es] at sT x1 x2
              rw [show strOfNums [32] = ⟨#[32]⟩ from rfl] at x1
              simp only [List.length_cons, List.length_nil, Nat.zero_add] at sT x1 x2
              have f0 : FD ≠ [] := fne.out (by omega)
              have fl : 0 < FD.length := List.length_pos_iff.2 f0
              have RD2 := hid (fun W' => RD.out W' f0)
              clear RD fne fnil f0
              generalize strOfNums FD = fS at *
              generalize FD.getD 0 0 = x0 at *
              generalize FD.length = b at *
              have fli : (0 : Int) < (b : Int) := by omega
              go_enter Tryd.func6, Tryd.ntmps6
              go_wp2_with fail
              with_reducible refine (FT.out _).mono ?_
              rintro e w1 ⟨rfl, b1⟩
              have B1 := hid (B0.out.on b1)
              clear b1 FT B0
              obtain ⟨f0, f1, f2, f3⟩ := B1.out.free
              obtain ⟨c0, c1, c2, c3⟩ := B1.out.flat
              have B2 := hid ((B1.out.s0 105).s2 0)
              go_upto_region 5 with fail
              clear f0 f1 f2 f3 c0 c1 c2 c3 B1
              generalize ((w1.setCell ⟨w.heap.size, 0, none⟩ (.int .u8 105)).setCell ⟨w.heap.size, 2, none⟩ (.int .i64 0)) = wS at *
              obtain ⟨c0, c1, c2, c3⟩ := B2.out.flat
              go_wp2_with fail
              with_reducible refine (GD.out _).mono ?_
              rintro e w2 ⟨rfl, b2⟩
              have B3 := hid (B2.out.on b2)
              clear b2 GD B2 c0 c1 c2 c3
              go_wp2_with fail
              with_reducible refine (TR.out _ B3.out.bel).mono ?_
              rintro e w3 ⟨r, rfl, b3⟩
              have B4 := hid (B3.out.on b3)
              clear b3 B3
              obtain ⟨c0, c1, c2, c3⟩ := B4.out.flat
              go_wp2_with fail
              with_reducible refine (SG2.out _ B4.out.bel).mono ?_
              rintro e w4 ⟨rfl, b4⟩
              have B5 := hid (B4.out.on b4)
              clear b4 B4 SG2 c0 c1 c2 c3
              go_wp2_with fail
              with_reducible refine (TR.out _ B5.out.bel).mono ?_
              rintro e w5 ⟨r2, rfl, b5⟩
              have B6 := hid (B5.out.on b5)
              clear b5 B5 TR
              obtain ⟨c0, c1, c2, c3⟩ := B6.out.flat
              go_wp2_with fail
              with_reducible refine (LH.out _).mono ?_
              rintro e w6 ⟨rfl, b6⟩
              have B7 := hid (B6.out.on b6)
              clear b6 B6 c0 c1 c2 c3
              obtain ⟨c0, c1, c2, c3⟩ := B7.out.flat
              go_wp2_with fail
              with_reducible refine (LI.out _).mono ?_
              rintro e w7 ⟨rfl, b7⟩
              have B8 := hid (B7.out.on b7)
              clear b7 B7 c0 c1 c2 c3
              obtain ⟨c0, c1, c2, c3⟩ := B8.out.flat
              go_wp2_with fail
              with_reducible refine (RD2.out _).mono ?_
              rintro e wr ⟨ra, os, rfl, A1, br⟩
              have BR := hid (B8.out.on br)
              have C1 := hid (CM2.out _ ra os _ B8.out.bel.size BR.out.bel A1)
              clear A1 br B8 RD2 CM2 c0 c1 c2 c3
              obtain ⟨c0, c1, c2, c3⟩ := BR.out.flat
              go_wp2_with fail
              with_reducible refine C1.out.mono ?_
              rintro e wc ⟨rfl, bc⟩
              have BC := hid (BR.out.on bc)
              clear bc BR C1 c0 c1 c2 c3
              obtain ⟨c0, c1, c2, c3⟩ := BC.out.flat
              rcases fhd with h | ⟨h, k⟩ | ⟨h, k, k2, k3⟩
              · have h2 : (x0 == 48) = false := by simpa using h
                have h3 : (x0 != 48) = true := by simpa using h
                clear h
                go_wp2_with fail
                go_ret
                exact ⟨rfl, BC.out.bel⟩
              · subst h
                subst k
                go_wp2_with fail
                go_ret
                exact ⟨rfl, BC.out.bel⟩
              · exact absurd k2 hv
            | false =>
              have es := (sne false).trans (by rw [if_neg Bool.false_ne_true, h2, if_neg Bool.false_ne_true, h4, if_neg Bool.false_ne_true])
              rw [h4] at LI
              rw [es] at sT x1 x2
              rw [show strOfNums [] = ⟨#[]⟩ from rfl] at x1
              simp only [List.length_nil, Nat.zero_add] at sT x1 x2
              have f0 : FD ≠ [] := fne.out (by omega)
              have fl : 0 < FD.length := List.length_pos_iff.2 f0
              have RD2 := hid (fun W' => RD.out W' f0)
              clear RD fne fnil f0
              generalize strOfNums FD = fS at *
              generalize FD.getD 0 0 = x0 at *
              generalize FD.length = b at *
              have fli : (0 : Int) < (b : Int) := by omega
              go_enter Tryd.func6, Tryd.ntmps6
              go_wp2_with fail
              with_reducible refine (FT.out _).mono ?_
              rintro e w1 ⟨rfl, b1⟩
              have B1 := hid (B0.out.on b1)
              clear b1 FT B0
              obtain ⟨f0, f1, f2, f3⟩ := B1.out.free
              obtain ⟨c0, c1, c2, c3⟩ := B1.out.flat
              have B2 := hid ((B1.out.s0 105).s2 0)
              go_upto_region 5 with fail
              clear f0 f1 f2 f3 c0 c1 c2 c3 B1
              generalize ((w1.setCell ⟨w.heap.size, 0, none⟩ (.int .u8 105)).setCell ⟨w.heap.size, 2, none⟩ (.int .i64 0)) = wS at *
              obtain ⟨c0, c1, c2, c3⟩ := B2.out.flat
              go_wp2_with fail
              with_reducible refine (GD.out _).mono ?_
              rintro e w2 ⟨rfl, b2⟩
              have B3 := hid (B2.out.on b2)
              clear b2 GD B2 c0 c1 c2 c3
              go_wp2_with fail
              with_reducible refine (TR.out _ B3.out.bel).mono ?_
              rintro e w3 ⟨r, rfl, b3⟩
              have B4 := hid (B3.out.on b3)
              clear b3 B3
              obtain ⟨c0, c1, c2, c3⟩ := B4.out.flat
              go_wp2_with fail
              with_reducible refine (SG2.out _ B4.out.bel).mono ?_
              rintro e w4 ⟨rfl, b4⟩
              have B5 := hid (B4.out.on b4)
              clear b4 B4 SG2 c0 c1 c2 c3
              go_wp2_with fail
              with_reducible refine (TR.out _ B5.out.bel).mono ?_
              rintro e w5 ⟨r2, rfl, b5⟩
              have B6 := hid (B5.out.on b5)
              clear b5 B5 TR
              obtain ⟨c0, c1, c2, c3⟩ := B6.out.flat
              go_wp2_with fail
              with_reducible refine (LH.out _).mono ?_
              rintro e w6 ⟨rfl, b6⟩
              have B7 := hid (B6.out.on b6)
              clear b6 B6 c0 c1 c2 c3
              obtain ⟨c0, c1, c2, c3⟩ := B7.out.flat
              go_wp2_with fail
              with_reducible refine (LI.out _).mono ?_
              rintro e w7 ⟨rfl, b7⟩
              have B8 := hid (B7.out.on b7)
              clear b7 B7 c0 c1 c2 c3
              obtain ⟨c0, c1, c2, c3⟩ := B8.out.flat
              go_wp2_with fail
              with_reducible refine (RD2.out _).mono ?_
              rintro e wr ⟨ra, os, rfl, A1, br⟩
              have BR := hid (B8.out.on br)
              have C1 := hid (CM2.out _ ra os _ B8.out.bel.size BR.out.bel A1)
              clear A1 br B8 RD2 CM2 c0 c1 c2 c3
              obtain ⟨c0, c1, c2, c3⟩ := BR.out.flat
              go_wp2_with fail
              with_reducible refine C1.out.mono ?_
              rintro e wc ⟨rfl, bc⟩
              have BC := hid (BR.out.on bc)
              clear bc BR C1 c0 c1 c2 c3
              obtain ⟨c0, c1, c2, c3⟩ := BC.out.flat
              rcases fhd with h | ⟨h, k⟩ | ⟨h, k, k2, k3⟩
              · have h2 : (x0 == 48) = false := by simpa using h
                have h3 : (x0 != 48) = true := by simpa using h
                clear h
                go_wp2_with fail
                go_ret
                exact ⟨rfl, BC.out.bel⟩
              · subst h
                subst k
                go_wp2_with fail
                go_ret
                exact ⟨rfl, BC.out.bel⟩
              · exact absurd k2 hv
  · rw [decide_eq_false hc] at GD
    clear ha hc TR
    go_enter Tryd.func6, Tryd.ntmps6
    go_wp2_with fail
    with_reducible refine (FT.out _).mono ?_
    rintro e w1 ⟨rfl, b1⟩
    have B1 := hid (B0.out.on b1)
    clear b1 FT B0
    obtain ⟨f0, f1, f2, f3⟩ := B1.out.free
    obtain ⟨c0, c1, c2, c3⟩ := B1.out.flat
    have B2 := hid ((B1.out.s0 105).s2 0)
    go_upto_region 5 with fail
    clear f0 f1 f2 f3 c0 c1 c2 c3 B1
    generalize ((w1.setCell ⟨w.heap.size, 0, none⟩ (.int .u8 105)).setCell ⟨w.heap.size, 2, none⟩ (.int .i64 0)) = wS at *
    obtain ⟨c0, c1, c2, c3⟩ := B2.out.flat
    go_wp2_with fail
    with_reducible refine (GD.out _).mono ?_
    rintro e w2 ⟨rfl, b2⟩
    have B3 := hid (B2.out.on b2)
    clear b2 GD B2 c0 c1 c2 c3
    go_wp2_with fail
    go_ret
    exact ⟨rfl, B3.out.bel⟩
end Go.Proofs.YtbldddagddmbgaaDoor

namespace Go.Proofs.YtbldddagddmbgaaDoor
open Go.RowKit Go.Deep Go.ChangeShapes Go.WideShapes Go.ChangeAt

theorem spc_array {α : Type} {cs : Array α} (h : cs.size = 4) : ∃ c0 c1 c2 c3, cs = #[c0, c1, c2, c3] := by
  obtain ⟨l⟩ := cs
  match l, h with
  | [c0, c1, c2, c3], _ => exact ⟨c0, c1, c2, c3, rfl⟩
theorem spc_list {α : Type} {l : List α} (h : l.length = 4) : ∃ c0 c1 c2 c3, l = [c0, c1, c2, c3] := by
  match l, h with
  | [c0, c1, c2, c3], _ => exact ⟨c0, c1, c2, c3, rfl⟩

set_option maxRecDepth 100000 in
theorem open_spc_cells {H : Type} {enc : TypeId × Value → H} {W : World} {fuel : Nat} {a0 a1 a2 a3 : Value} {x : DataW H × List MemPlace} (hf : DataW.trod enc Tryd.prog W 0 (fun _ => true) true fuel 25 [a0, a1, a2, a3] = some x) :
    ∃ V F D P : Int, a0 = .int .u8 V ∧ a1 = .int .i64 F ∧ a2 = .int .i64 D ∧ a3 = .int .i64 P ∧ (0 ≤ V ∧ V < 256) := by
  obtain ⟨xs, n, _, hx, _, hlen, hfs⟩ := DataW.trod_struct Tryd.underlying25 hf
  obtain ⟨y0, y1, y2, y3, rfl⟩ := spc_list hlen
  have c3 : Tryd.prog.cellsOf 3 = 1 := by kernel_rfl
  have c8 : Tryd.prog.cellsOf 5 = 1 := by kernel_rfl
  have f0 : DataW.trod enc Tryd.prog W 0 (fun _ => true) true n 5 [a0] = some y0 := by simpa [c8] using hfs 0 _ rfl
  have f1 : DataW.trod enc Tryd.prog W 0 (fun _ => true) true n 3 [a1] = some y1 := by simpa [c3] using hfs 1 _ rfl
  have f2 : DataW.trod enc Tryd.prog W 0 (fun _ => true) true n 3 [a2] = some y2 := by simpa [c3] using hfs 2 _ rfl
  have f3 : DataW.trod enc Tryd.prog W 0 (fun _ => true) true n 3 [a3] = some y3 := by simpa [c3] using hfs 3 _ rfl
  obtain ⟨V, e0, _, w0⟩ := DataW.trod_int Tryd.underlying5 f0
  obtain ⟨F, e1, _, w1⟩ := DataW.trod_int Tryd.underlying3 f1
  obtain ⟨D, e2, _, w2⟩ := DataW.trod_int Tryd.underlying3 f2
  obtain ⟨P, e3, _, w3⟩ := DataW.trod_int Tryd.underlying3 f3
  have b0 := bounds_u8 w0
  exact ⟨V, F, D, P, (List.cons.inj e0).1, (List.cons.inj e1).1, (List.cons.inj e2).1, (List.cons.inj e3).1, by omega, by omega⟩

set_option maxRecDepth 100000 in
theorem open_spc {H : Type} {enc : TypeId × Value → H} {W : World} {base : Nat} {v : Value} {d : DataW H} {p : List MemPlace} (hv : Value.okWide Tryd.prog W .any base 25 v) (h : DataW.Trod enc Tryd.prog W 0 (fun _ => true) true 25 v d p) :
    ∃ V F D P : Int, v = .agg #[.int .u8 V, .int .i64 F, .int .i64 D, .int .i64 P] ∧ (0 ≤ V ∧ V < 256) := by
  obtain ⟨cs, rfl, hs3⟩ := okWide_struct Tryd.underlying25 hv
  obtain ⟨a0, a1, a2, a3, rfl⟩ := spc_array (hs3.trans (show Tryd.prog.cellsOf 25 = 4 by kernel_rfl))
  obtain ⟨fuel, hf⟩ := h
  have hf' : DataW.trod enc Tryd.prog W 0 (fun _ => true) true fuel 25 [a0, a1, a2, a3] = some (d, p) := by simpa [Value.cells] using hf
  obtain ⟨V, F, D, P, e0, e1, e2, e3, h1⟩ := open_spc_cells (x := (d, p)) hf'
  rw [e0, e1, e2, e3]
  exact ⟨V, F, D, P, rfl, h1⟩
end Go.Proofs.YtbldddagddmbgaaDoor
