/-
  Texts put together: VCmp, VCmp2.
-/
import Derived.Test.YtjkefcikepnbpaaGreatDoorWAM
import Derived.Test.YtjkefcikepnbpaaGreatDoorWAN
import Derived.Test.YtjkefcikepnbpaaGreatDoorWAA
namespace Go.Proofs.YtjkefcikepnbpaaGreatDoor
open Go Go.RowKit Go.Deep

theorem str48 : (⟨#[48]⟩ : ByteArray).toList = [48] := by rw [ByteArray.toList_eq]

theorem vsign_any (d : Sc.D) (s : ByteArray) (w : World) (hs : Str s d.ds) : Calls Tryz.prog 114 #[.agg #[.bool d.neg, .string s, .int .i64 d.e]] w fun e w' => e = .returned (.int .i64 (Sc.sgn d)) ∧ Below w.heap.size w w' := by
  have B := hid (alloc_b w (.cells #[.bool d.neg, .string s, .int .i64 d.e] 25))
  rcases Sc.sgn_c d with ⟨h1, h2⟩ | ⟨h1, h3, h2⟩ | ⟨h1, h3, h2⟩
  · have hs0 : s = ⟨#[48]⟩ := hs.inj (by rw [h1]; rfl)
    subst hs0
    rw [h2]
    clear hs h1 h2
    go_enter Tryz.func114, Tryz.ntmps114
    go_wp2_with fail
    go_ret
    exact ⟨rfl, B.out⟩
  · have q : (s.toList == [48]) = false := by
      have := hs.eq (t := ⟨#[48]⟩) (ys := [48]) rfl
      rw [decide_eq_false h1, str48] at this
      exact this
    have q1 : s.toList ≠ [48] := by simpa using q
    rw [h2, h3]
    rw [h3] at B
    clear hs h1 h2 h3
    go_enter Tryz.func114, Tryz.ntmps114
    go_wp2_with fail
    go_ret
    exact ⟨rfl, B.out⟩
  · have q : (s.toList == [48]) = false := by
      have := hs.eq (t := ⟨#[48]⟩) (ys := [48]) rfl
      rw [decide_eq_false h1, str48] at this
      exact this
    have q1 : s.toList ≠ [48] := by simpa using q
    rw [h2, h3]
    rw [h3] at B
    clear hs h1 h2 h3
    go_enter Tryz.func114, Tryz.ntmps114
    go_wp2_with fail
    go_ret
    exact ⟨rfl, B.out⟩







/-- What Cmp tells. -/
def cmpE (na : Bool) (xs : List Int) (ea : Int) (nb : Bool) (ys : List Int) (eb : Int) : Int × Int := if Sc.IsDec xs ea ∧ Sc.IsDec ys eb then (Sc.cmpD (Sc.nrm na xs ea) (Sc.nrm nb ys eb), 0) else (0, 80)

theorem nmd_e (neg : Bool) (xs : List Int) (e : Int) (hn : xs.length ≤ 281474976710656) : -1152921504606846976 ≤ (nmd neg xs e).e ∧ (nmd neg xs e).e ≤ 1152921504606846976 ∧ (nmd neg xs e).ds.length ≤ 281474976710657 := by
  unfold nmd
  split
  · next h =>
    refine ⟨?_, ?_, ?_⟩
    · rcases Sc.nrm_e neg xs e with k | k
      · omega
      · have := h.2.1; omega
    · by_cases c : Sc.lz xs = xs.length
      · rw [Sc.nrm_zero c]; show (0 : Int) ≤ _; omega
      · rw [Sc.nrm_pos c]; exact h.2.2.2.2 c
    · have := Sc.nrm_len neg xs e; omega
  · simp

/-- Two Decs by their sizes. -/
theorem cmpD_same {a b : Sc.D} (h : Sc.sgn a = Sc.sgn b) : Sc.cmpD a b = if a.neg = true then Sc.mc b a else Sc.mc a b := by
  unfold Sc.cmpD; rw [if_neg (by simpa using h)]
theorem cmpD_apart {a b : Sc.D} (h : Sc.sgn a ≠ Sc.sgn b) : Sc.cmpD a b = Sc.cmpI (Sc.sgn a) (Sc.sgn b) := by
  unfold Sc.cmpD; rw [if_pos h]
theorem mc_apart {a b : Sc.D} (h : Sc.pl a ≠ Sc.pl b) : Sc.mc a b = Sc.cmpI (Sc.pl a) (Sc.pl b) := by
  unfold Sc.mc; rw [if_pos h]
theorem mc_same {a b : Sc.D} (h : Sc.pl a = Sc.pl b) : Sc.mc a b = Sc.lex a.ds b.ds := by
  unfold Sc.mc; rw [if_neg (by simpa using h)]
end Go.Proofs.YtjkefcikepnbpaaGreatDoor

namespace Go.Proofs.YtjkefcikepnbpaaGreatDoor
open Go Go.RowKit Go.Deep

/-- The two Decs in their boxes. -/
def C2 (w wx : World) (a b : Sc.D) (s t : ByteArray) : Prop := Two3 w wx (.bool a.neg) (.string s) (.int .i64 a.e) (.bool b.neg) (.string t) (.int .i64 b.e)
theorem C2.six {w wx : World} {a b : Sc.D} {s t : ByteArray} (h : C2 w wx a b s t) : (wx.cell? ⟨w.heap.size, 0, none⟩ = some (.bool a.neg) ∧ wx.cell? ⟨w.heap.size, 1, none⟩ = some (.string s) ∧ wx.cell? ⟨w.heap.size, 2, none⟩ = some (.int .i64 a.e)) ∧ (wx.cell? ⟨w.heap.size + 1, 0, none⟩ = some (.bool b.neg) ∧ wx.cell? ⟨w.heap.size + 1, 1, none⟩ = some (.string t) ∧ wx.cell? ⟨w.heap.size + 1, 2, none⟩ = some (.int .i64 b.e)) := ⟨h.2.1.cells.1, h.2.2.cells.1⟩
theorem C2.on {w wx w' : World} {a b : Sc.D} {s t : ByteArray} (h : C2 w wx a b s t) (k : Below wx.heap.size wx w') : C2 w w' a b s t := Two3.on h k
theorem C2.drew {w wx : World} {a b : Sc.D} {s t : ByteArray} (h : C2 w wx a b s t) : C2 w wx.drew a b s t := Two3.drew h 1

set_option maxRecDepth 100000 in
set_option maxHeartbeats 4000000 in
/-- Behind the two slims: both are Decs, or one is none. -/
theorem vcmp_any (na nb : Bool) (s t : ByteArray) (xs ys : List Int) (ea eb : Int) (w : World) (hs : Str s xs) (ht : Str t ys) (hn : xs.length ≤ 281474976710656) (hm : ys.length ≤ 281474976710656) :
    Calls Tryz.prog 85 #[decV na s ea, decV nb t eb] w fun r w' => r = .returned (.tuple #[.int .i64 (cmpE na xs ea nb ys eb).1, .int .i64 (cmpE na xs ea nb ys eb).2]) ∧ Below w.heap.size w w' := by
  have TA := hid (fun wx => slim_any na s xs ea wx hs hn)
  have TB := hid (fun wx => slim_any nb t ys eb wx ht hm)
  have Z := hid (Two3.new w (.bool na) (.string s) (.int .i64 ea) (.bool nb) (.string t) (.int .i64 eb))
  have bA := nmd_e na xs ea hn
  have bB := nmd_e nb ys eb hm
  have CE : Hid (Sc.IsDec xs ea → Sc.IsDec ys eb → cmpE na xs ea nb ys eb = (Sc.cmpD (nmd na xs ea) (nmd nb ys eb), 0)) := fun c d => by unfold cmpE nmd; rw [if_pos ⟨c, d⟩, if_pos c, if_pos d]
  have CN : Hid (¬ (Sc.IsDec xs ea ∧ Sc.IsDec ys eb) → cmpE na xs ea nb ys eb = (0, 80)) := fun c => by unfold cmpE; rw [if_neg c]
  clear hs ht hn hm
  unfold decV at TA TB ⊢
  obtain ⟨da, hda⟩ : ∃ d, decide (Sc.IsDec xs ea) = d := ⟨_, rfl⟩
  obtain ⟨db, hdb⟩ : ∃ d, decide (Sc.IsDec ys eb) = d := ⟨_, rfl⟩
  have HA := hid hda
  have HB := hid hdb
  clear hda hdb
  go_enter Tryz.func85, Tryz.ntmps85
  go_wp2_with fail
  refine (TA.out _).mono ?_
  rintro r w1 ⟨v, rfl, ⟨s1, hv, hs1⟩, hB⟩
  unfold decV at hv
  subst hv
  rw [HA.out]
  have S := hid ((Z.out.on hB).putA (.bool (nmd na xs ea).neg) (.string s1) (.int .i64 (nmd na xs ea).e))
  obtain ⟨⟨c0, c1, c2⟩, f0, f1, f2⟩ := (Z.out.on hB).2.1.cells
  obtain ⟨⟨d0, d1, d2⟩, g0, g1, g2⟩ := (Z.out.on hB).2.2.cells
  have H1 := hid hs1
  clear hB hs1 Z TA
  go_wp2_with fail
  refine (TB.out _).mono ?_
  rintro r w2 ⟨v, rfl, ⟨t1, hv, ht1⟩, hB⟩
  unfold decV at hv
  subst hv
  rw [HB.out]
  have S2 : Hid (C2 w (((w2.setCell ⟨w.heap.size + 1, 0, none⟩ (.bool (nmd nb ys eb).neg)).setCell ⟨w.heap.size + 1, 1, none⟩ (.string t1)).setCell ⟨w.heap.size + 1, 2, none⟩ (.int .i64 (nmd nb ys eb).e)) (nmd na xs ea) (nmd nb ys eb) s1 t1) := (S.out.on hB).putB (.bool (nmd nb ys eb).neg) (.string t1) (.int .i64 (nmd nb ys eb).e)
  clear c0 c1 c2 f0 f1 f2 d0 d1 d2 g0 g1 g2
  obtain ⟨⟨d0, d1, d2⟩, g0, g1, g2⟩ := (S.out.on hB).2.2.cells
  have H2 := hid ht1
  clear hB ht1 S TB
  by_cases hda : da = true ∧ db = true
  · obtain ⟨rfl, rfl⟩ := hda
    have CE2 := hid (CE.out (of_decide_eq_true HA.out) (of_decide_eq_true HB.out))
    have SA := hid (fun wx => vsign_any (nmd na xs ea) s1 wx H1.out)
    have SB := hid (fun wx => vsign_any (nmd nb ys eb) t1 wx H2.out)
    have SC := hid (fun wx => scompare_any s1 t1 _ _ wx H1.out H2.out)
    have SD := hid (fun wx => scompare_any t1 s1 _ _ wx H2.out H1.out)
    have zA := H1.out.size
    have zB := H2.out.size
    clear CE CN HA HB H1 H2
    generalize nmd na xs ea = A at *
    generalize nmd nb ys eb = B at *
    go_upto_region 5 with fail
    generalize ((w2.setCell ⟨w.heap.size + 1, 0, none⟩ (.bool B.neg)).setCell ⟨w.heap.size + 1, 1, none⟩ (.string t1)).setCell ⟨w.heap.size + 1, 2, none⟩ (.int .i64 B.e) = w3 at *
    clear d0 d1 d2 g0 g1 g2
    have T0 := hid S2.out.drew
    go_region_held3 (fun wx => (wx.cell? ⟨w.heap.size, 0, none⟩ = some (.bool A.neg) ∧ wx.cell? ⟨w.heap.size, 1, none⟩ = some (.string s1) ∧ wx.cell? ⟨w.heap.size, 2, none⟩ = some (.int .i64 A.e)) ∧ (wx.cell? ⟨w.heap.size + 1, 0, none⟩ = some (.bool B.neg) ∧ wx.cell? ⟨w.heap.size + 1, 1, none⟩ = some (.string t1) ∧ wx.cell? ⟨w.heap.size + 1, 2, none⟩ = some (.int .i64 B.e))) (first | (with_reducible exact T2.out.six) | (with_reducible exact T1.out.six) | (with_reducible exact T0.out.six)) (first
      | (go_at_call 114; (first
          | (with_reducible refine (SA.out _).mono ?_; rintro e w5 ⟨rfl, hB⟩; (first | (have T2 := hid (T1.out.on hB); clear hB) | (have T1 := hid (T0.out.on hB); clear hB)))
          | (with_reducible refine (SB.out _).mono ?_; rintro e w5 ⟨rfl, hB⟩; (first | (have T2 := hid (T1.out.on hB); clear hB) | (have T1 := hid (T0.out.on hB); clear hB))))))
    generalize w5 = w4 at *
    by_cases hsg : Sc.sgn A = Sc.sgn B
    · have r0 : (Sc.sgn A != Sc.sgn B) = false := by simpa using hsg
      have r3 : (Sc.sgn A == Sc.sgn B) = true := by simpa using hsg
      have KK0 := hid (cmpD_same hsg)
      clear hsg SA SB T0 T1 S2
      obtain ⟨n, hn⟩ : ∃ n, A.neg = n := ⟨_, rfl⟩
      cases n with
      | true =>
        have KK : Hid (Sc.cmpD A B = Sc.mc B A) := by show _ = _; rw [KK0.out, if_pos hn]
        obtain ⟨⟨c0, c1, c2⟩, f0, f1, f2⟩ := T2.out.2.1.cells
        obtain ⟨⟨c3, c4, c5⟩, f3, f4, f5⟩ := T2.out.2.2.cells
        have T3 : Hid (C2 w ((((((w4.setCell ⟨w.heap.size, 0, none⟩ (.bool B.neg)).setCell ⟨w.heap.size, 1, none⟩ (.string t1)).setCell ⟨w.heap.size, 2, none⟩ (.int .i64 B.e)).setCell ⟨w.heap.size + 1, 0, none⟩ (.bool true)).setCell ⟨w.heap.size + 1, 1, none⟩ (.string s1)).setCell ⟨w.heap.size + 1, 2, none⟩ (.int .i64 A.e)) B A t1 s1) := by
          have := (Two3.putA T2.out (.bool B.neg) (.string t1) (.int .i64 B.e)).putB (.bool A.neg) (.string s1) (.int .i64 A.e)
          rw [hn] at this
          show C2 _ _ _ _ _ _
          unfold C2
          rw [hn]
          exact this
        clear KK0
        go_upto_region 10 with fail
        generalize (((((w4.setCell ⟨w.heap.size, 0, none⟩ (.bool B.neg)).setCell ⟨w.heap.size, 1, none⟩ (.string t1)).setCell ⟨w.heap.size, 2, none⟩ (.int .i64 B.e)).setCell ⟨w.heap.size + 1, 0, none⟩ (.bool true)).setCell ⟨w.heap.size + 1, 1, none⟩ (.string s1)).setCell ⟨w.heap.size + 1, 2, none⟩ (.int .i64 A.e) = wX at *
        clear c0 c1 c2 f0 f1 f2 c3 c4 c5 f3 f4 f5
        obtain ⟨⟨d0, d1, d2⟩, d3, d4, d5⟩ := T3.out.six
        by_cases hp : Sc.pl B = Sc.pl A
        · have r1 : (B.e + (B.ds.length : Int) != A.e + (A.ds.length : Int)) = false := by simpa [Sc.pl] using hp
          have r2 : (B.e + (B.ds.length : Int) == A.e + (A.ds.length : Int)) = true := by simpa [Sc.pl] using hp
          have FF : Hid (∀ w', Below w.heap.size w w' → Ending.returned (.tuple #[.int .i64 (Sc.lex B.ds A.ds), .int .i64 0]) = .returned (.tuple #[.int .i64 (cmpE na xs ea nb ys eb).1, .int .i64 (cmpE na xs ea nb ys eb).2]) ∧ Below w.heap.size w w') := fun w' b => ⟨by rw [CE2.out, KK.out, mc_same hp], b⟩
          clear hp
          go_region
          go_wp2_with fail
          refine (SD.out _).mono ?_
          rintro e w6 ⟨rfl, rfl⟩
          go_wp2_with fail
          go_ret2
          exact FF.out _ (below_drewN T3.out.1 1)
        · have r1 : (B.e + (B.ds.length : Int) != A.e + (A.ds.length : Int)) = true := by simpa [Sc.pl] using hp
          have r2 : (B.e + (B.ds.length : Int) == A.e + (A.ds.length : Int)) = false := by rw [beq_eq_false_iff_ne]; exact hp
          have FF : Hid (∀ w', Below w.heap.size w w' → Ending.returned (.tuple #[.int .i64 (Sc.cmpI (B.e + (B.ds.length : Int)) (A.e + (A.ds.length : Int))), .int .i64 0]) = .returned (.tuple #[.int .i64 (cmpE na xs ea nb ys eb).1, .int .i64 (cmpE na xs ea nb ys eb).2]) ∧ Below w.heap.size w w') := fun w' b => ⟨by rw [CE2.out, KK.out, mc_apart hp]; rfl, b⟩
          clear hp
          go_region
          go_wp2_with fail
          refine (cmpint_any _ _ _).mono ?_
          rintro e w6 ⟨rfl, rfl⟩
          go_wp2_with fail
          go_ret2
          exact FF.out _ (below_drewN T3.out.1 1)
      | false =>
        have KK : Hid (Sc.cmpD A B = Sc.mc A B) := by show _ = _; rw [KK0.out, if_neg (by rw [hn]; simp)]
        clear KK0
        have hn2 := hn
        clear hn
        obtain ⟨⟨d0, d1, d2⟩, d3, d4, d5⟩ := T2.out.six
        by_cases hp : Sc.pl A = Sc.pl B
        · have r1 : (A.e + (A.ds.length : Int) != B.e + (B.ds.length : Int)) = false := by simpa [Sc.pl] using hp
          have r2 : (A.e + (A.ds.length : Int) == B.e + (B.ds.length : Int)) = true := by simpa [Sc.pl] using hp
          have FF : Hid (∀ w', Below w.heap.size w w' → Ending.returned (.tuple #[.int .i64 (Sc.lex A.ds B.ds), .int .i64 0]) = .returned (.tuple #[.int .i64 (cmpE na xs ea nb ys eb).1, .int .i64 (cmpE na xs ea nb ys eb).2]) ∧ Below w.heap.size w w') := fun w' b => ⟨by rw [CE2.out, KK.out, mc_same hp], b⟩
          clear hp
          go_upto_region 10 with fail
          go_region
          go_wp2_with fail
          refine (SC.out _).mono ?_
          rintro e w6 ⟨rfl, rfl⟩
          go_wp2_with fail
          go_ret2
          exact FF.out _ (below_drewN T2.out.1 1)
        · have r1 : (A.e + (A.ds.length : Int) != B.e + (B.ds.length : Int)) = true := by simpa [Sc.pl] using hp
          have r2 : (A.e + (A.ds.length : Int) == B.e + (B.ds.length : Int)) = false := by rw [beq_eq_false_iff_ne]; exact hp
          have FF : Hid (∀ w', Below w.heap.size w w' → Ending.returned (.tuple #[.int .i64 (Sc.cmpI (A.e + (A.ds.length : Int)) (B.e + (B.ds.length : Int))), .int .i64 0]) = .returned (.tuple #[.int .i64 (cmpE na xs ea nb ys eb).1, .int .i64 (cmpE na xs ea nb ys eb).2]) ∧ Below w.heap.size w w') := fun w' b => ⟨by rw [CE2.out, KK.out, mc_apart hp]; rfl, b⟩
          clear hp
          go_upto_region 10 with fail
          go_region
          go_wp2_with fail
          refine (cmpint_any _ _ _).mono ?_
          rintro e w6 ⟨rfl, rfl⟩
          go_wp2_with fail
          go_ret2
          exact FF.out _ (below_drewN T2.out.1 1)
    · have r0 : (Sc.sgn A != Sc.sgn B) = true := by simpa using hsg
      have r3 : (Sc.sgn A == Sc.sgn B) = false := by rw [beq_eq_false_iff_ne]; exact hsg
      have FF : Hid (∀ w', Below w.heap.size w w' → Ending.returned (.tuple #[.int .i64 (Sc.cmpI (Sc.sgn A) (Sc.sgn B)), .int .i64 0]) = .returned (.tuple #[.int .i64 (cmpE na xs ea nb ys eb).1, .int .i64 (cmpE na xs ea nb ys eb).2]) ∧ Below w.heap.size w w') := fun w' b => ⟨by rw [CE2.out, cmpD_apart hsg], b⟩
      clear hsg
      go_wp2_with fail
      refine (cmpint_any _ _ _).mono ?_
      rintro e w6 ⟨rfl, rfl⟩
      go_wp2_with fail
      go_ret2
      exact FF.out _ T2.out.1
  · have FF : Hid (∀ w', Below w.heap.size w w' → Ending.returned (.tuple #[.int .i64 0, .int .i64 80]) = .returned (.tuple #[.int .i64 (cmpE na xs ea nb ys eb).1, .int .i64 (cmpE na xs ea nb ys eb).2]) ∧ Below w.heap.size w w') := fun w' b => ⟨by rw [CN.out fun c => hda ⟨by rw [← HA.out, decide_eq_true c.1], by rw [← HB.out, decide_eq_true c.2]⟩], b⟩
    cases da <;> cases db
    all_goals first | (exfalso; simp at hda; done) | skip
    all_goals
      clear CE CN HA HB H1 H2 hda
      go_wp2_with fail
      go_ret2
      exact FF.out _ S2.out.1
end Go.Proofs.YtjkefcikepnbpaaGreatDoor
