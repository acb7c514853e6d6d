/-
  Texts put together: VCmp2, LHolds, VItoa, LPuL, LFmt, VDl, LFmt2, LGt, LWithin, TnE, LSearch, LDigits, TnF, FRep, TnG.
-/
import Derived.Test.YtonnlimmjelldaaGreatDoorRF
import Derived.Test.YtonnlimmjelldaaGreatDoorVStr
import Derived.Shelf.Strconv.Itoa3
import Derived.Shelf.Pu.ParseUintPublic10
import Derived.Lib.AppendIntMem
import Derived.Shelf.Abstract
import Derived.Test.YtonnlimmjelldaaGreatDoorLNum4
import Derived.Test.YtonnlimmjelldaaGreatDoorVOrd
import Derived.Lib.ItoaNum
import Derived.Deep.LoopGhost
import Derived.Test.YtonnlimmjelldaaGreatDoorRE
import Derived.Test.YtonnlimmjelldaaGreatDoorWalk5a
import Derived.Test.YtonnlimmjelldaaGreatDoorV0
import Derived.Test.YtonnlimmjelldaaGreatDoorNStr
import Derived.Shelf.Strings.Repeat
import Derived.Lib.ItoaLen
namespace Go.Proofs.YtonnlimmjelldaaGreatDoor
open Go Go.RowKit Go.Deep

def Six (wx : World) (g : Nat) (a b : Sc.D) (s t : ByteArray) : Prop := (wx.cell? ⟨g, 0, none⟩ = some (.bool a.neg) ∧ wx.cell? ⟨g, 1, none⟩ = some (.string s) ∧ wx.cell? ⟨g, 2, none⟩ = some (.int .i64 a.e)) ∧ (wx.cell? ⟨g + 1, 0, none⟩ = some (.bool b.neg) ∧ wx.cell? ⟨g + 1, 1, none⟩ = some (.string t) ∧ wx.cell? ⟨g + 1, 2, none⟩ = some (.int .i64 b.e))
/-- The two Decs in their boxes. -/
def C2 (w wx : World) (a b : Sc.D) (s t : ByteArray) : Prop := Two3 w wx (.bool a.neg) (.string s) (.int .i64 a.e) (.bool b.neg) (.string t) (.int .i64 b.e)
theorem C2.six {w wx : World} {a b : Sc.D} {s t : ByteArray} (h : C2 w wx a b s t) : (wx.cell? ⟨w.heap.size, 0, none⟩ = some (.bool a.neg) ∧ wx.cell? ⟨w.heap.size, 1, none⟩ = some (.string s) ∧ wx.cell? ⟨w.heap.size, 2, none⟩ = some (.int .i64 a.e)) ∧ (wx.cell? ⟨w.heap.size + 1, 0, none⟩ = some (.bool b.neg) ∧ wx.cell? ⟨w.heap.size + 1, 1, none⟩ = some (.string t) ∧ wx.cell? ⟨w.heap.size + 1, 2, none⟩ = some (.int .i64 b.e)) := ⟨h.2.1.cells.1, h.2.2.cells.1⟩
theorem C2.on {w wx w' : World} {a b : Sc.D} {s t : ByteArray} (h : C2 w wx a b s t) (k : Below wx.heap.size wx w') : C2 w w' a b s t := Two3.on h k
theorem C2.drew {w wx : World} {a b : Sc.D} {s t : ByteArray} (h : C2 w wx a b s t) : C2 w wx.drew a b s t := Two3.drew h 1

set_option maxRecDepth 100000 in
set_option maxHeartbeats 4000000 in
/-- Behind the two slims: both are Decs, or one is none. -/
theorem vcmp_any (na nb : Bool) (s t : ByteArray) (xs ys : List Int) (ea eb : Int) (w : World) (hs : Str s xs) (ht : Str t ys) (hn : xs.length ≤ 281474976710656) (hm : ys.length ≤ 281474976710656) :
    Calls Tryz.prog 86 #[decV na s ea, decV nb t eb] w fun r w' => r = .returned (.tuple #[.int .i64 (cmpE na xs ea nb ys eb).1, .int .i64 (cmpE na xs ea nb ys eb).2]) ∧ Below w.heap.size w w' := by
  have TA := hid (fun wx => slim_any na s xs ea wx hs hn)
  have TB := hid (fun wx => slim_any nb t ys eb wx ht hm)
  have Z := hid (Two3.new w (.bool na) (.string s) (.int .i64 ea) (.bool nb) (.string t) (.int .i64 eb))
  have bA := nmd_e na xs ea hn
  have bB := nmd_e nb ys eb hm
  have CE : Hid (Sc.IsDec xs ea → Sc.IsDec ys eb → cmpE na xs ea nb ys eb = (Sc.cmpD (nmd na xs ea) (nmd nb ys eb), 0)) := fun c d => by unfold cmpE nmd; rw [if_pos ⟨c, d⟩, if_pos c, if_pos d]
  have CN : Hid (¬ (Sc.IsDec xs ea ∧ Sc.IsDec ys eb) → cmpE na xs ea nb ys eb = (0, 80)) := fun c => by unfold cmpE; rw [if_neg c]
  clear hs ht hn hm
  unfold decV at TA TB ⊢
  obtain ⟨da, hda⟩ : ∃ d, decide (Sc.IsDec xs ea) = d := ⟨_, rfl⟩
  obtain ⟨db, hdb⟩ : ∃ d, decide (Sc.IsDec ys eb) = d := ⟨_, rfl⟩
  have HA := hid hda
  have HB := hid hdb
  clear hda hdb
  go_enter Tryz.func86, Tryz.ntmps86
  go_wp2_with fail
  refine (TA.out _).mono ?_
  rintro r w1 ⟨v, rfl, ⟨s1, hv, hs1⟩, hB⟩
  unfold decV at hv
  subst hv
  rw [HA.out]
  have S := hid ((Z.out.on hB).putA (.bool (nmd na xs ea).neg) (.string s1) (.int .i64 (nmd na xs ea).e))
  obtain ⟨⟨c0, c1, c2⟩, f0, f1, f2⟩ := (Z.out.on hB).2.1.cells
  obtain ⟨⟨d0, d1, d2⟩, g0, g1, g2⟩ := (Z.out.on hB).2.2.cells
  have H1 := hid hs1
  clear hB hs1 Z TA
  go_wp2_with fail
  refine (TB.out _).mono ?_
  rintro r w2 ⟨v, rfl, ⟨t1, hv, ht1⟩, hB⟩
  unfold decV at hv
  subst hv
  rw [HB.out]
  have S2 : Hid (C2 w (((w2.setCell ⟨w.heap.size + 1, 0, none⟩ (.bool (nmd nb ys eb).neg)).setCell ⟨w.heap.size + 1, 1, none⟩ (.string t1)).setCell ⟨w.heap.size + 1, 2, none⟩ (.int .i64 (nmd nb ys eb).e)) (nmd na xs ea) (nmd nb ys eb) s1 t1) := (S.out.on hB).putB (.bool (nmd nb ys eb).neg) (.string t1) (.int .i64 (nmd nb ys eb).e)
  clear c0 c1 c2 f0 f1 f2 d0 d1 d2 g0 g1 g2
  obtain ⟨⟨d0, d1, d2⟩, g0, g1, g2⟩ := (S.out.on hB).2.2.cells
  have H2 := hid ht1
  clear hB ht1 S TB
  by_cases hda : da = true ∧ db = true
  · obtain ⟨rfl, rfl⟩ := hda
    have CE2 := hid (CE.out (of_decide_eq_true HA.out) (of_decide_eq_true HB.out))
    have SA := hid (fun wx => vsign_any (nmd na xs ea) s1 wx H1.out)
    have SB := hid (fun wx => vsign_any (nmd nb ys eb) t1 wx H2.out)
    have SC := hid (fun wx => scompare_any s1 t1 _ _ wx H1.out H2.out)
    have SD := hid (fun wx => scompare_any t1 s1 _ _ wx H2.out H1.out)
    have zA := H1.out.size
    have zB := H2.out.size
    clear CE CN HA HB H1 H2
    generalize nmd na xs ea = A at *
    generalize nmd nb ys eb = B at *
    go_upto_region 5 with fail
    generalize ((w2.setCell ⟨w.heap.size + 1, 0, none⟩ (.bool B.neg)).setCell ⟨w.heap.size + 1, 1, none⟩ (.string t1)).setCell ⟨w.heap.size + 1, 2, none⟩ (.int .i64 B.e) = w3 at *
    clear d0 d1 d2 g0 g1 g2
    have T0 := hid S2.out.drew
    go_region_held3 (fun wx => (wx.cell? ⟨w.heap.size, 0, none⟩ = some (.bool A.neg) ∧ wx.cell? ⟨w.heap.size, 1, none⟩ = some (.string s1) ∧ wx.cell? ⟨w.heap.size, 2, none⟩ = some (.int .i64 A.e)) ∧ (wx.cell? ⟨w.heap.size + 1, 0, none⟩ = some (.bool B.neg) ∧ wx.cell? ⟨w.heap.size + 1, 1, none⟩ = some (.string t1) ∧ wx.cell? ⟨w.heap.size + 1, 2, none⟩ = some (.int .i64 B.e))) (first | (with_reducible exact T2.out.six) | (with_reducible exact T1.out.six) | (with_reducible exact T0.out.six)) (first
      | (go_at_call 121; (first
          | (with_reducible refine (SA.out _).mono ?_; rintro e w5 ⟨rfl, hB⟩; (first | (have T2 := hid (T1.out.on hB); clear hB) | (have T1 := hid (T0.out.on hB); clear hB)))
          | (with_reducible refine (SB.out _).mono ?_; rintro e w5 ⟨rfl, hB⟩; (first | (have T2 := hid (T1.out.on hB); clear hB) | (have T1 := hid (T0.out.on hB); clear hB))))))
    generalize w5 = w4 at *
    by_cases hsg : Sc.sgn A = Sc.sgn B
    · have r0 : (Sc.sgn A != Sc.sgn B) = false := by simpa using hsg
      have r3 : (Sc.sgn A == Sc.sgn B) = true := by simpa using hsg
      have KK0 := hid (cmpD_same hsg)
      clear hsg SA SB T0 T1 S2
      obtain ⟨n, hn⟩ : ∃ n, A.neg = n := ⟨_, rfl⟩
      cases n with
      | true =>
        have KK : Hid (Sc.cmpD A B = Sc.mc B A) := by show _ = _; rw [KK0.out, if_pos hn]
        obtain ⟨⟨c0, c1, c2⟩, f0, f1, f2⟩ := T2.out.2.1.cells
        obtain ⟨⟨c3, c4, c5⟩, f3, f4, f5⟩ := T2.out.2.2.cells
        have T3 : Hid (C2 w ((((((w4.setCell ⟨w.heap.size, 0, none⟩ (.bool B.neg)).setCell ⟨w.heap.size, 1, none⟩ (.string t1)).setCell ⟨w.heap.size, 2, none⟩ (.int .i64 B.e)).setCell ⟨w.heap.size + 1, 0, none⟩ (.bool true)).setCell ⟨w.heap.size + 1, 1, none⟩ (.string s1)).setCell ⟨w.heap.size + 1, 2, none⟩ (.int .i64 A.e)) B A t1 s1) := by
          have := (Two3.putA T2.out (.bool B.neg) (.string t1) (.int .i64 B.e)).putB (.bool A.neg) (.string s1) (.int .i64 A.e)
          rw [hn] at this
          show C2 _ _ _ _ _ _
          unfold C2
          rw [hn]
          exact this
        clear KK0
        go_upto_region 10 with fail
        generalize (((((w4.setCell ⟨w.heap.size, 0, none⟩ (.bool B.neg)).setCell ⟨w.heap.size, 1, none⟩ (.string t1)).setCell ⟨w.heap.size, 2, none⟩ (.int .i64 B.e)).setCell ⟨w.heap.size + 1, 0, none⟩ (.bool true)).setCell ⟨w.heap.size + 1, 1, none⟩ (.string s1)).setCell ⟨w.heap.size + 1, 2, none⟩ (.int .i64 A.e) = wX at *
        clear c0 c1 c2 f0 f1 f2 c3 c4 c5 f3 f4 f5
        obtain ⟨⟨d0, d1, d2⟩, d3, d4, d5⟩ := T3.out.six
        by_cases hp : Sc.pl B = Sc.pl A
        · have r1 : (B.e + (B.ds.length : Int) != A.e + (A.ds.length : Int)) = false := by simpa [Sc.pl] using hp
          have r2 : (B.e + (B.ds.length : Int) == A.e + (A.ds.length : Int)) = true := by simpa [Sc.pl] using hp
          have FF : Hid (∀ w', Below w.heap.size w w' → Ending.returned (.tuple #[.int .i64 (Sc.lex B.ds A.ds), .int .i64 0]) = .returned (.tuple #[.int .i64 (cmpE na xs ea nb ys eb).1, .int .i64 (cmpE na xs ea nb ys eb).2]) ∧ Below w.heap.size w w') := fun w' b => ⟨by rw [CE2.out, KK.out, mc_same hp], b⟩
          clear hp
          go_region
          go_wp2_with fail
          refine (SD.out _).mono ?_
          rintro e w6 ⟨rfl, rfl⟩
          go_wp2_with fail
          go_ret2
          exact FF.out _ (below_drewN T3.out.1 1)
        · have r1 : (B.e + (B.ds.length : Int) != A.e + (A.ds.length : Int)) = true := by simpa [Sc.pl] using hp
          have r2 : (B.e + (B.ds.length : Int) == A.e + (A.ds.length : Int)) = false := by rw [beq_eq_false_iff_ne]; exact hp
          have FF : Hid (∀ w', Below w.heap.size w w' → Ending.returned (.tuple #[.int .i64 (Sc.cmpI (B.e + (B.ds.length : Int)) (A.e + (A.ds.length : Int))), .int .i64 0]) = .returned (.tuple #[.int .i64 (cmpE na xs ea nb ys eb).1, .int .i64 (cmpE na xs ea nb ys eb).2]) ∧ Below w.heap.size w w') := fun w' b => ⟨by rw [CE2.out, KK.out, mc_apart hp]; rfl, b⟩
          clear hp
          go_region
          go_wp2_with fail
          refine (cmpint_any _ _ _).mono ?_
          rintro e w6 ⟨rfl, rfl⟩
          go_wp2_with fail
          go_ret2
          exact FF.out _ (below_drewN T3.out.1 1)
      | false =>
        have KK : Hid (Sc.cmpD A B = Sc.mc A B) := by show _ = _; rw [KK0.out, if_neg (by rw [hn]; simp)]
        clear KK0
        have hn2 := hn
        clear hn
        obtain ⟨⟨d0, d1, d2⟩, d3, d4, d5⟩ := T2.out.six
        by_cases hp : Sc.pl A = Sc.pl B
        · have r1 : (A.e + (A.ds.length : Int) != B.e + (B.ds.length : Int)) = false := by simpa [Sc.pl] using hp
          have r2 : (A.e + (A.ds.length : Int) == B.e + (B.ds.length : Int)) = true := by simpa [Sc.pl] using hp
          have FF : Hid (∀ w', Below w.heap.size w w' → Ending.returned (.tuple #[.int .i64 (Sc.lex A.ds B.ds), .int .i64 0]) = .returned (.tuple #[.int .i64 (cmpE na xs ea nb ys eb).1, .int .i64 (cmpE na xs ea nb ys eb).2]) ∧ Below w.heap.size w w') := fun w' b => ⟨by rw [CE2.out, KK.out, mc_same hp], b⟩
          clear hp
          go_upto_region 10 with fail
          go_region
          go_wp2_with fail
          refine (SC.out _).mono ?_
          rintro e w6 ⟨rfl, rfl⟩
          go_wp2_with fail
          go_ret2
          exact FF.out _ (below_drewN T2.out.1 1)
        · have r1 : (A.e + (A.ds.length : Int) != B.e + (B.ds.length : Int)) = true := by simpa [Sc.pl] using hp
          have r2 : (A.e + (A.ds.length : Int) == B.e + (B.ds.length : Int)) = false := by rw [beq_eq_false_iff_ne]; exact hp
          have FF : Hid (∀ w', Below w.heap.size w w' → Ending.returned (.tuple #[.int .i64 (Sc.cmpI (A.e + (A.ds.length : Int)) (B.e + (B.ds.length : Int))), .int .i64 0]) = .returned (.tuple #[.int .i64 (cmpE na xs ea nb ys eb).1, .int .i64 (cmpE na xs ea nb ys eb).2]) ∧ Below w.heap.size w w') := fun w' b => ⟨by rw [CE2.out, KK.out, mc_apart hp]; rfl, b⟩
          clear hp
          go_upto_region 10 with fail
          go_region
          go_wp2_with fail
          refine (cmpint_any _ _ _).mono ?_
          rintro e w6 ⟨rfl, rfl⟩
          go_wp2_with fail
          go_ret2
          exact FF.out _ (below_drewN T2.out.1 1)
    · have r0 : (Sc.sgn A != Sc.sgn B) = true := by simpa using hsg
      have r3 : (Sc.sgn A == Sc.sgn B) = false := by rw [beq_eq_false_iff_ne]; exact hsg
      have FF : Hid (∀ w', Below w.heap.size w w' → Ending.returned (.tuple #[.int .i64 (Sc.cmpI (Sc.sgn A) (Sc.sgn B)), .int .i64 0]) = .returned (.tuple #[.int .i64 (cmpE na xs ea nb ys eb).1, .int .i64 (cmpE na xs ea nb ys eb).2]) ∧ Below w.heap.size w w') := fun w' b => ⟨by rw [CE2.out, cmpD_apart hsg], b⟩
      clear hsg
      go_wp2_with fail
      refine (cmpint_any _ _ _).mono ?_
      rintro e w6 ⟨rfl, rfl⟩
      go_wp2_with fail
      go_ret2
      exact FF.out _ T2.out.1
  · have FF : Hid (∀ w', Below w.heap.size w w' → Ending.returned (.tuple #[.int .i64 0, .int .i64 80]) = .returned (.tuple #[.int .i64 (cmpE na xs ea nb ys eb).1, .int .i64 (cmpE na xs ea nb ys eb).2]) ∧ Below w.heap.size w w') := fun w' b => ⟨by rw [CN.out fun c => hda ⟨by rw [← HA.out, decide_eq_true c.1], by rw [← HB.out, decide_eq_true c.2]⟩], b⟩
    cases da <;> cases db
    all_goals first | (exfalso; simp at hda; done) | skip
    all_goals
      clear CE CN HA HB H1 H2 hda
      go_wp2_with fail
      go_ret2
      exact FF.out _ S2.out.1
end Go.Proofs.YtonnlimmjelldaaGreatDoor

namespace Go.Proofs.YtonnlimmjelldaaGreatDoor
open Go Go.RowKit Go.Deep

namespace Sh
/-- A Dec in its normal form. -/
structure Nm (d : Sc.D) : Prop where
  dec : Sc.IsDec d.ds d.e
  fix : Sc.nrm d.neg d.ds d.e = d
  len : d.ds.length ≤ 281474976710656

theorem Ok.fix {d : Sc.D} (h : Ok d) : Sc.nrm d.neg d.ds d.e = d := by
  have hd : Digs d.ds := by
    rcases h.form with c | c
    · rw [c.1]; intro x hx; simp at hx; omega
    · exact c.digs
  rw [h.neg, nrm_dd hd h.lo]
  exact h.is.symm
theorem Ok.digs {d : Sc.D} (h : Ok d) : Digs d.ds ∧ d.ds ≠ [] := by
  rcases h.form with c | c
  · rw [c.1]; exact ⟨fun x hx => by simp at hx; omega, by simp⟩
  · exact ⟨c.digs, c.ne⟩
theorem Ok.nm {d : Sc.D} (h : Ok d) (h1 : d.e ≤ 100000) (hl : d.ds.length ≤ 100000) : Nm d := ⟨isdec h.digs.1 h.digs.2 h.lo h1 hl, h.fix, by omega⟩

/-- Whether a decimal lies between two others. -/
def hD (A B x : Sc.D) (c : Bool) : Bool := (decide (Sc.cmpD A x < 0) && decide (Sc.cmpD x B < 0)) || (c && decide (Sc.cmpD A x ≤ 0) && decide (Sc.cmpD x B ≤ 0))
end Sh

set_option maxRecDepth 100000 in
theorem zorder_any (a b : Sc.D) (s t : ByteArray) (w : World) (ha : Sh.Nm a) (hb : Sh.Nm b) (hs : Str s a.ds) (ht : Str t b.ds) :
    Calls Tryz.prog 49 #[.agg #[.bool a.neg, .string s, .int .i64 a.e], .agg #[.bool b.neg, .string t, .int .i64 b.e]] w fun e w' => e = .returned (.int .i64 (Sc.cmpD a b)) ∧ Below w.heap.size w w' := by
  have C := hid (fun wx : World => vcmp_any a.neg b.neg s t a.ds b.ds a.e b.e wx hs ht ha.len hb.len)
  have E : cmpE a.neg a.ds a.e b.neg b.ds b.e = (Sc.cmpD a b, 0) := by rw [cmpE, if_pos ⟨ha.dec, hb.dec⟩, ha.fix, hb.fix]
  rw [E] at C
  unfold decV at C
  have Z := hid (Below.trans (alloc_b w (.cells #[.bool a.neg, .string s, .int .i64 a.e] 28)) ((alloc_b (w.alloc (.cells #[.bool a.neg, .string s, .int .i64 a.e] 28)) (.cells #[.bool b.neg, .string t, .int .i64 b.e] 28)).mono (alloc_b w (.cells #[.bool a.neg, .string s, .int .i64 a.e] 28)).size))
  clear ha hb hs ht E
  generalize Sc.cmpD a b = k at *
  go_enter Tryz.func49, Tryz.ntmps49
  go_wp2_with fail
  refine (C.out _).mono ?_
  rintro e w1 ⟨rfl, hB⟩
  have K := hid (Z.out.trans (hB.mono Z.out.size))
  clear hB C Z
  go_wp2_with fail
  go_ret
  exact ⟨rfl, K.out⟩

set_option maxRecDepth 100000 in
set_option maxHeartbeats 2000000 in
theorem zholds_any (P A B x : Sc.D) (c : Bool) (s1 s2 s3 t : ByteArray) (w : World) (hA : Sh.Nm A) (hB : Sh.Nm B) (hx : Sh.Nm x) (h2 : Str s2 A.ds) (h3 : Str s3 B.ds) (ht : Str t x.ds) :
    Calls Tryz.prog 25 #[spanV P A B s1 s2 s3 c, .agg #[.bool x.neg, .string t, .int .i64 x.e]] w fun e w' => e = .returned (.bool (Sh.hD A B x c)) ∧ Below w.heap.size w w' := by
  have O1 := hid (fun wx : World => zorder_any A x s2 t wx hA hx h2 ht)
  have O2 := hid (fun wx : World => zorder_any x B t s3 wx hx hB ht h3)
  have E : Hid (∀ w', Below w.heap.size w w' → Ending.returned (.bool ((decide (Sc.cmpD A x < 0) && decide (Sc.cmpD x B < 0)) || (c && decide (Sc.cmpD A x ≤ 0) && decide (Sc.cmpD x B ≤ 0)))) = .returned (.bool (Sh.hD A B x c)) ∧ Below w.heap.size w w') := fun w' h => ⟨rfl, h⟩
  clear hA hB hx h2 h3 ht
  unfold spanV
  have a1 := alloc_b w (.cells #[.bool P.neg, .string s1, .int .i64 P.e, .bool A.neg, .string s2, .int .i64 A.e, .bool B.neg, .string s3, .int .i64 B.e, .bool c] 44)
  have r1 := RB.new w 44 #[.bool P.neg, .string s1, .int .i64 P.e, .bool A.neg, .string s2, .int .i64 A.e, .bool B.neg, .string s3, .int .i64 B.e, .bool c]
  generalize hk1 : Sc.cmpD A x = k1 at *
  generalize hk2 : Sc.cmpD x B = k2 at *
  clear hk1 hk2
  go_enter Tryz.func25, Tryz.ntmps25
  go_upto_region 1 with fail
  have a2 := alloc_b (w.alloc (.cells #[.bool P.neg, .string s1, .int .i64 P.e, .bool A.neg, .string s2, .int .i64 A.e, .bool B.neg, .string s3, .int .i64 B.e, .bool c] 44)) (.cells #[.bool x.neg, .string t, .int .i64 x.e] 28)
  have r2 := RB.new (w.alloc (.cells #[.bool P.neg, .string s1, .int .i64 P.e, .bool A.neg, .string s2, .int .i64 A.e, .bool B.neg, .string s3, .int .i64 B.e, .bool c] 44)) 28 #[.bool x.neg, .string t, .int .i64 x.e]
  have r1' := r1.below a2 r1.lt
  have sz : (w.alloc (.cells #[.bool P.neg, .string s1, .int .i64 P.e, .bool A.neg, .string s2, .int .i64 A.e, .bool B.neg, .string s3, .int .i64 B.e, .bool c] 44)).heap.size = w.heap.size + 1 := Array.size_push ..
  rw [sz] at r2
  obtain ⟨SS, KS, CS, BS, MS⟩ := state (fun w' => RB w' w.heap.size 44 #[.bool P.neg, .string s1, .int .i64 P.e, .bool A.neg, .string s2, .int .i64 A.e, .bool B.neg, .string s3, .int .i64 B.e, .bool c] ∧ RB w' (w.heap.size + 1) 28 #[.bool x.neg, .string t, .int .i64 x.e]) w
    (Stays.and (fun _ _ g hB => RB.below g hB (RB.lt g)) (fun _ _ g hB => RB.below g hB (RB.lt g)))
  have S0 := hid (MS.out _ ⟨r1', r2⟩ (a1.trans (a2.mono a1.size)))
  clear a1 a2 r1 r2 r1' sz MS
  generalize (w.alloc (.cells #[.bool P.neg, .string s1, .int .i64 P.e, .bool A.neg, .string s2, .int .i64 A.e, .bool B.neg, .string s3, .int .i64 B.e, .bool c] 44)).alloc (.cells #[.bool x.neg, .string t, .int .i64 x.e] 28) = wL at *
  have FT : Hid (∀ wx : World, SS wx → (((wx.cell? ⟨w.heap.size, 3, none⟩ = some (.bool A.neg) ∧ wx.cell? ⟨w.heap.size, 4, none⟩ = some (.string s2) ∧ wx.cell? ⟨w.heap.size, 5, none⟩ = some (.int .i64 A.e)) ∧ (wx.cell? ⟨w.heap.size, 6, none⟩ = some (.bool B.neg) ∧ wx.cell? ⟨w.heap.size, 7, none⟩ = some (.string s3) ∧ wx.cell? ⟨w.heap.size, 8, none⟩ = some (.int .i64 B.e)) ∧ wx.cell? ⟨w.heap.size, 9, none⟩ = some (.bool c)) ∧ (wx.cell? ⟨w.heap.size + 1, 0, none⟩ = some (.bool x.neg) ∧ wx.cell? ⟨w.heap.size + 1, 1, none⟩ = some (.string t) ∧ wx.cell? ⟨w.heap.size + 1, 2, none⟩ = some (.int .i64 x.e)))) :=
    fun wx h => ⟨⟨⟨(CS.out wx h).1.cell 3 _ rfl, (CS.out wx h).1.cell 4 _ rfl, (CS.out wx h).1.cell 5 _ rfl⟩, ⟨(CS.out wx h).1.cell 6 _ rfl, (CS.out wx h).1.cell 7 _ rfl, (CS.out wx h).1.cell 8 _ rfl⟩, (CS.out wx h).1.cell 9 _ rfl⟩, ⟨(CS.out wx h).2.cell 0 _ rfl, (CS.out wx h).2.cell 1 _ rfl, (CS.out wx h).2.cell 2 _ rfl⟩⟩
  have T0 := hid (KS.out _ _ S0.out (drew_nil _))
  clear S0 CS
  go_region_held3 (fun wx => ((wx.cell? ⟨w.heap.size, 3, none⟩ = some (.bool A.neg) ∧ wx.cell? ⟨w.heap.size, 4, none⟩ = some (.string s2) ∧ wx.cell? ⟨w.heap.size, 5, none⟩ = some (.int .i64 A.e)) ∧ (wx.cell? ⟨w.heap.size, 6, none⟩ = some (.bool B.neg) ∧ wx.cell? ⟨w.heap.size, 7, none⟩ = some (.string s3) ∧ wx.cell? ⟨w.heap.size, 8, none⟩ = some (.int .i64 B.e)) ∧ wx.cell? ⟨w.heap.size, 9, none⟩ = some (.bool c)) ∧ (wx.cell? ⟨w.heap.size + 1, 0, none⟩ = some (.bool x.neg) ∧ wx.cell? ⟨w.heap.size + 1, 1, none⟩ = some (.string t) ∧ wx.cell? ⟨w.heap.size + 1, 2, none⟩ = some (.int .i64 x.e))) (first | (with_reducible exact FT.out _ T2.out) | (with_reducible exact FT.out _ T1.out) | (with_reducible exact FT.out _ T0.out)) (first
    | (go_at_call 49; (first
      | (with_reducible refine (O1.out _).mono ?_; rintro e w5 ⟨rfl, hB⟩; (first | (have T2 := hid (KS.out _ _ T1.out hB); clear hB) | (have T1 := hid (KS.out _ _ T0.out hB); clear hB)))
      | (with_reducible refine (O2.out _).mono ?_; rintro e w5 ⟨rfl, hB⟩; (first | (have T2 := hid (KS.out _ _ T1.out hB); clear hB) | (have T1 := hid (KS.out _ _ T0.out hB); clear hB))))))
  have K := hid (E.out _ (BS.out _ T2.out))
  obtain ⟨⟨-, -, c9⟩, -⟩ := FT.out _ T2.out
  clear E BS T0 T1 T2 FT KS O1 O2
  cases c
  · go_wp2_with fail
    all_goals go_ret
    all_goals
      refine ⟨(show Ending.returned (Value.bool _) = Ending.returned (Value.bool _) from congrArg (fun b => Ending.returned (Value.bool b)) ?_).trans K.out.1, K.out.2⟩
      rw [Bool.eq_iff_iff]
      simp
      try omega
  · go_wp2_with fail
    all_goals go_ret
    all_goals
      refine ⟨(show Ending.returned (Value.bool _) = Ending.returned (Value.bool _) from congrArg (fun b => Ending.returned (Value.bool b)) ?_).trans K.out.1, K.out.2⟩
      rw [Bool.eq_iff_iff]
      simp
      try omega
end Go.Proofs.YtonnlimmjelldaaGreatDoor

namespace Go.Proofs.YtonnlimmjelldaaGreatDoor
open Go Go.RowKit Go.Deep Go.Shelf

def itoaLays_ren : Go.Shelf.Ren := ⟨fun | 171 => 72 | 243 => 99 | 246 => 139 | 283 => 114 | 284 => 115 | 285 => 116 | 286 => 117 | 129 => 140 | 317 => 148 | 318 => 149 | 319 => 150 | 320 => 151 | 337 => 172 | 338 => 173 | n => n, fun | 3 => 3 | 9 => 9 | 2 => 2 | 4 => 4 | 171 => 122 | 0 => 0 | 53 => 26 | 37 => 117 | 5 => 5 | 173 => 124 | 212 => 157 | 51 => 158 | 20 => 20 | 213 => 159 | 46 => 70 | 232 => 194 | 233 => 195 | n => n, fun | 17 => 2 | 18 => 4 | 19 => 5 | n => n⟩
theorem itoaLays : Go.Proofs.LaysM.n171 Tryz.prog itoaLays_ren := {
  mixed := by kernel_rfl
  f129 := Tryz.func140.trans (congrArg some (by kernel_rfl))
  f171 := Tryz.func72.trans (congrArg some (by kernel_rfl))
  f243 := Tryz.func99.trans (congrArg some (by kernel_rfl))
  f246 := Tryz.func139.trans (congrArg some (by kernel_rfl))
  f283 := Tryz.func114.trans (congrArg some (by kernel_rfl))
  f284 := Tryz.func115.trans (congrArg some (by kernel_rfl))
  f285 := Tryz.func116.trans (congrArg some (by kernel_rfl))
  f286 := Tryz.func117.trans (congrArg some (by kernel_rfl))
  f317 := Tryz.func148.trans (congrArg some (by kernel_rfl))
  f318 := Tryz.func149.trans (congrArg some (by kernel_rfl))
  f319 := Tryz.func150.trans (congrArg some (by kernel_rfl))
  f320 := Tryz.func151.trans (congrArg some (by kernel_rfl))
  f337 := Tryz.func172.trans (congrArg some (by kernel_rfl))
  f338 := Tryz.func173.trans (congrArg some (by kernel_rfl))
  t0 := Tryz.underlying0
  a0 := Tryz.isAgg0
  z0 := Tryz.sizeOf0
  v0 := Tryz.zeroValue0
  t2 := Tryz.underlying2
  a2 := Tryz.isAgg2
  z2 := Tryz.sizeOf2
  v2 := Tryz.zeroValue2
  t3 := Tryz.underlying3
  a3 := Tryz.isAgg3
  z3 := Tryz.sizeOf3
  v3 := Tryz.zeroValue3
  t4 := Tryz.underlying4
  a4 := Tryz.isAgg4
  z4 := Tryz.sizeOf4
  v4 := Tryz.zeroValue4
  t5 := Tryz.underlying5
  a5 := Tryz.isAgg5
  z5 := Tryz.sizeOf5
  v5 := Tryz.zeroValue5
  t9 := Tryz.underlying9
  a9 := Tryz.isAgg9
  z9 := Tryz.sizeOf9
  v9 := Tryz.zeroValue9
  t20 := Tryz.underlying20
  a20 := Tryz.isAgg20
  z20 := Tryz.sizeOf20
  v20 := Tryz.zeroValue20
  t37 := Tryz.underlying117
  a37 := Tryz.isAgg117
  z37 := Tryz.sizeOf117
  v37 := Tryz.zeroValue117
  t46 := Tryz.underlying70
  a46 := Tryz.isAgg70
  z46 := Tryz.sizeOf70
  v46 := Tryz.zeroValue70
  t51 := Tryz.underlying158
  a51 := Tryz.isAgg158
  z51 := Tryz.sizeOf158
  v51 := Tryz.zeroValue158
  t53 := Tryz.underlying26
  a53 := Tryz.isAgg26
  z53 := Tryz.sizeOf26
  v53 := Tryz.zeroValue26
  t171 := Tryz.underlying122
  a171 := Tryz.isAgg122
  z171 := Tryz.sizeOf122
  v171 := Tryz.zeroValue122
  t173 := Tryz.underlying124
  a173 := Tryz.isAgg124
  z173 := Tryz.sizeOf124
  v173 := Tryz.zeroValue124
  t212 := Tryz.underlying157
  a212 := Tryz.isAgg157
  z212 := Tryz.sizeOf157
  v212 := Tryz.zeroValue157
  t213 := Tryz.underlying159
  a213 := Tryz.isAgg159
  z213 := Tryz.sizeOf159
  t232 := Tryz.underlying194
  a232 := Tryz.isAgg194
  z232 := Tryz.sizeOf194
  v232 := Tryz.zeroValue194
  t233 := Tryz.underlying195
  a233 := Tryz.isAgg195
  z233 := Tryz.sizeOf195
  v233 := Tryz.zeroValue195
  g17 := by kernel_rfl
  g18 := by kernel_rfl
  g19 := by kernel_rfl
  i0 := by kernel_rfl
  i2 := by kernel_rfl
  i3 := by kernel_rfl
  i4 := by kernel_rfl
  i5 := by kernel_rfl
  i9 := by kernel_rfl
  i20 := by kernel_rfl
  i37 := by kernel_rfl
  i46 := by kernel_rfl
  i51 := by kernel_rfl
  i53 := by kernel_rfl
  i171 := by kernel_rfl
  i173 := by kernel_rfl
  i212 := by kernel_rfl
  i232 := by kernel_rfl
  i233 := by kernel_rfl
  m17 := by kernel_rfl
  m18 := by kernel_rfl
  m19 := by kernel_rfl }

/-- The table of powers of ten lies as the text lays it. -/
def Tab10 (w : World) : Prop := Lib.TabIs Tryz.prog w "internal/strconv.uint64pow10" .u64 Lib.pow10Tab

def itl (n : Int) : List Int := (Lib.itoa n).map fun b => (b.toNat : Int)
theorem itl_str (n : Int) : Str ⟨(Lib.itoa n).toArray⟩ (itl n) := rfl

theorem below_grown {w : World} (k : Nat) (os : Array Obj) : Below w.heap.size w (Go.Sort.grow (w.drewN k) os) := by
  refine ⟨rfl, rfl, rfl, ?_, fun j hj => ?_⟩
  · show w.heap.size ≤ (w.heap ++ os).size
    simp
  · show (w.heap ++ os)[j]? = w.heap[j]?
    rw [Array.getElem?_append_left hj]

theorem itoa_any (n : Int) (w : World) (h0 : -9223372036854775808 ≤ n) (h1 : n ≤ 9223372036854775807) (ht : Tab10 w) :
    Calls Tryz.prog 72 #[.int .i64 n] w fun e w' => e = .returned (.string ⟨(Lib.itoa n).toArray⟩) ∧ Below w.heap.size w w' := by
  refine (Any.strconv_Itoa itoaLays n h0 h1 w ht).mono ?_
  rintro e w' ⟨rfl, k, os, rfl⟩
  exact ⟨rfl, below_grown k os⟩
end Go.Proofs.YtonnlimmjelldaaGreatDoor

namespace Go.Proofs.YtonnlimmjelldaaGreatDoor
open Go Go.RowKit Go.Deep Go.Shelf

def puLays_ren : Go.Shelf.Ren := ⟨fun | 14 => 44 | 16 => 80 | 17 => 81 | 19 => 108 | 20 => 109 | 21 => 110 | 22 => 111 | 23 => 112 | 24 => 113 | 25 => 120 | 27 => 72 | 26 => 147 | 28 => 99 | 29 => 139 | 30 => 114 | 31 => 115 | 32 => 116 | 33 => 117 | 35 => 140 | 34 => 148 | 36 => 149 | 37 => 150 | 38 => 151 | 39 => 172 | 40 => 173 | n => n, fun | 9 => 9 | 3 => 3 | 22 => 26 | 24 => 72 | 25 => 73 | 4 => 4 | 34 => 115 | 5 => 5 | 36 => 70 | 37 => 117 | 0 => 0 | 39 => 119 | 21 => 21 | 44 => 153 | 47 => 168 | 50 => 178 | 48 => 176 | 2 => 2 | 52 => 122 | 55 => 124 | 59 => 157 | 60 => 158 | 20 => 20 | 61 => 159 | 65 => 194 | 66 => 195 | 67 => 140 | n => n, fun | 0 => 0 | 1 => 1 | 2 => 2 | 3 => 4 | 4 => 5 | n => n⟩
theorem puLays : Go.Proofs.LaysPu.n14 Tryz.prog puLays_ren := {
  mixed := by kernel_rfl
  f14 := Tryz.func44.trans (congrArg some (by kernel_rfl))
  f16 := Tryz.func80.trans (congrArg some (by kernel_rfl))
  f17 := Tryz.func81.trans (congrArg some (by kernel_rfl))
  f19 := Tryz.func108.trans (congrArg some (by kernel_rfl))
  f20 := Tryz.func109.trans (congrArg some (by kernel_rfl))
  f21 := Tryz.func110.trans (congrArg some (by kernel_rfl))
  f22 := Tryz.func111.trans (congrArg some (by kernel_rfl))
  f23 := Tryz.func112.trans (congrArg some (by kernel_rfl))
  f24 := Tryz.func113.trans (congrArg some (by kernel_rfl))
  f25 := Tryz.func120.trans (congrArg some (by kernel_rfl))
  f26 := Tryz.func147.trans (congrArg some (by kernel_rfl))
  f27 := Tryz.func72.trans (congrArg some (by kernel_rfl))
  f28 := Tryz.func99.trans (congrArg some (by kernel_rfl))
  f29 := Tryz.func139.trans (congrArg some (by kernel_rfl))
  f30 := Tryz.func114.trans (congrArg some (by kernel_rfl))
  f31 := Tryz.func115.trans (congrArg some (by kernel_rfl))
  f32 := Tryz.func116.trans (congrArg some (by kernel_rfl))
  f33 := Tryz.func117.trans (congrArg some (by kernel_rfl))
  f34 := Tryz.func148.trans (congrArg some (by kernel_rfl))
  f35 := Tryz.func140.trans (congrArg some (by kernel_rfl))
  f36 := Tryz.func149.trans (congrArg some (by kernel_rfl))
  f37 := Tryz.func150.trans (congrArg some (by kernel_rfl))
  f38 := Tryz.func151.trans (congrArg some (by kernel_rfl))
  f39 := Tryz.func172.trans (congrArg some (by kernel_rfl))
  f40 := Tryz.func173.trans (congrArg some (by kernel_rfl))
  t0 := Tryz.underlying0
  a0 := Tryz.isAgg0
  z0 := Tryz.sizeOf0
  v0 := Tryz.zeroValue0
  i0 := by kernel_rfl
  t2 := Tryz.underlying2
  a2 := Tryz.isAgg2
  z2 := Tryz.sizeOf2
  v2 := Tryz.zeroValue2
  i2 := by kernel_rfl
  t3 := Tryz.underlying3
  a3 := Tryz.isAgg3
  z3 := Tryz.sizeOf3
  v3 := Tryz.zeroValue3
  i3 := by kernel_rfl
  t4 := Tryz.underlying4
  a4 := Tryz.isAgg4
  z4 := Tryz.sizeOf4
  v4 := Tryz.zeroValue4
  i4 := by kernel_rfl
  t5 := Tryz.underlying5
  a5 := Tryz.isAgg5
  z5 := Tryz.sizeOf5
  v5 := Tryz.zeroValue5
  i5 := by kernel_rfl
  t9 := Tryz.underlying9
  a9 := Tryz.isAgg9
  z9 := Tryz.sizeOf9
  v9 := Tryz.zeroValue9
  i9 := by kernel_rfl
  t20 := Tryz.underlying20
  a20 := Tryz.isAgg20
  z20 := Tryz.sizeOf20
  v20 := Tryz.zeroValue20
  i20 := by kernel_rfl
  t21 := Tryz.underlying21
  a21 := Tryz.isAgg21
  z21 := Tryz.sizeOf21
  v21 := Tryz.zeroValue21
  i21 := by kernel_rfl
  t22 := Tryz.underlying26
  a22 := Tryz.isAgg26
  z22 := Tryz.sizeOf26
  v22 := Tryz.zeroValue26
  i22 := by kernel_rfl
  t24 := Tryz.underlying72
  a24 := Tryz.isAgg72
  z24 := Tryz.sizeOf72
  v24 := Tryz.zeroValue72
  i24 := by kernel_rfl
  t25 := Tryz.underlying73
  a25 := Tryz.isAgg73
  z25 := Tryz.sizeOf73
  v25 := Tryz.zeroValue73
  i25 := by kernel_rfl
  t34 := Tryz.underlying115
  a34 := Tryz.isAgg115
  z34 := Tryz.sizeOf115
  v34 := Tryz.zeroValue115
  i34 := by kernel_rfl
  c34 := by kernel_rfl
  t36 := Tryz.underlying70
  a36 := Tryz.isAgg70
  z36 := Tryz.sizeOf70
  v36 := Tryz.zeroValue70
  i36 := by kernel_rfl
  t37 := Tryz.underlying117
  a37 := Tryz.isAgg117
  z37 := Tryz.sizeOf117
  v37 := Tryz.zeroValue117
  i37 := by kernel_rfl
  t39 := Tryz.underlying119
  a39 := Tryz.isAgg119
  z39 := Tryz.sizeOf119
  v39 := Tryz.zeroValue119
  i39 := by kernel_rfl
  t44 := Tryz.underlying153
  a44 := Tryz.isAgg153
  z44 := Tryz.sizeOf153
  v44 := Tryz.zeroValue153
  i44 := by kernel_rfl
  t47 := Tryz.underlying168
  a47 := Tryz.isAgg168
  z47 := Tryz.sizeOf168
  v47 := Tryz.zeroValue168
  i47 := by kernel_rfl
  t48 := Tryz.underlying176
  a48 := Tryz.isAgg176
  z48 := Tryz.sizeOf176
  v48 := Tryz.zeroValue176
  i48 := by kernel_rfl
  t50 := Tryz.underlying178
  a50 := Tryz.isAgg178
  z50 := Tryz.sizeOf178
  v50 := Tryz.zeroValue178
  i50 := by kernel_rfl
  t52 := Tryz.underlying122
  a52 := Tryz.isAgg122
  z52 := Tryz.sizeOf122
  v52 := Tryz.zeroValue122
  i52 := by kernel_rfl
  t55 := Tryz.underlying124
  a55 := Tryz.isAgg124
  z55 := Tryz.sizeOf124
  v55 := Tryz.zeroValue124
  i55 := by kernel_rfl
  t59 := Tryz.underlying157
  a59 := Tryz.isAgg157
  z59 := Tryz.sizeOf157
  v59 := Tryz.zeroValue157
  i59 := by kernel_rfl
  t60 := Tryz.underlying158
  a60 := Tryz.isAgg158
  z60 := Tryz.sizeOf158
  v60 := Tryz.zeroValue158
  i60 := by kernel_rfl
  t61 := Tryz.underlying159
  a61 := Tryz.isAgg159
  z61 := Tryz.sizeOf159
  t65 := Tryz.underlying194
  a65 := Tryz.isAgg194
  z65 := Tryz.sizeOf194
  v65 := Tryz.zeroValue194
  i65 := by kernel_rfl
  t66 := Tryz.underlying195
  a66 := Tryz.isAgg195
  z66 := Tryz.sizeOf195
  v66 := Tryz.zeroValue195
  i66 := by kernel_rfl
  t67 := Tryz.underlying140
  a67 := Tryz.isAgg140
  z67 := Tryz.sizeOf140
  v67 := Tryz.zeroValue140
  i67 := by kernel_rfl
  g0 := by kernel_rfl
  m0 := by kernel_rfl
  g1 := by kernel_rfl
  m1 := by kernel_rfl
  g2 := by kernel_rfl
  m2 := by kernel_rfl
  g3 := by kernel_rfl
  m3 := by kernel_rfl
  g4 := by kernel_rfl
  m4 := by kernel_rfl }
end Go.Proofs.YtonnlimmjelldaaGreatDoor

namespace Go.Proofs.YtonnlimmjelldaaGreatDoor
open Go Go.RowKit Go.Deep Go.Shelf Go.Sort

set_option maxRecDepth 100000 in
set_option maxHeartbeats 4000000 in
theorem zfmtI_any (u : Nat) (w : World) (hu64 : u < 18446744073709551616) (htab : Tab10 w) :
    Calls Tryz.prog 82 #[.int .u64 u, .int .i64 10] w fun e w' => e = .returned (.string ⟨(Lib.decDigits u).toArray⟩) ∧ Below w.heap.size w w' := by
  have e283 : ∀ args w, (callFunc 114 args).run Tryz.prog w = .ok (.enter 114 args) w := enters_of Tryz.func114 (by kernel_rfl) rfl
  have e284 : ∀ args w, (callFunc 115 args).run Tryz.prog w = .ok (.enter 115 args) w := enters_of Tryz.func115 (by kernel_rfl) rfl
  have e285 : ∀ args w, (callFunc 116 args).run Tryz.prog w = .ok (.enter 116 args) w := enters_of Tryz.func116 (by kernel_rfl) rfl
  by_cases hs : u < 100
  · have SM := Any.internal_strconv_small { itoaLays with } u hs w
    change Calls Tryz.prog 114 _ _ _ at SM
    have hs2 : (u : Int) < 100 := by omega
    go_enter Tryz.func82, Tryz.ntmps82
    go_wp2_with (go_at_fn 114; refine SM.mono ?_; rintro e w' ⟨rfl, rfl⟩)
    go_ret
    exact ⟨rfl, Below.refl _ _⟩
  · have hu1 : 1 ≤ u := by omega
    have hs2 : ¬ (u : Int) < 100 := by omega
    have hnd20 : Lib.nDigits u ≤ 20 := by have := Lib.numDigits_eq u hu1 hu64; split at this <;> omega
    have hb3 : Lib.nDigits u ≤ 23 := by omega
    have hal : Tryz.prog.arrayLen 122 = 24 := by simp [Program.arrayLen, Tryz.underlying122]
    have hsl : ∀ W, (Instr.sliceAt 122 (.pointer (some ⟨w.heap.size, 0, none⟩)) none (some (.int .i64 (Lib.nDigits u : Int))) none).run Tryz.prog W = .ok (.slice (some ⟨w.heap.size, 0, none⟩) (Lib.nDigits u) 24) W := fun W => by
      rw [run_sliceAt_array_h W 122 ⟨w.heap.size, 0, none⟩ (by simp [Program.arrayLen, Program.elem, Tryz.underlying122]) .i64 (Lib.nDigits u : Int) (by omega) (by rw [hal]; omega)]
      go_simp
    have hH0 := Lib.holds_zero0 w 122 (Lib.nDigits u) (by omega)
    have hfmt := Any.internal_strconv_formatBase10 { itoaLays with } w.heap.size 0 24 u (Array.replicate (Lib.nDigits u) 0) (w.alloc (.cells Lib.zeros24 122)) hH0 (by rw [Array.size_replicate]; exact Lib.lt_pow_nDigits u) hu64 (by rw [Array.size_replicate]; omega)
    rw [Array.size_replicate] at hfmt
    change Calls Tryz.prog 116 _ _ _ at hfmt
    have ND := Any.internal_strconv_numDigits { itoaLays with } u hu1 hu64 _ (Lib.tabIs_alloc htab (.cells Lib.zeros24 122))
    change Calls Tryz.prog 115 _ _ _ at ND
    have HH0 := Lib.hid hH0
    clear hH0 hal
    go_enter Tryz.func82, Tryz.ntmps82
    go_wp2_with (first
      | (go_at_fn 115; refine ND.mono ?_; rintro e w' ⟨rfl, rfl⟩))
    go_at_fn 116
    refine hfmt.mono ?_
    rintro e w' ⟨rfl, k, v', dk, rfl, hF⟩
    have hcv : (convert 117 9 (.slice (some ⟨w.heap.size, 0, none⟩) (Lib.nDigits u) 24)).run Tryz.prog ((putRow (fun (b : UInt8) => Value.int .u8 (b.toNat : Int)) (w.alloc (.cells Lib.zeros24 122)) w.heap.size 0 dk).drewN k) = .ok (.string ⟨(Lib.decDigits u).toArray⟩) ((putRow (fun (b : UInt8) => Value.int .u8 (b.toNat : Int)) (w.alloc (.cells Lib.zeros24 122)) w.heap.size 0 dk).drewN k) := by
      have h := run_convert_bytes_back (P := Tryz.prog) ((putRow (fun (b : UInt8) => Value.int .u8 (b.toNat : Int)) (w.alloc (.cells Lib.zeros24 122)) w.heap.size 0 dk).drewN k) 117 9 5 ⟨w.heap.size, 0, none⟩ 24 (Lib.decDigits u) Tryz.underlying117 Tryz.underlying5 Tryz.underlying9 (fun j hj => by
        rw [Lib.row_is_numeral hF j hj, Lib.add_plain, World.cell?_drewN]
        exact cell?_putRow (fun (b : UInt8) => Value.int .u8 (b.toNat : Int)) _ w.heap.size 0 _ dk HH0.out (by rw [hF.size, Array.size_replicate]) j (by rw [hF.size]; rw [Lib.decDigits_length] at hj; exact hj))
      rw [Lib.decDigits_length] at h
      exact h
    go_wp2
    go_ret
    obtain ⟨os, eo⟩ := Lib.fin_at w (.cells Lib.zeros24 122) dk k 0
    exact ⟨rfl, by rw [eo]; exact below_grown k os⟩
end Go.Proofs.YtonnlimmjelldaaGreatDoor

namespace Go.Proofs.YtonnlimmjelldaaGreatDoor
namespace Sc

/-- A number's digits, as bytes. -/
def dl (u : Nat) : List Int := (Lib.decDigits u).map fun b => (b.toNat : Int)
theorem dl_small {u : Nat} (h : u < 10) : dl u = [48 + (u : Int)] := by
  unfold dl
  rw [Lib.decDigits_one h]
  simp only [List.map_cons, List.map_nil]
  rw [UInt8.toNat_ofNat_of_lt' (by show 48 + u < 256; omega)]
  simp
theorem dl_big {u : Nat} (h : ¬ u < 10) : dl u = dl (u / 10) ++ [48 + ((u % 10 : Nat) : Int)] := by
  unfold dl
  rw [Lib.decDigits, dif_neg h, List.map_append]
  simp only [List.map_cons, List.map_nil]
  rw [UInt8.toNat_ofNat_of_lt' (by show 48 + u % 10 < 256; omega)]
  simp
theorem dl_is (u : Nat) : (∀ x ∈ dl u, dg x = true) ∧ dl u ≠ [] ∧ cap (dl u) = min (u : Int) 1000000000000000 := by
  induction u using Nat.strongRecOn with
  | _ u ih =>
    by_cases h : u < 10
    · rw [dl_small h]
      refine ⟨fun x hx => ?_, by simp, ?_⟩
      · rw [List.mem_singleton] at hx; subst hx; rw [dg_iff]; omega
      · have := cap_snoc [] (48 + (u : Int))
        rw [List.nil_append, cap_nil] at this
        rw [this]; omega
    · obtain ⟨h1, h2, h3⟩ := ih (u / 10) (by omega)
      rw [dl_big h]
      refine ⟨fun x hx => ?_, by simp, ?_⟩
      · rw [List.mem_append, List.mem_singleton] at hx
        rcases hx with hx | hx
        · exact h1 x hx
        · subst hx; rw [dg_iff]; omega
      · rw [cap_snoc, h3]; omega

theorem run_app {p : Int → Bool} (hp : p 0 = false) {as' bs cs : List Int} (h1 : ∀ x ∈ bs, p x = true) (h2 : p (pk cs 0) = false) : run p (as' ++ bs ++ cs) as'.length = bs.length := by
  apply run_is hp
  · intro j hj
    rw [pk_append, if_pos (by simp; omega), pk_append, if_neg (by omega), show as'.length + j - as'.length = j by omega]
    apply h1
    simp [pk, List.getD, hj]
  · rw [pk_append, if_neg (by simp), show as'.length + bs.length - (as' ++ bs).length = 0 by simp]
    exact h2
theorem take_app {as' bs cs : List Int} : ((as' ++ bs ++ cs).drop as'.length).take bs.length = bs := by
  rw [List.append_assoc, List.drop_left, List.take_left]

/-- Digits that are there, all digits. -/
def Dig (ds : List Int) : Prop := ds ≠ [] ∧ ∀ x ∈ ds, dg x = true
theorem Dig.pk0 {ds : List Int} (h : Dig ds) : dg (pk ds 0) = true := by
  obtain ⟨h1, h2⟩ := h
  cases ds with
  | nil => exact absurd rfl h1
  | cons x l => exact h2 x (by simp)

end Sc
end Go.Proofs.YtonnlimmjelldaaGreatDoor

namespace Go.Proofs.YtonnlimmjelldaaGreatDoor
open Go Go.RowKit Go.Deep Go.Shelf

theorem tab10_below {w w' : World} (h : Tab10 w) (k : Below w.heap.size w w') : Tab10 w' := by
  unfold Tab10 Lib.TabIs World.var? at *
  cases hg : Tryz.prog.globalNamed "internal/strconv.uint64pow10" with
  | none => rw [hg] at h; simp at h
  | some g =>
    rw [hg] at h
    simp only [Option.bind_some] at h ⊢
    have hl : g < w.heap.size := by
      rcases Nat.lt_or_ge g w.heap.size with c | c
      · exact c
      · rw [Array.getElem?_eq_none c] at h; simp at h
    rw [k.block g hl]; exact h
theorem dl_dv (u : Nat) : Digs (Sc.dl u) ∧ Sc.dl u ≠ [] ∧ dv (Sc.dl u) = (u : Int) := by
  refine ⟨fun x hx => Sc.dg_iff.1 ((Sc.dl_is u).1 x hx), (Sc.dl_is u).2.1, ?_⟩
  induction u using Nat.strongRecOn with
  | _ u ih =>
    by_cases h : u < 10
    · rw [Sc.dl_small h, dv_cons]
      simp [show dv [] = 0 from rfl]
      omega
    · rw [Sc.dl_big h, Fx.dv_snoc, ih (u / 10) (by omega)]
      omega
theorem dl_len {u : Nat} (h : u < 18446744073709551616) : (Sc.dl u).length ≤ 21 := by
  unfold Sc.dl
  rw [List.length_map, Lib.decDigits_length]
  rcases Nat.eq_zero_or_pos u with c | c
  · rw [Lib.nDigits_small (by omega)]; omega
  · have := Lib.numDigits_eq u c h
    split at this <;> omega

set_option maxRecDepth 100000 in
theorem zfmt_any (u : Nat) (w : World) (hu64 : u < 18446744073709551616) (htab : Tab10 w) :
    Calls Tryz.prog 46 #[.int .u64 u, .int .i64 10] w fun e w' => ∃ s, e = .returned (.string s) ∧ Hid (Str s (Sc.dl u)) ∧ Below w.heap.size w w' := by
  have F := hid (zfmtI_any u w hu64 htab)
  have K : Hid (Str ⟨(Lib.decDigits u).toArray⟩ (Sc.dl u)) := rfl
  clear hu64 htab
  generalize (⟨(Lib.decDigits u).toArray⟩ : ByteArray) = s at *
  go_enter Tryz.func46, Tryz.ntmps46
  go_wp2_with fail
  refine F.out.mono ?_
  rintro e w' ⟨rfl, hB⟩
  have HB := hid hB
  clear hB F
  go_wp2_with fail
  go_ret
  exact ⟨s, rfl, K, HB.out⟩

theorem parseM {M : Nat} {L : Int} (hL : L = 1000000000000000000) (hM : 1000000000000000000 ≤ M) (l : List UInt8) : ∀ (acc : Nat), (∀ x ∈ l, 48 ≤ x.toNat ∧ x.toNat ≤ 57) → (acc : Int) * 10 ^ l.length + dv (l.map fun b => (b.toNat : Int)) < L →
    ∃ u : Nat, (u : Int) = (acc : Int) * 10 ^ l.length + dv (l.map fun b => (b.toNat : Int)) ∧ Lib.parseUintM M acc l = .ok u := by
  induction l with
  | nil => intro acc _ _; exact ⟨acc, by rw [List.map_nil, show dv [] = 0 from rfl]; simp, rfl⟩
  | cons c r ih =>
    intro acc h hb
    have hc := h c (by simp)
    have hr : ∀ x ∈ r, 48 ≤ x.toNat ∧ x.toNat ≤ 57 := fun x hx => h x (by simp [hx])
    have dg : Digs (r.map fun b => (b.toNat : Int)) := by
      intro d hd
      obtain ⟨x, hx, rfl⟩ := List.mem_map.1 hd
      have := hr x hx
      omega
    have nn := (dv_bd dg).1
    have e : (acc : Int) * 10 ^ (c :: r).length + dv ((c :: r).map fun b => (b.toNat : Int)) = ((acc * 10 + (c.toNat - 48) : Nat) : Int) * 10 ^ r.length + dv (r.map fun b => (b.toNat : Int)) := by
      rw [List.map_cons, dv_cons, List.length_map, List.length_cons, Int.pow_succ]
      have : ((acc * 10 + (c.toNat - 48) : Nat) : Int) = (acc : Int) * 10 + ((c.toNat : Int) - 48) := by omega
      rw [this, Int.add_mul, Int.mul_assoc, Int.mul_comm 10 ((10 : Int) ^ r.length)]
      omega
    rw [e] at hb ⊢
    have p1 : (1 : Int) ≤ 10 ^ r.length := Fx.p_pos _
    have hle : ((acc * 10 + (c.toNat - 48) : Nat) : Int) * 1 ≤ ((acc * 10 + (c.toNat - 48) : Nat) : Int) * 10 ^ r.length := Int.mul_le_mul_of_nonneg_left p1 (by omega)
    obtain ⟨u, h1, h2⟩ := ih (acc * 10 + (c.toNat - 48)) hr hb
    refine ⟨u, h1, ?_⟩
    have g1 : ¬ 1844674407370955162 ≤ acc := by omega
    have g2 : ¬ M < acc * 10 + (c.toNat - 48) := by omega
    rw [Lib.parseUintM, if_pos hc, if_neg g1, if_neg g2]
    exact h2

set_option maxRecDepth 100000 in
theorem zparse_any (s : ByteArray) (xs : List Int) (w : World) (hs : Str s xs) (hd : Digs xs) (hn : xs ≠ []) (hb : dv xs < 1000000000000000000) (hl : xs.length ≤ 100000) :
    Calls Tryz.prog 44 #[.string s, .int .i64 10, .int .i64 64] w fun e w' => e = .returned (.tuple #[.int .u64 (dv xs), .nilIface]) ∧ Below w.heap.size w w' := by
  have hz := hs.size
  have hs' : s.data.toList.map (fun b => (b.toNat : Int)) = xs := hs
  have hall : ∀ x ∈ s.data.toList, 48 ≤ x.toNat ∧ x.toNat ≤ 57 := by
    intro x hx
    have := hd (x.toNat : Int) (by rw [← hs']; exact List.mem_map.2 ⟨x, hx, rfl⟩)
    omega
  obtain ⟨u, hu, hp⟩ := parseM (M := 2 ^ 64 - 1) rfl (by decide) s.data.toList 0 hall (by rw [hs']; simpa using hb)
  rw [hs'] at hu
  have hu2 : (dv xs).toNat = u := by simp at hu; omega
  have hP : Lib.parseUintB 64 s.data.toList = .ok (dv xs).toNat := by
    rw [Lib.parseUintB, if_neg (fun c => by rw [c] at hs'; exact hn hs'.symm), hp, hu2]
  have h := Any.strconv_ParseUint_10_at64_ok puLays s (by omega) (dv xs).toNat hP w
  change Calls Tryz.prog 44 _ _ _ at h
  have nn := (dv_bd hd).1
  rw [show (((dv xs).toNat : Nat) : Int) = dv xs by omega] at h
  refine h.mono ?_
  rintro e w' ⟨rfl, h | h⟩
  · exact ⟨rfl, by rw [h]; exact Below.refl _ _⟩
  · exact ⟨rfl, by rw [h]; exact Lib.bytesWorld_below w _ s⟩
end Go.Proofs.YtonnlimmjelldaaGreatDoor

namespace Go.Proofs.YtonnlimmjelldaaGreatDoor
open Go Go.RowKit Go.Deep

theorem gt53 {t : ByteArray} {L : List Int} (h : Str t L) (hn : L ≠ []) : (!(Op.bytesLess t.toList [53] || t.toList == [53])) = Sh.gt5 L ∧ (t.toList == [53]) = decide (L = [53]) := by
  have h' : t.toList.map (fun b => (b.toNat : Int)) = L := by rw [ByteArray.toList_eq]; exact h
  generalize t.toList = bs at h' ⊢
  match bs with
  | [] => exact absurd h'.symm hn
  | b :: r =>
    subst h'
    have e1 : (b = 53) ↔ ((b.toNat : Int) = 53) := by
      constructor
      · intro c; rw [c]; rfl
      · intro c; apply UInt8.toNat_inj.1; have : b.toNat = 53 := by omega
        rw [this]; rfl
    have e2 : b < 53 ↔ ((b.toNat : Int) < 53) := by
      rw [UInt8.lt_iff_toNat_lt]
      have : (53 : UInt8).toNat = 53 := rfl
      omega
    have bl : ∀ l : List UInt8, Op.bytesLess l [] = false := by intro l; cases l <;> rfl
    have ee : (((b :: r).map fun b => (b.toNat : Int)) = [53]) ↔ (b :: r = [53]) := by
      constructor
      · intro c
        have h1 := (List.cons.inj c).1
        have h2 := (List.cons.inj c).2
        rw [e1.2 h1, List.map_eq_nil_iff.1 h2]
      · intro c; rw [c]; rfl
    have gg : Sh.gt5 ((b :: r).map fun b => (b.toNat : Int)) = decide (53 < (b.toNat : Int) ∨ ((b.toNat : Int) = 53 ∧ r ≠ [])) := by
      unfold Sh.gt5
      rw [List.map_cons, List.length_cons, List.length_map]
      congr 1
      have : r ≠ [] ↔ 1 < r.length + 1 := by rw [← List.length_pos_iff]; omega
      rw [this]
      rfl
    have ll : Op.bytesLess (b :: r) [53] = decide (b < 53) := by
      show (decide (b < 53) || (b == 53 && Op.bytesLess r [])) = _
      rw [bl, Bool.and_false, Bool.or_false]
    constructor
    · rw [gg, ll, Bool.eq_iff_iff]
      have k : ((b :: r) == [53]) = decide (b :: r = [53]) := by
        rw [Bool.eq_iff_iff]; simp
      rw [k]
      by_cases c1 : b < 53
      · have := e2.1 c1
        simp [c1]
        omega
      · have n1 : ¬ ((b.toNat : Int) < 53) := fun q => c1 (e2.2 q)
        by_cases c2 : b = 53
        · have := e1.1 c2
          simp [c2]
        · have n2 : ¬ ((b.toNat : Int) = 53) := fun q => c2 (e1.2 q)
          simp [c1, c2]
          omega
    · rw [Bool.eq_iff_iff, decide_eq_true_iff, ee]
      simp
end Go.Proofs.YtonnlimmjelldaaGreatDoor

namespace Go.Proofs.YtonnlimmjelldaaGreatDoor
open Go Go.RowKit Go.Deep

namespace Sh
/-- What within tells. -/
noncomputable def wD (a : Int) (n : Nat) : Sc.D := match wn a n with | some U => dd U | none => ⟨false, [], 0⟩
noncomputable def wB (a : Int) (n : Nat) : Bool := (wn a n).isSome
theorem bd_room {U : Int} (h : 0 ≤ U) (hb : U < 10 ^ 1500) : Nm (dd U) := by
  have o := dd_is h
  have lo := o.1.lo
  rcases (show U = 0 ∨ 0 < U by omega) with c | c
  · rw [c, dd_zero]
    refine Ok.nm ⟨rfl, by show (-1075 : Int) ≤ 0; omega, .inl ⟨rfl, rfl⟩⟩ (by show (0 : Int) ≤ 100000; omega) (by simp)
  · obtain ⟨p1, p2, p3⟩ := place c
    have q := Fx.p_lt (Int.lt_of_le_of_lt p1 hb)
    have hp : pl U = (dd U).e + ((dd U).ds.length : Int) := rfl
    have := ln_pos h
    have hl : ln U = (dd U).ds.length := rfl
    exact o.1.nm (by omega) (by omega)
theorem V_lt {a : Int} (h0 : 0 ≤ a) (h1 : a < 9218868437227405312) : V a < 10 ^ 1384 := by
  have h2 := (Ie.vl_lt_iff (x := a) (y := 9218868437227405312) (by omega) (by omega)).2 h1
  have h3 : Ie.vl 9218868437227405312 = 2 ^ 2099 := by decide +kernel
  rw [h3] at h2
  have h4 := Int.mul_lt_mul_of_pos_right h2 T5_pos
  have h5 : (2 : Int) ^ 2099 * T5 ≤ 10 ^ 1384 := room_hi
  exact Int.lt_of_lt_of_le h4 h5
theorem B_lt {a : Int} (h0 : 0 ≤ a) (h1 : a < 9218868437227405312) : B a < 10 ^ 1384 := by
  have h2 := Ie.md_lt_vl a h0
  have h6 := Ie.vl_le (x := a + 1) (y := 9218868437227405312) (by omega) (by omega)
  have h3 : Ie.vl 9218868437227405312 = 2 ^ 2099 := by decide +kernel
  rw [h3] at h6
  have h4 := Int.mul_lt_mul_of_pos_right (Int.lt_of_lt_of_le h2 h6) T5_pos
  have h5 : (2 : Int) ^ 2099 * T5 ≤ 10 ^ 1384 := room_hi
  exact Int.lt_of_lt_of_le h4 h5
theorem p1384 : (10 : Int) ^ 1384 ≤ 10 ^ 1500 := Fx.p_le (by omega)
theorem nmV {a : Int} (h0 : 0 ≤ a) (h1 : a < 9218868437227405312) : Nm (dd (V a)) := bd_room (V_nn h0) (Int.lt_of_lt_of_le (V_lt h0 h1) p1384)
theorem B_nn {a : Int} (h0 : 0 ≤ a) : 0 ≤ B a := Int.le_of_lt (Int.lt_of_le_of_lt (V_nn h0) V_B)
theorem nmB {a : Int} (h0 : 0 ≤ a) (h1 : a < 9218868437227405312) : Nm (dd (B a)) := bd_room (B_nn h0) (Int.lt_of_lt_of_le (B_lt h0 h1) p1384)
theorem A_nn {a : Int} (h0 : 0 ≤ a) : 0 ≤ A a := by
  unfold A
  split
  · exact Int.le_refl _
  · exact B_nn (by omega)
theorem nmA {a : Int} (h0 : 0 ≤ a) (h1 : a < 9218868437227405312) : Nm (dd (A a)) := by
  refine bd_room (A_nn h0) ?_
  unfold A
  split
  · exact Int.lt_of_lt_of_le (Fx.p_pos 0) (Fx.p_le (by omega))
  · exact Int.lt_of_lt_of_le (B_lt (by omega) (by omega)) p1384
/-- Between the bounds, by Cmp. -/
theorem hD_in {a U : Int} (h0 : 0 ≤ a) (hU : 0 ≤ U) : hD (dd (A a)) (dd (B a)) (dd U) (decide (a % 2 = 0)) = inB a U := by
  have oA := dd_is (A_nn h0)
  have oB := dd_is (B_nn h0)
  have oU := dd_is hU
  unfold hD inB
  rw [cmp_uv oA.1 oU.1, cmp_uv oU.1 oB.1, oA.2, oB.2, oU.2]
  have c1 := Sc.cmpI_c (A a) U
  have c2 := Sc.cmpI_c U (B a)
  rw [Bool.eq_iff_iff]
  simp
  omega
end Sh

theorem heap_new2 (w : World) (A B : Obj) : ((w.alloc A).alloc B).heap[w.heap.size + 1]? = some B := by
  have h := heap_alloc_new (w.alloc A) B
  rwa [show (w.alloc A).heap.size = w.heap.size + 1 from Array.size_push ..] at h

def WnTold (a : Int) (n : Nat) (w : World) (e : Ending) (w' : World) : Prop :=
  ∃ t, e = .returned (.tuple #[.agg #[.bool (Sh.wD a n).neg, .string t, .int .i64 (Sh.wD a n).e], .bool (Sh.wB a n)]) ∧ Str t (Sh.wD a n).ds ∧ Below w.heap.size w w'

set_option maxRecDepth 100000 in
set_option maxHeartbeats 4000000 in
theorem zwithin_any (a : Int) (n : Nat) (s1 s2 s3 : ByteArray) (w : World) (h0 : 0 ≤ a) (hf : a < 9218868437227405312) (n1 : 1 ≤ n) (n2 : n ≤ 17) (htab : Tab10 w)
    (g1 : Str s1 (Sh.dd (Sh.V a)).ds) (g2 : Str s2 (Sh.dd (Sh.A a)).ds) (g3 : Str s3 (Sh.dd (Sh.B a)).ds) :
    Calls Tryz.prog 22 #[spanV (Sh.dd (Sh.V a)) (Sh.dd (Sh.A a)) (Sh.dd (Sh.B a)) s1 s2 s3 (decide (a % 2 = 0)), .int .i64 n] w fun e w' => WnTold a n w e w' := by
  have hsz := g1.size
  have nmv := Sh.nmV h0 hf
  have a1 := alloc_b w (.cells #[.bool (Sh.dd (Sh.V a)).neg, .string s1, .int .i64 (Sh.dd (Sh.V a)).e, .bool (Sh.dd (Sh.A a)).neg, .string s2, .int .i64 (Sh.dd (Sh.A a)).e, .bool (Sh.dd (Sh.B a)).neg, .string s3, .int .i64 (Sh.dd (Sh.B a)).e, .bool (decide (a % 2 = 0))] 44)
  have r1 := RB.new w 44 #[.bool (Sh.dd (Sh.V a)).neg, .string s1, .int .i64 (Sh.dd (Sh.V a)).e, .bool (Sh.dd (Sh.A a)).neg, .string s2, .int .i64 (Sh.dd (Sh.A a)).e, .bool (Sh.dd (Sh.B a)).neg, .string s3, .int .i64 (Sh.dd (Sh.B a)).e, .bool (decide (a % 2 = 0))]
  have TB := hid htab
  have LV : Hid ((Sh.dd (Sh.V a)).ds.length = Sh.ln (Sh.V a)) := rfl
  rw [LV.out] at hsz
  have lnb : Sh.ln (Sh.V a) ≤ 281474976710656 := nmv.len
  by_cases hl : Sh.ln (Sh.V a) ≤ n
  · have E : Hid (Sh.wD a n = Sh.dd (Sh.V a) ∧ Sh.wB a n = true) := by
      have e : Sh.wn a n = some (Sh.V a) := by rw [Sh.wn, if_pos hl]
      exact ⟨by rw [Sh.wD, e], by rw [Sh.wB, e]; rfl⟩
    have K : Hid (∀ w', Below w.heap.size w w' → WnTold a n w (.returned (.tuple #[.agg #[.bool (Sh.dd (Sh.V a)).neg, .string s1, .int .i64 (Sh.dd (Sh.V a)).e], .bool true])) w') := by
      intro w' hB
      exact ⟨s1, by rw [E.out.1, E.out.2], by rw [E.out.1]; exact g1, hB⟩
    have hle : (Sh.ln (Sh.V a) : Int) - (n : Int) ≤ 0 := by omega
    have HR := hid (And.intro r1 a1)
    clear E g1 g2 g3 nmv LV r1 a1 htab TB h0 hf
    unfold spanV
    generalize decide (a % 2 = 0) = cb at *
    generalize Sh.dd (Sh.V a) = DV at *
    generalize Sh.dd (Sh.A a) = DA at *
    generalize Sh.dd (Sh.B a) = DB at *
    generalize Sh.ln (Sh.V a) = L at *
    go_enter Tryz.func22, Tryz.ntmps22
    go_wp2_with fail
    (try simp only [Exit.inBlock, Exit.then])
    refine bodyPost_ret (fresults_row_tmp rfl _ _ (w.heap.size + 1) 28 _ (0, 0) _ rfl (heap_new2 w _ _) Tryz.underlying28 rfl (by kernel_rfl)) rfl ?_
    exact K.out _ (HR.out.2.trans ((alloc_b _ _).mono HR.out.2.size))
  · have hl2 : n < Sh.ln (Sh.V a) := by omega
    have ap : 0 < a := by
      rcases (show a = 0 ∨ 0 < a by omega) with c | c
      · rw [c, Sh.ln0] at hl2; omega
      · exact c
    have vp := Sh.V_pos ap
    obtain ⟨q1, q2, q3⟩ := Sh.head_is vp n1 hl2
    have kr := Sh.k_room ap n1 hl2
    obtain ⟨cut, hcut⟩ : ∃ cut : Nat, Sh.ln (Sh.V a) = n + cut := ⟨Sh.ln (Sh.V a) - n, by omega⟩
    have st' : Sh.st (Sh.V a) n = 10 ^ ((Sh.dd (Sh.V a)).e + (cut : Int) + 1075).toNat := by
      unfold Sh.st
      rw [hcut]
      congr 2
      omega
    have dgV : Digs (Sh.dd (Sh.V a)).ds := (Sh.dd_is (Int.le_of_lt vp)).1.digs.1
    have loV := (Sh.dd_is (Int.le_of_lt vp)).1.lo
    have Hb : dv ((Sh.dd (Sh.V a)).ds.take n) < 1000000000000000000 := by
      have := Fx.p_le (show n ≤ 17 by omega)
      rw [show (10 : Int) ^ 17 = 100000000000000000 by decide] at this
      omega
    have e1 := g1.extract 0 n
    rw [List.drop_zero, Nat.sub_zero] at e1
    have e2 := g1.extract n (Sh.ln (Sh.V a))
    rw [List.take_of_length_le (by rw [List.length_drop, LV.out]; omega)] at e2
    have PU := hid (fun wx : World => zparse_any (s1.extract 0 n) _ wx e1 (fun d hd => dgV d (List.mem_of_mem_take hd)) (by
      intro c
      have := congrArg List.length c
      rw [List.length_take, LV.out] at this
      simp at this
      omega) Hb (by rw [List.length_take]; omega))
    have EV : Hid (∀ t, Str t (Sh.wD a n).ds → ∀ w', Below w.heap.size w w' → WnTold a n w (.returned (.tuple #[.agg #[.bool (Sh.wD a n).neg, .string t, .int .i64 (Sh.wD a n).e], .bool (Sh.wB a n)])) w') := fun t ht w' hB => ⟨t, rfl, ht, hB⟩
    obtain ⟨H, hH⟩ : ∃ H, dv ((Sh.dd (Sh.V a)).ds.take n) = H := ⟨_, rfl⟩
    rw [hH] at q1 q2 q3 Hb PU
    have H0 : 0 ≤ H := by rw [q1]; exact Int.le_trans (by omega) kr.1
    obtain ⟨g5, hg5⟩ : ∃ g5, Sh.gt5 ((Sh.dd (Sh.V a)).ds.drop n) = g5 := ⟨_, rfl⟩
    obtain ⟨c5, hc5⟩ : ∃ c5, decide ((Sh.dd (Sh.V a)).ds.drop n = [53]) = c5 := ⟨_, rfl⟩
    obtain ⟨od, hod⟩ : ∃ od, decide (H % 2 = 1) = od := ⟨_, rfl⟩
    have hup : Sh.upB (Sh.V a) (Sh.st (Sh.V a) n) = (g5 || (c5 && od)) := by
      rw [← q2, ← hg5, ← hc5, ← hod, Bool.eq_iff_iff]
      simp
    have S0p := Sh.st_pos (Sh.V a) n
    obtain ⟨Hn, hHn⟩ : ∃ Hn : Nat, H = (Hn : Int) := ⟨H.toNat, by omega⟩
    have Hn1 : Hn + 1 ≤ 100000000000000000 := by
      have := kr.2.1
      rw [← q1] at this
      have := Fx.p_le (show n ≤ 17 by omega)
      rw [show (10 : Int) ^ 17 = 100000000000000000 by decide] at this
      omega
    have plb := Sh.V_place ap hf
    have hple : Sh.pl (Sh.V a) = (Sh.dd (Sh.V a)).e + (Sh.ln (Sh.V a) : Int) := rfl
    have qb : -1075 ≤ (Sh.dd (Sh.V a)).e + (cut : Int) ∧ (Sh.dd (Sh.V a)).e + (cut : Int) ≤ 1000 := by omega
    have FMT : ∀ (u : Nat), u ≤ 100000000000000000 → Hid (∀ wx : World, Tab10 wx → Calls Tryz.prog 46 #[.int .u64 (u : Int), .int .i64 10] wx fun e w' => ∃ t, e = .returned (.string t) ∧ Hid (Str t (Sc.dl u)) ∧ Below wx.heap.size wx w') := fun u hu wx ht => zfmt_any u wx (by omega) ht
    have NOR : ∀ (u : Nat), u ≤ 100000000000000000 → Hid (∀ (wx : World) (t : ByteArray), Hid (Str t (Sc.dl u)) → Calls Tryz.prog 45 #[.string t, .int .i64 ((Sh.dd (Sh.V a)).e + (cut : Int))] wx fun r w' => ∃ t', r = .returned (.agg #[.bool (Sh.dd ((u : Int) * Sh.st (Sh.V a) n)).neg, .string t', .int .i64 (Sh.dd ((u : Int) * Sh.st (Sh.V a) n)).e]) ∧ Hid (Str t' (Sh.dd ((u : Int) * Sh.st (Sh.V a) n)).ds) ∧ Below wx.heap.size wx w') := by
      intro u hu wx t ht
      have d := dl_dv u
      have h := fun wy : World => znormal_any t (Sc.dl u) ((Sh.dd (Sh.V a)).e + (cut : Int)) wy ht.out d.1 d.2.1 qb.1 (by omega) (by have := dl_len (u := u) (by omega); omega)
      rw [d.2.2, ← st'] at h
      exact dec_open h wx
    have HLD : ∀ (u : Nat), u ≤ 100000000000000000 → Hid (∀ (wx : World) (t : ByteArray), Hid (Str t (Sh.dd ((u : Int) * Sh.st (Sh.V a) n)).ds) → Calls Tryz.prog 25 #[spanV (Sh.dd (Sh.V a)) (Sh.dd (Sh.A a)) (Sh.dd (Sh.B a)) s1 s2 s3 (decide (a % 2 = 0)), .agg #[.bool (Sh.dd ((u : Int) * Sh.st (Sh.V a) n)).neg, .string t, .int .i64 (Sh.dd ((u : Int) * Sh.st (Sh.V a) n)).e]] wx fun e w' => e = .returned (.bool (Sh.inB a ((u : Int) * Sh.st (Sh.V a) n))) ∧ Below wx.heap.size wx w') := by
      intro u hu wx t ht
      have U0 : 0 ≤ (u : Int) * Sh.st (Sh.V a) n := Int.mul_nonneg (by omega) (Int.le_of_lt S0p)
      have Ub : (u : Int) * Sh.st (Sh.V a) n < 10 ^ 1500 := by
        have h1 : (u : Int) * Sh.st (Sh.V a) n ≤ 100000000000000000 * Sh.st (Sh.V a) n := Int.mul_le_mul_of_nonneg_right (by omega) (Int.le_of_lt S0p)
        have h2 : Sh.st (Sh.V a) n ≤ 10 ^ 1383 := by rw [Sh.st_pl]; exact Fx.p_le (by omega)
        have h3 : (100000000000000000 : Int) * 10 ^ 1383 = 10 ^ 1400 := by rw [show (100000000000000000 : Int) = 10 ^ 17 by decide, ← Int.pow_add]
        have h4 := Int.mul_le_mul_of_nonneg_left h2 (show (0 : Int) ≤ 100000000000000000 by omega)
        rw [h3] at h4
        have h5 : (10 : Int) ^ 1400 < 10 ^ 1401 := by
          rw [Int.pow_succ 10 1400]
          have := Fx.p_pos 1400
          generalize (10 : Int) ^ 1400 = z at *
          omega
        exact Int.lt_of_le_of_lt (Int.le_trans h1 h4) (Int.lt_of_lt_of_le h5 (Fx.p_le (by omega)))
      have h := zholds_any (Sh.dd (Sh.V a)) (Sh.dd (Sh.A a)) (Sh.dd (Sh.B a)) (Sh.dd ((u : Int) * Sh.st (Sh.V a) n)) (decide (a % 2 = 0)) s1 s2 s3 t wx (Sh.nmA h0 hf) (Sh.nmB h0 hf) (Sh.bd_room U0 Ub) g2 g3 ht.out
      rw [Sh.hD_in h0 U0] at h
      exact h
    have F1 := FMT Hn (by omega)
    have F2 := FMT (Hn + 1) (by omega)
    have N1 := NOR Hn (by omega)
    have N2 := NOR (Hn + 1) (by omega)
    have tn1 : ((Hn : Int)).toNat = Hn := by omega
    have tn2 : ((Hn : Int) + 1).toNat = Hn + 1 := by omega
    rw [← tn1] at F1 N1
    rw [← tn2] at F2 N2
    rw [show (((Hn : Int).toNat : Nat) : Int) = (Hn : Int) by omega] at F1 N1
    rw [show ((((Hn : Int) + 1).toNat : Nat) : Int) = ((Hn + 1 : Nat) : Int) by omega] at F2 N2
    clear tn1 tn2
    have L1 := HLD Hn (by omega)
    have L2 := HLD (Hn + 1) (by omega)
    have WN : Sh.wn a n = if Sh.inB a (Sh.k1 (Sh.V a) (Sh.st (Sh.V a) n) * Sh.st (Sh.V a) n) = true then some (Sh.k1 (Sh.V a) (Sh.st (Sh.V a) n) * Sh.st (Sh.V a) n) else if Sh.inB a (Sh.k2 (Sh.V a) (Sh.st (Sh.V a) n) * Sh.st (Sh.V a) n) = true then some (Sh.k2 (Sh.V a) (Sh.st (Sh.V a) n) * Sh.st (Sh.V a) n) else none := by rw [Sh.wn, if_neg hl]
    have K1 : Sh.k1 (Sh.V a) (Sh.st (Sh.V a) n) = if (g5 || (c5 && od)) = true then ((Hn + 1 : Nat) : Int) else (Hn : Int) := by
      unfold Sh.k1
      rw [hup, ← q1, hHn]
      rfl
    have K2 : Sh.k2 (Sh.V a) (Sh.st (Sh.V a) n) = if (g5 || (c5 && od)) = true then (Hn : Int) else ((Hn + 1 : Nat) : Int) := by
      unfold Sh.k2
      rw [hup, ← q1, hHn]
      rfl
    have HR := hid (And.intro r1 a1)
    have TLS : Hid (Str (s1.extract n (n + cut)) ((Sh.dd (Sh.V a)).ds.drop n)) := by rw [← hcut]; exact e2
    have esz : s1.size = n + cut := by rw [hsz, hcut]
    have tne : (Sh.dd (Sh.V a)).ds.drop n ≠ [] := by
      intro c
      have := congrArg List.length c
      rw [List.length_drop, LV.out] at this
      simp at this
      omega
    have gg := gt53 TLS.out tne
    rw [hg5, hc5] at gg
    have GT : binOp .gtr 9 (.string (s1.extract n (n + cut))) (.string ⟨#[53]⟩) = pure (.bool g5) := by
      rw [← gg.1]
      simp [binOp, Op.stringOp]
    have EQ : ((s1.extract n (n + cut)).toList == [53]) = c5 := gg.2
    clear gg tne
    have OD : (((Hn : Int) % 2) == 1) = od := by
      rw [← hod, hHn]
      by_cases c : (Hn : Int) % 2 = 1 <;> simp [c]
    rw [hHn] at PU
    unfold spanV
    unfold spanV at L1 L2
    clear r1 a1 nmv FMT NOR HLD st' dgV loV e1 e2 g1 g2 g3 q1 q2 q3 kr vp Hb hup hg5 hc5 hod hHn H0 S0p plb hple TLS htab
    have cutp : 0 < cut := by omega
    generalize hcb : decide (a % 2 = 0) = cb at *
    generalize hDV : Sh.dd (Sh.V a) = DV at *
    generalize hDA : Sh.dd (Sh.A a) = DA at *
    generalize hDB : Sh.dd (Sh.B a) = DB at *
    clear hcb hDV hDA hDB
    go_enter Tryz.func22, Tryz.ntmps22
    go_wp2_with fail
    refine (PU.out _).mono ?_
    rintro e w1 ⟨rfl, B1⟩
    have HB1 := hid B1
    clear B1 PU
    have CUT : (n : Int) + (cut : Int) - (n : Int) = (cut : Int) := by omega
    have a2 := alloc_b (w.alloc (.cells #[.bool DV.neg, .string s1, .int .i64 DV.e, .bool DA.neg, .string s2, .int .i64 DA.e, .bool DB.neg, .string s3, .int .i64 DB.e, .bool cb] 44)) (.cells #[.bool false, .string ⟨#[]⟩, .int .i64 0] 28)
    have b2 := HR.out.2.trans (a2.mono HR.out.2.size)
    have rS := (HR.out.1.below a2 HR.out.1.lt).below HB1.out (RB.lt (HR.out.1.below a2 HR.out.1.lt))
    have rR : FR3 w1 (w.heap.size + 1) (.bool false) (.string ⟨#[]⟩) (.int .i64 0) := RB.below (b := w.heap.size + 1) (heap_new2 w _ _) HB1.out (RB.lt (b := w.heap.size + 1) (heap_new2 w _ _))
    have tT := tab10_below (tab10_below TB.out b2) HB1.out
    have bW := b2.trans (HB1.out.mono b2.size)
    obtain ⟨SS, KS, CS, PS, ZS, S1⟩ : ∃ SS : World → Prop, Hid (∀ wx w', SS wx → Below wx.heap.size wx w' → SS w') ∧ Hid (∀ wx, SS wx → ((wx.cell? ⟨w.heap.size, 0, none⟩ = some (.bool DV.neg) ∧ wx.cell? ⟨w.heap.size, 1, none⟩ = some (.string s1) ∧ wx.cell? ⟨w.heap.size, 2, none⟩ = some (.int .i64 DV.e) ∧ wx.cell? ⟨w.heap.size, 3, none⟩ = some (.bool DA.neg) ∧ wx.cell? ⟨w.heap.size, 4, none⟩ = some (.string s2) ∧ wx.cell? ⟨w.heap.size, 5, none⟩ = some (.int .i64 DA.e) ∧ wx.cell? ⟨w.heap.size, 6, none⟩ = some (.bool DB.neg) ∧ wx.cell? ⟨w.heap.size, 7, none⟩ = some (.string s3) ∧ wx.cell? ⟨w.heap.size, 8, none⟩ = some (.int .i64 DB.e) ∧ wx.cell? ⟨w.heap.size, 9, none⟩ = some (.bool cb)) ∧ (FR3 wx (w.heap.size + 1) (.bool false) (.string ⟨#[]⟩) (.int .i64 0)) ∧ Tab10 wx ∧ Below w.heap.size w wx)) ∧ Hid (∀ wx b u0 u1 u2, SS wx → w1.heap.size ≤ b → SS (((wx.setCell ⟨b, 0, none⟩ u0).setCell ⟨b, 1, none⟩ u1).setCell ⟨b, 2, none⟩ u2)) ∧ Hid (∀ wx, SS wx → w1.heap.size ≤ wx.heap.size) ∧ Hid (SS w1) :=
      ⟨fun wx => Below w1.heap.size w1 wx, fun _ _ h k => h.trans (k.mono h.size), fun wx h => ⟨(fun r => ⟨r.cell 0 _ rfl, r.cell 1 _ rfl, r.cell 2 _ rfl, r.cell 3 _ rfl, r.cell 4 _ rfl, r.cell 5 _ rfl, r.cell 6 _ rfl, r.cell 7 _ rfl, r.cell 8 _ rfl, r.cell 9 _ rfl⟩) (rS.below h rS.lt), rR.below h rR.lt, tab10_below tT h, bW.trans (h.mono bW.size)⟩, fun wx b u0 u1 u2 h hb => fset3_below h hb, fun _ h => h.size, Below.refl _ _⟩
    have c1 := (CS.out _ S1.out).1.2.1
    clear a2 b2 HR HB1 TB rS rR tT bW
    have IX0 : ∀ (x y : Int) (wx : World), (Instr.index 75 (.agg #[.int .u64 x, .int .u64 y]) (.int .i64 0)).run Tryz.prog wx = .ok (.int .u64 x) wx := fun _ _ _ => by kernel_rfl
    have IX1 : ∀ (x y : Int) (wx : World), (Instr.index 75 (.agg #[.int .u64 x, .int .u64 y]) (.int .i64 1)).run Tryz.prog wx = .ok (.int .u64 y) wx := fun _ _ _ => by kernel_rfl
    have qb1 := qb.1
    have qb2 := qb.2
    have WQ : IntKind.i64.wrap (DV.e + (cut : Int)) = DV.e + (cut : Int) := by rw [IntKind.wrap_i64]; omega
    have HC2 : (((Hn + 1 : Nat) : Int)) = (Hn : Int) + 1 := by omega
    rw [HC2] at F2 N2 L2 K1 K2
    obtain ⟨up, hup⟩ : ∃ up, (g5 || (c5 && od)) = up := ⟨_, rfl⟩
    rw [hup] at K1 K2
    obtain ⟨X, Y, DX, DY, JX, JY, REL, FX, NX, LX, FY, NY, LY, KK⟩ : ∃ (X Y : Int) (DX DY : Sc.D) (JX JY : Bool), Hid ((up = true ∧ X = (Hn : Int) + 1 ∧ Y = (Hn : Int)) ∨ (up = false ∧ X = (Hn : Int) ∧ Y = (Hn : Int) + 1))
        ∧ Hid (∀ wx : World, Tab10 wx → Calls Tryz.prog 46 #[.int .u64 X, .int .i64 10] wx fun e w' => ∃ t, e = .returned (.string t) ∧ Hid (Str t (Sc.dl X.toNat)) ∧ Below wx.heap.size wx w') ∧ Hid (∀ (wx : World) (t : ByteArray), Hid (Str t (Sc.dl X.toNat)) → Calls Tryz.prog 45 #[.string t, .int .i64 (DV.e + (cut : Int))] wx fun r w' => ∃ t', r = .returned (.agg #[.bool DX.neg, .string t', .int .i64 DX.e]) ∧ Hid (Str t' DX.ds) ∧ Below wx.heap.size wx w') ∧ Hid (∀ (wx : World) (t : ByteArray), Hid (Str t DX.ds) → Calls Tryz.prog 25 #[.agg #[.bool DV.neg, .string s1, .int .i64 DV.e, .bool DA.neg, .string s2, .int .i64 DA.e, .bool DB.neg, .string s3, .int .i64 DB.e, .bool cb], .agg #[.bool DX.neg, .string t, .int .i64 DX.e]] wx fun e w' => e = .returned (.bool JX) ∧ Below wx.heap.size wx w') ∧ Hid (∀ wx : World, Tab10 wx → Calls Tryz.prog 46 #[.int .u64 Y, .int .i64 10] wx fun e w' => ∃ t, e = .returned (.string t) ∧ Hid (Str t (Sc.dl Y.toNat)) ∧ Below wx.heap.size wx w') ∧ Hid (∀ (wx : World) (t : ByteArray), Hid (Str t (Sc.dl Y.toNat)) → Calls Tryz.prog 45 #[.string t, .int .i64 (DV.e + (cut : Int))] wx fun r w' => ∃ t', r = .returned (.agg #[.bool DY.neg, .string t', .int .i64 DY.e]) ∧ Hid (Str t' DY.ds) ∧ Below wx.heap.size wx w') ∧ Hid (∀ (wx : World) (t : ByteArray), Hid (Str t DY.ds) → Calls Tryz.prog 25 #[.agg #[.bool DV.neg, .string s1, .int .i64 DV.e, .bool DA.neg, .string s2, .int .i64 DA.e, .bool DB.neg, .string s3, .int .i64 DB.e, .bool cb], .agg #[.bool DY.neg, .string t, .int .i64 DY.e]] wx fun e w' => e = .returned (.bool JY) ∧ Below wx.heap.size wx w')
        ∧ Hid ((JX = true → ∀ t, Hid (Str t DX.ds) → ∀ w', Below w.heap.size w w' → WnTold a n w (.returned (.tuple #[.agg #[.bool DX.neg, .string t, .int .i64 DX.e], .bool true])) w') ∧ (JX = false → JY = true → ∀ t, Hid (Str t DY.ds) → ∀ w', Below w.heap.size w w' → WnTold a n w (.returned (.tuple #[.agg #[.bool DY.neg, .string t, .int .i64 DY.e], .bool true])) w') ∧ (JX = false → JY = false → ∀ w', Below w.heap.size w w' → WnTold a n w (.returned (.tuple #[.agg #[.bool false, .string ⟨#[]⟩, .int .i64 0], .bool false])) w')) := by
      have TOLD : ∀ U, Sh.wn a n = some U → ∀ t, Hid (Str t (Sh.dd U).ds) → ∀ w', Below w.heap.size w w' → WnTold a n w (.returned (.tuple #[.agg #[.bool (Sh.dd U).neg, .string t, .int .i64 (Sh.dd U).e], .bool true])) w' := by
        intro U e t ht w' hB
        have e1 : Sh.wD a n = Sh.dd U := by rw [Sh.wD, e]
        have e2 : Sh.wB a n = true := by rw [Sh.wB, e]; rfl
        exact ⟨t, by rw [e1, e2], by rw [e1]; exact ht.out, hB⟩
      have NONE : Sh.wn a n = none → ∀ w', Below w.heap.size w w' → WnTold a n w (.returned (.tuple #[.agg #[.bool false, .string ⟨#[]⟩, .int .i64 0], .bool false])) w' := by
        intro e w' hB
        have e1 : Sh.wD a n = ⟨false, [], 0⟩ := by rw [Sh.wD, e]
        have e2 : Sh.wB a n = false := by rw [Sh.wB, e]; rfl
        exact ⟨⟨#[]⟩, by rw [e1, e2], by rw [e1]; rfl, hB⟩
      cases up
      · rw [if_neg Bool.false_ne_true] at K1 K2
        rw [K1, K2] at WN
        refine ⟨_, _, _, _, _, _, .inr ⟨rfl, rfl, rfl⟩, F1, N1, L1, F2, N2, L2, fun j => TOLD _ (by rw [WN, if_pos j]), fun j k => TOLD _ (by rw [WN, if_neg (by rw [j]; decide), if_pos k]), fun j k => NONE (by rw [WN, if_neg (by rw [j]; decide), if_neg (by rw [k]; decide)])⟩
      · rw [if_pos rfl] at K1 K2
        rw [K1, K2] at WN
        refine ⟨_, _, _, _, _, _, .inl ⟨rfl, rfl, rfl⟩, F2, N2, L2, F1, N1, L1, fun j => TOLD _ (by rw [WN, if_pos j]), fun j k => TOLD _ (by rw [WN, if_neg (by rw [j]; decide), if_pos k]), fun j k => NONE (by rw [WN, if_neg (by rw [j]; decide), if_neg (by rw [k]; decide)])⟩
    clear HC2 qb F1 F2 N1 N2 L1 L2 K1 K2 WN EV hl hl2 ap h0 hf lnb hcut hsz LV
    go_upto_region 7 with fail
    go_cut [52] from 42 to 51 (fun b wx => b = .bool up ∧ wx = w1)
    case first =>
      subst hup
      cases g5
      · cases c5
        · go_wp2_with fail
          go_meet
          exact ⟨rfl, rfl⟩
        · go_wp2_with fail
          go_meet
          exact ⟨by simp, rfl⟩
      · go_wp2_with fail
        go_meet
        exact ⟨rfl, rfl⟩
    obtain ⟨h52, hwc⟩ := hcut
    subst h52
    subst hwc
    go_upto_if 52 with fail
    go_cut [9, 10] from 53 to 54 (fun x y wx => x = .int .u64 X ∧ y = .int .u64 Y ∧ wx = wc)
    case first =>
      rcases REL.out with ⟨r1, r2, r3⟩ | ⟨r1, r2, r3⟩
      · subst r1; subst r2; subst r3
        go_wp2_with fail
        go_meet
        exact ⟨rfl, rfl, rfl⟩
      · subst r1; subst r2; subst r3
        go_wp2_with fail
        go_meet
        exact ⟨rfl, rfl, rfl⟩
    obtain ⟨h9, h10, hw⟩ := hcut
    subst h9
    subst h10
    subst hw
    have TQ : Hid (∀ wx : World, SS wx → Tab10 wx) := fun wx h => (CS.out wx h).2.2.1
    have FT : Hid (∀ wx : World, SS wx → wx.cell? ⟨w.heap.size, 2, none⟩ = some (.int .i64 DV.e)) := fun wx h => (CS.out wx h).1.2.2.1
    have KA : Hid (∀ (wx : World), SS wx → SS (wx.alloc (.cells #[.bool false, .string ⟨#[]⟩, .int .i64 0] 28))) := fun wx h => KS.out _ _ h (alloc_b _ _)
    have RD : Hid (∀ (wx w' : World), Below ((wx.alloc (.cells #[.bool false, .string ⟨#[]⟩, .int .i64 0] 28)).drew).heap.size (wx.alloc (.cells #[.bool false, .string ⟨#[]⟩, .int .i64 0] 28)).drew w' → FR3 w' wx.heap.size (.bool false) (.string ⟨#[]⟩) (.int .i64 0)) := fun wx w' h => FR3.below (w := (wx.alloc (.cells #[.bool false, .string ⟨#[]⟩, .int .i64 0] 28)).drew) (FR3.new wx _ _ _) h (FR3.new wx _ _ _).lt
    have RN : Hid (∀ (wx w' : World), Below (wx.alloc (.cells #[.bool false, .string ⟨#[]⟩, .int .i64 0] 28)).heap.size (wx.alloc (.cells #[.bool false, .string ⟨#[]⟩, .int .i64 0] 28)) w' → FR3 w' wx.heap.size (.bool false) (.string ⟨#[]⟩) (.int .i64 0)) := fun wx w' h => (FR3.new wx _ _ _).below h (FR3.new wx _ _ _).lt
    have RC : Hid (∀ (wx w' : World) (b : Nat), Hid (FR3 wx b (.bool false) (.string ⟨#[]⟩) (.int .i64 0)) → Below wx.heap.size wx w' → FR3 w' b (.bool false) (.string ⟨#[]⟩) (.int .i64 0)) := fun wx w' b h k => h.out.below k h.out.lt
    clear c1 GT EQ OD REL hup g5 c5 od
    go_wp2_with fail
    refine wp_loop_rounds 3 ?_
    rw [rounds_succ]
    go_upto_region 12 with fail
    go_cut [14] from 61 to 68 (fun p wx => ∃ b t, p = .pointer (some ⟨b, 0, none⟩) ∧ Hid (SS wx ∧ RB wx b 28 #[.bool DX.neg, .string t, .int .i64 DX.e] ∧ Hid (Str t DX.ds)))
    case first =>
      have T0 := hid (KS.out _ _ S1.out (drew_nil _))
      have TA := hid (KS.out _ _ (KA.out _ S1.out) (drew_nil _))
      have d2 := FT.out _ T0.out
      have d1 := FT.out _ S1.out
      have dA := FT.out _ TA.out
      go_region_with (first
        | (go_at_call 46; (first
          | (with_reducible refine (FX.out _ (TQ.out _ T0.out)).mono ?_; rintro e w5 ⟨t5, rfl, HT5, hB⟩; have T1 := hid (KS.out _ _ T0.out hB); have d5 := FT.out _ T1.out; have d5a := FT.out _ (KA.out _ T1.out); clear hB)
          | (with_reducible refine (FX.out _ (TQ.out _ TA.out)).mono ?_; rintro e w5 ⟨t5, rfl, HT5, hB⟩; have T1 := hid (KS.out _ _ TA.out hB); have d5 := FT.out _ T1.out; have d5a := FT.out _ (KA.out _ T1.out); have RR := hid (RD.out _ _ hB); clear hB)))
        | (go_at_call 45; with_reducible refine (NX.out _ _ HT5).mono ?_; rintro e w6 ⟨t6, rfl, HT6, hB⟩; (first
          | (have R6 := hid (RC.out _ _ _ RR hB); have T2 := hid (KS.out _ _ T1.out hB); obtain ⟨⟨x0, x1, x2⟩, y0, y1, y2⟩ := R6.out.cells; clear hB)
          | (have T2 := hid (KS.out _ _ T1.out hB); clear hB)
          | (have R6 := hid (RN.out _ _ hB); have T2 := hid (KS.out _ _ (KA.out _ T1.out) hB); obtain ⟨⟨x0, x1, x2⟩, y0, y1, y2⟩ := R6.out.cells; clear hB))))
      all_goals
        go_wp2_with fail
        go_meet
        first
          | exact ⟨_, t6, rfl, KS.out _ _ T2.out (alloc_b _ _), RB.new w6 _ _, HT6⟩
          | exact ⟨_, t6, rfl, PS.out _ _ _ _ _ T2.out (ZS.out _ T1.out), R6.out.put _ _ _, HT6⟩
          | exact ⟨_, t6, rfl, PS.out _ _ _ _ _ T2.out (ZS.out _ S1.out), R6.out.put _ _ _, HT6⟩
    obtain ⟨b, t, hp, HC⟩ := hcut
    subst hp
    obtain ⟨z0, z1, z2, z3, z4, z5, z6, z7, z8, z9⟩ := (CS.out _ HC.out.1).1
    have x0 := HC.out.2.1.cell 0 _ rfl
    have x1 := HC.out.2.1.cell 1 _ rfl
    have x2 := HC.out.2.1.cell 2 _ rfl
    go_wp2_with fail
    refine (LX.out _ _ HC.out.2.2).mono ?_
    rintro e w7 ⟨rfl, hB⟩
    have S7 := hid (KS.out _ _ HC.out.1 hB)
    have R7 := hid (HC.out.2.1.below hB (RB.lt HC.out.2.1))
    have HT7 := HC.out.2.2
    clear hB HC z0 z1 z2 z3 z4 z5 z6 z7 z8 z9 x0 x1 x2
    cases JX
    · go_wp2_with fail
      rw [rounds_succ]
      have S8 := S7
      clear S7 R7 HT7
      go_upto_region 12 with fail
      go_cut [14] from 61 to 68 (fun p wx => ∃ b t, p = .pointer (some ⟨b, 0, none⟩) ∧ Hid (SS wx ∧ RB wx b 28 #[.bool DY.neg, .string t, .int .i64 DY.e] ∧ Hid (Str t DY.ds)))
      case first =>
        have T0 := hid (KS.out _ _ S8.out (drew_nil _))
        have TA := hid (KS.out _ _ (KA.out _ S8.out) (drew_nil _))
        have d2 := FT.out _ T0.out
        have d1 := FT.out _ S8.out
        have dA := FT.out _ TA.out
        go_region_with (first
          | (go_at_call 46; (first
            | (with_reducible refine (FY.out _ (TQ.out _ T0.out)).mono ?_; rintro e w5 ⟨t5, rfl, HT5, hB⟩; have T1 := hid (KS.out _ _ T0.out hB); have d5 := FT.out _ T1.out; have d5a := FT.out _ (KA.out _ T1.out); clear hB)
            | (with_reducible refine (FY.out _ (TQ.out _ TA.out)).mono ?_; rintro e w5 ⟨t5, rfl, HT5, hB⟩; have T1 := hid (KS.out _ _ TA.out hB); have d5 := FT.out _ T1.out; have d5a := FT.out _ (KA.out _ T1.out); have RR := hid (RD.out _ _ hB); clear hB)))
          | (go_at_call 45; with_reducible refine (NY.out _ _ HT5).mono ?_; rintro e w6 ⟨t6, rfl, HT6, hB⟩; (first
            | (have R6 := hid (RC.out _ _ _ RR hB); have T2 := hid (KS.out _ _ T1.out hB); obtain ⟨⟨x0, x1, x2⟩, y0, y1, y2⟩ := R6.out.cells; clear hB)
            | (have T2 := hid (KS.out _ _ T1.out hB); clear hB)
            | (have R6 := hid (RN.out _ _ hB); have T2 := hid (KS.out _ _ (KA.out _ T1.out) hB); obtain ⟨⟨x0, x1, x2⟩, y0, y1, y2⟩ := R6.out.cells; clear hB))))
        all_goals
          go_wp2_with fail
          go_meet
          first
            | exact ⟨_, t6, rfl, KS.out _ _ T2.out (alloc_b _ _), RB.new w6 _ _, HT6⟩
            | exact ⟨_, t6, rfl, PS.out _ _ _ _ _ T2.out (ZS.out _ T1.out), R6.out.put _ _ _, HT6⟩
            | exact ⟨_, t6, rfl, PS.out _ _ _ _ _ T2.out (ZS.out _ S8.out), R6.out.put _ _ _, HT6⟩
      obtain ⟨b, t, hp, HC⟩ := hcut
      subst hp
      obtain ⟨z0, z1, z2, z3, z4, z5, z6, z7, z8, z9⟩ := (CS.out _ HC.out.1).1
      have x0 := HC.out.2.1.cell 0 _ rfl
      have x1 := HC.out.2.1.cell 1 _ rfl
      have x2 := HC.out.2.1.cell 2 _ rfl
      go_wp2_with fail
      refine (LY.out _ _ HC.out.2.2).mono ?_
      rintro e w7 ⟨rfl, hB⟩
      have S7 := hid (KS.out _ _ HC.out.1 hB)
      have R7 := hid (HC.out.2.1.below hB (RB.lt HC.out.2.1))
      have HT7 := HC.out.2.2
      clear hB HC z0 z1 z2 z3 z4 z5 z6 z7 z8 z9 x0 x1 x2
      cases JY
      · go_wp2_with fail
        rw [rounds_succ]
        obtain ⟨-, fr, -, hbw⟩ := CS.out _ S7.out
        have FR := hid fr
        have BW := hid hbw
        obtain ⟨⟨r0, r1, r2⟩, s0, s1, s2⟩ := fr.cells
        clear fr hbw
        go_wp2_with fail
        (try simp only [Exit.inBlock, Exit.then])
        refine bodyPost_ret (fresults_row_tmp rfl _ _ (w.heap.size + 1) 28 _ (0, 0) _ rfl (FR.out.put _ _ _) Tryz.underlying28 rfl (by kernel_rfl)) rfl ?_
        exact KK.out.2.2 (by trivial) (by trivial) _ (fset3_below BW.out (by omega))
      · have x0 := R7.out.cell 0 _ rfl
        have x1 := R7.out.cell 1 _ rfl
        have x2 := R7.out.cell 2 _ rfl
        obtain ⟨-, fr, -, hbw⟩ := CS.out _ S7.out
        have FR := hid fr
        have BW := hid hbw
        obtain ⟨⟨r0, r1, r2⟩, s0, s1, s2⟩ := fr.cells
        clear fr hbw
        go_wp2_with fail
        (try simp only [Exit.inBlock, Exit.then])
        refine bodyPost_ret (fresults_row_tmp rfl _ _ (w.heap.size + 1) 28 _ (0, 0) _ rfl (FR.out.put _ _ _) Tryz.underlying28 rfl (by kernel_rfl)) rfl ?_
        exact KK.out.2.1 (by trivial) (by trivial) _ HT7 _ (fset3_below BW.out (by omega))
    · have x0 := R7.out.cell 0 _ rfl
      have x1 := R7.out.cell 1 _ rfl
      have x2 := R7.out.cell 2 _ rfl
      obtain ⟨-, fr, -, hbw⟩ := CS.out _ S7.out
      have FR := hid fr
      have BW := hid hbw
      obtain ⟨⟨r0, r1, r2⟩, s0, s1, s2⟩ := fr.cells
      clear fr hbw
      go_wp2_with fail
      (try simp only [Exit.inBlock, Exit.then])
      refine bodyPost_ret (fresults_row_tmp rfl _ _ (w.heap.size + 1) 28 _ (0, 0) _ rfl (FR.out.put _ _ _) Tryz.underlying28 rfl (by kernel_rfl)) rfl ?_
      exact KK.out.1 (by trivial) _ HT7 _ (fset3_below BW.out (by omega))
end Go.Proofs.YtonnlimmjelldaaGreatDoor

namespace Go.Proofs.YtonnlimmjelldaaGreatDoor
open Go Go.RowKit Go.Deep

theorem tresults_row_tmp2 {P : Program} {fn : Func} {p u v : Tmp} {ty : TypeId} (h : fn.results = #[.cell p ty, .tmp u, .tmp v]) (tmps : Array Value) (w : World) (g : Nat) (t : TypeId) (cs : Array Value) (fr : Nat × Nat) (d : TypeDesc)
    (hp : tmps.getD p undef = .pointer (some ⟨g, 0, none⟩)) (hg : w.heap[g]? = some (.cells cs t fr))
    (hu : P.underlying ty = some d) (hd : (match d with | .struct _ | .array _ _ => true | _ => false) = true) (hi : (P.info? ty).map (·.size) = some cs.size) :
    (results fn tmps).run P w = .ok (.tuple #[.agg cs, tmps.getD u undef, tmps.getD v undef]) w := by
  have h2 : (results fn tmps).run P w =
      ((asAddr (tmps.getD p undef)).run P w).andThen fun a w₁ => ((loadVar ty a).run P w₁).andThen fun x w₂ => .ok (.tuple #[x, tmps.getD u undef, tmps.getD v undef]) w₂ := by
    simp only [results, h]
    simp [Sem.run_bind, Result.andThen]
  rw [h2, hp]
  simp [asAddr, run_loadVar_row w g t ty cs fr d hg hu hd hi, Result.andThen]
namespace Tn
open Sh
theorem atl_pl {a x : Int} (h0 : 0 < a) (hx : x = (Ie.ex a : Int) - 1076) (k : Int) (hk : -1000 ≤ k) : Po.atl (4 * Ie.man a) x k = decide (k ≤ pl (V a) - 1) := by
  obtain ⟨p1, p2, p3⟩ := place (V_pos h0)
  have s := sc_is (m := 4 * Ie.man a) (e := k) hx (by omega) (mid_V a)
  have c := cmp_lt (k := 1) (de_pos x k) (S_pos k) s
  rw [Int.one_mul, Int.one_mul] at c
  have e : Po.atl (4 * Ie.man a) x k = decide (de x k ≤ nu (4 * Ie.man a) x k) := rfl
  rw [e]
  congr 1
  apply propext
  have q : S k ≤ V a ↔ k ≤ pl (V a) - 1 := by
    constructor
    · intro h
      rcases (show k ≤ pl (V a) - 1 ∨ pl (V a) ≤ k by omega) with g | g
      · exact g
      · have := Fx.p_le (show (pl (V a) + 1075).toNat ≤ (k + 1075).toNat by omega)
        unfold S at h
        omega
    · intro h
      have := Fx.p_le (show (k + 1075).toNat ≤ (pl (V a) + 1074).toNat by omega)
      unfold S
      omega
  rw [← q]
  omega
theorem v_room {a : Int} {n : Nat} (h0 : 0 < a) (hn : 1 ≤ n) (hn2 : n ≤ 17) (hr : 0 ≤ pl (V a) - n + 1075) : V a / S (pl (V a) - n) + 1 < 10 ^ 60 := by
  obtain ⟨p1, p2, p3⟩ := place (V_pos h0)
  have e1 : (10 : Int) ^ (pl (V a) + 1075).toNat = 10 ^ n * S (pl (V a) - n) := by
    unfold S
    rw [← Int.pow_add]
    congr 1
    omega
  have k2 : V a / S (pl (V a) - n) < 10 ^ n := (Int.ediv_lt_iff_lt_mul (S_pos _)).2 (by omega)
  have k3 : (10 : Int) ^ n ≤ 10 ^ 17 := Fx.p_le hn2
  have k4 : (10 : Int) ^ 17 < 10 ^ 60 := by decide
  omega
end Tn
def XwTold (d a : Int) (n : Nat) (w : World) (en : Ending) (w' : World) : Prop :=
  ∃ t, en = .returned (.tuple #[.agg #[.bool (Sh.wB a n && decide (9223372036854775808 ≤ d)), .string t, .int .i64 (Sh.wD a n).e], .bool (Sh.wB a n), .int .i64 0]) ∧ Hid (Str t (Sh.wD a n).ds) ∧ Below w.heap.size w w'

set_option maxRecDepth 100000 in
set_option maxHeartbeats 8000000 in
theorem xwithin_any (d a : Int) (n : Nat) (w : World) (h0 : 0 ≤ d) (h1 : d < 18446744073709551616) (ha : d % 9223372036854775808 = a) (a1 : a < 9218868437227405312) (n1 : 1 ≤ n) (n17 : n ≤ 17) :
    Calls Tryz.prog 13 #[.int .u64 d, .int .i64 (n : Int)] w fun en w' => XwTold d a n w en w' := by
  have Z := hid (FR3.new w (.bool false) (.string ⟨#[]⟩) (.int .i64 0))
  have ZB := hid (alloc_b w (.cells #[.bool false, .string ⟨#[]⟩, .int .i64 0] 28))
  have FI := hid (fun wx => xfin_any d wx h0 h1)
  have AB := hid (fun wx => xabs_any d wx h0 h1)
  rw [ha, decide_eq_true a1] at FI
  rw [ha] at AB
  have i1 : ¬ (n : Int) < 1 := by omega
  have i2 : ¬ (17 : Int) < (n : Int) := by omega
  have NB := hid (And.intro n1 n17)
  have a0 : 0 ≤ a := by omega
  by_cases hz : a = 0
  · have E1 : Sh.wB a n = true := by rw [hz, Sh.wB, Sh.wn_zero n1]; rfl
    have E2 : Sh.wD a n = ⟨false, [48], 0⟩ := by rw [hz, Sh.wD, Sh.wn_zero n1]; exact Sh.dd_zero
    have K : Hid (∀ w' : World, Below w.heap.size w w' → XwTold d a n w (.returned (.tuple #[.agg #[.bool (d == 9223372036854775808), .string ⟨#[48]⟩, .int .i64 0], .bool true, .int .i64 0])) w') := fun w' hb => by
      refine ⟨⟨#[48]⟩, ?_, by rw [E2]; rfl, hb⟩
      rw [E1, E2, Bool.true_and]
      have : (d == 9223372036854775808) = decide (9223372036854775808 ≤ d) := by
        rw [Bool.eq_iff_iff, beq_iff_eq, decide_eq_true_iff]
        omega
      rw [this]
    rw [hz] at AB
    obtain ⟨⟨c0, c1, c2⟩, f0, f1, f2⟩ := Z.out.cells
    clear E1 E2 ha a1 h0 h1 hz a0
    go_enter Tryz.func13, Tryz.ntmps13
    go_wp2_with fail
    refine (FI.out _).mono ?_
    rintro en wx ⟨rfl, hw⟩
    rw [hw]
    clear hw
    go_wp2_with fail
    refine (AB.out _).mono ?_
    rintro en wy ⟨rfl, hw⟩
    rw [hw]
    clear hw
    go_wp2_with fail
    (try simp only [Exit.inBlock, Exit.then])
    refine bodyPost_ret (tresults_row_tmp2 rfl _ _ w.heap.size 28 _ (0, 0) _ rfl (FR3.new w _ _ _) Tryz.underlying28 rfl (by kernel_rfl)) rfl ?_
    exact K.out _ (alloc_b w _)
  · have ap : 0 < a := by omega
    have az : (a == 0) = false := beq_eq_false_iff_ne.2 hz
    obtain ⟨m0, m1, -, x1⟩ := Tn.man_bd ap a1
    obtain ⟨v1, v2⟩ := Sh.V_place ap a1
    have SP := hid (fun wx => xspan_any d a wx h0 h1 ha ap a1)
    obtain ⟨x, hx⟩ : ∃ x, x = (Ie.ex a : Int) - 1076 := ⟨_, rfl⟩
    have TE := hid (fun wx => xtens_any (4 * Ie.man a) x (Sh.pl (Sh.V a) - 1) wx (by omega) (by omega) (by omega) (by omega) (fun k hk _ => Tn.atl_pl ap hx k hk) (by omega) (by omega))
    have CH := hid (fun wx => xchoose_any a (Sh.pl (Sh.V a) - n) wx ap a1 (by omega) (by omega) (Tn.v_room ap n1 n17 (by omega)))
    have CK := hid (Tn.ck_pos ap n1 (by omega))
    have WN := hid (Tn.wn_ck (a := a) (n := n) ap n1)
    have KB : Tn.ck a (Tn.S (Sh.pl (Sh.V a) - n)) < 10 ^ 60 ∧ Tn.ck a (Tn.S (Sh.pl (Sh.V a) - n)) < Nm.pw 4096 ∧ 0 < Tn.ck a (Tn.S (Sh.pl (Sh.V a) - n)) := by
      have k3 : (10 : Int) ^ n ≤ 10 ^ 17 := Fx.p_le n17
      have k4 : (10 : Int) ^ 17 < 10 ^ 60 := by decide
      have h1 := pw_bd (a := 60) (b := 0) (by omega)
      rw [Int.pow_zero, Int.mul_one] at h1
      have := CK.out
      omega
    have NO := hid (fun (neg : Bool) r os wx h1 h2 => xnormal_any neg _ (Sh.pl (Sh.V a) - n) r os wx (by omega) (by omega) h1 h2 KB.2.2 KB.1)
    have KP := hid KB.2.1
    clear KB CK
    unfold Tn.spv at SP CH
    rw [← hx] at SP CH
    unfold ChTold at CH
    have K1 : Hid (∀ (w' : World) t, Tn.co a (Tn.S (Sh.pl (Sh.V a) - n)) = true → Str t (Sh.dd (Tn.ck a (Tn.S (Sh.pl (Sh.V a) - n)) * Tn.S (Sh.pl (Sh.V a) - n))).ds → Below w.heap.size w w' → XwTold d a n w (.returned (.tuple #[.agg #[.bool (decide (9223372036854775808 ≤ d)), .string t, .int .i64 (Sh.dd (Tn.ck a (Tn.S (Sh.pl (Sh.V a) - n)) * Tn.S (Sh.pl (Sh.V a) - n))).e], .bool true, .int .i64 0])) w') := fun w' t hc ht hb => by
      have q := WN.out
      rw [if_pos hc] at q
      have e1 : Sh.wB a n = true := by rw [Sh.wB, q]; rfl
      have e2 : Sh.wD a n = Sh.dd (Tn.ck a (Tn.S (Sh.pl (Sh.V a) - n)) * Tn.S (Sh.pl (Sh.V a) - n)) := by rw [Sh.wD, q]
      exact ⟨t, by rw [e1, e2, Bool.true_and], by rw [e2]; exact ht, hb⟩
    have K2 : Hid (∀ (w' : World), Tn.co a (Tn.S (Sh.pl (Sh.V a) - n)) = false → Below w.heap.size w w' → XwTold d a n w (.returned (.tuple #[.agg #[.bool false, .string ⟨#[]⟩, .int .i64 0], .bool false, .int .i64 0])) w') := fun w' hc hb => by
      have q := WN.out
      rw [if_neg (by rw [hc]; decide)] at q
      have e1 : Sh.wB a n = false := by rw [Sh.wB, q]; rfl
      have e2 : Sh.wD a n = ⟨false, [], 0⟩ := by rw [Sh.wD, q]
      exact ⟨⟨#[]⟩, by rw [e1, e2, Bool.false_and], by rw [e2]; rfl, hb⟩
    generalize Tn.S (Sh.pl (Sh.V a) - n) = SS at *
    generalize Sh.pl (Sh.V a) = PP at *
    generalize Tn.ck a SS = kc at *
    generalize Tn.co a SS = oc at *
    generalize 4 * Ie.man a + 2 = vh at *
    generalize 4 * Ie.man a = vm at *
    generalize Tn.lo a = vl at *
    generalize decide (a % 2 = 0) = cb at *
    clear ha a1 h0 h1 hz a0 ap m0 m1 x1 hx WN n1 n17
    go_enter Tryz.func13, Tryz.ntmps13
    go_wp2_with fail
    refine (FI.out _).mono ?_
    rintro en wx ⟨rfl, hw⟩
    rw [hw]
    clear hw
    go_wp2_with fail
    refine (AB.out _).mono ?_
    rintro en wy ⟨rfl, hw⟩
    rw [hw]
    clear hw
    go_wp2_with fail
    refine (SP.out _).mono ?_
    rintro en w1 ⟨rfl, b1⟩
    have Z1 := Z.out.below b1 Z.out.lt
    have b2 := alloc_b w1 (.cells #[.int .u64 vm, .int .u64 vl, .int .u64 vh, .int .i64 x, .bool cb] 56)
    have Z2 := hid (Z1.below b2 Z1.lt)
    have B2 := hid ((ZB.out.trans (b1.mono ZB.out.size)).trans (b2.mono (Nat.le_trans ZB.out.size b1.size)))
    have R2 := hid (R5.new w1 (.int .u64 vm) (.int .u64 vl) (.int .u64 vh) (.int .i64 x) (.bool cb))
    clear b1 b2 Z1 Z ZB SP FI AB
    go_wp2_with fail
    refine (TE.out _).mono ?_
    rintro en w3 ⟨rfl, b3⟩
    have Z3 := hid (Z2.out.below b3 Z2.out.lt)
    have B3 := hid (below_on B2.out b3)
    have R3 := hid (R2.out.on b3)
    obtain ⟨⟨c0, c1, c2, c3, c4⟩, -⟩ := R3.out.cells
    clear b3 Z2 B2 R2 TE
    go_wp2_with fail
    refine (CH.out _).mono ?_
    rintro en w4 ⟨r, os, rfl, A4, b4⟩
    have Z4 := hid (Z3.out.below b4 Z3.out.lt)
    have B4 := hid (below_on B3.out b4)
    have A5 := hid A4
    clear c0 c1 c2 c3 c4 A4 b4 Z3 B3 R3 CH
    cases oc with
    | false =>
      obtain ⟨⟨c0, c1, c2⟩, f0, f1, f2⟩ := Z4.out.cells
      go_wp2_with fail
      (try simp only [Exit.inBlock, Exit.then])
      refine bodyPost_ret (tresults_row_tmp2 rfl _ _ w.heap.size 28 _ (0, 0) _ rfl (Z4.out.put _ _ _) Tryz.underlying28 rfl (by kernel_rfl)) rfl ?_
      exact K2.out _ (by trivial) (fset3_below B4.out (Nat.le_refl _))
    | true =>
      have NN := hid (NO.out (decide (9223372036854775808 ≤ d)) r os w4 (A5.out.argT KP.out) A5.out.2.2.2.1)
      clear NO KP
      unfold NoTold at NN
      go_wp2_with fail
      refine NN.out.mono ?_
      rintro en w5 ⟨t, rfl, ht, b5⟩
      have Z5 := hid (Z4.out.below b5 Z4.out.lt)
      have B5 := hid (below_on B4.out b5)
      have HT := hid ht
      obtain ⟨⟨c0, c1, c2⟩, f0, f1, f2⟩ := Z5.out.cells
      clear b5 Z4 B4 NN ht
      go_wp2_with fail
      (try simp only [Exit.inBlock, Exit.then])
      refine bodyPost_ret (tresults_row_tmp2 rfl _ _ w.heap.size 28 _ (0, 0) _ rfl (Z5.out.put _ _ _) Tryz.underlying28 rfl (by kernel_rfl)) rfl ?_
      exact K1.out _ t (by trivial) HT.out.out (fset3_below B5.out (Nat.le_refl _))
end Go.Proofs.YtonnlimmjelldaaGreatDoor

namespace Go.Proofs.YtonnlimmjelldaaGreatDoor
open Go Go.RowKit Go.Deep

/-- What the search tells. -/
def SrTold (p : Nat → Bool) (w : World) (e : Ending) (w' : World) : Prop := ∃ f : Nat, e = .returned (.int .i64 f) ∧ f ≤ 16 ∧ (0 < f → p (f - 1) = false) ∧ (f < 16 → p f = true) ∧ Below w.heap.size w w'

set_option maxRecDepth 100000 in
set_option maxHeartbeats 4000000 in
theorem search_any (g : Nat) (cb : Array Value) (p : Nat → Bool) (w : World) (eg : ∀ args w, (callFunc g args).run Tryz.prog w = .ok (.enter g args) w)
    (hf : ∀ (wx : World) (i : Nat), Below w.heap.size w wx → i < 16 → Calls Tryz.prog g (#[.int .i64 i] ++ cb) wx fun e w' => e = .returned (.bool (p i)) ∧ Below wx.heap.size wx w') :
    Calls Tryz.prog 20 #[.int .i64 16, .func (.func g) #[] cb] w fun e w' => SrTold p w e w' := by
  have HF := hid hf
  clear hf
  go_enter Tryz.func20, Tryz.ntmps20
  go_wp2_with fail
  go_loopg [5, 6] 16 (fun kx s5 s6 wr => ∃ (lo hi : Nat), s5 = .int .i64 lo ∧ s6 = .int .i64 hi ∧ lo ≤ hi ∧ hi ≤ 16 ∧ hi - lo ≤ kx ∧ Hid (Below w.heap.size w wr ∧ (0 < lo → p (lo - 1) = false) ∧ (hi < 16 → p hi = true)))
  case atStart => exact ⟨0, 16, rfl, rfl, by omega, by omega, by omega, (⟨Below.refl _ _, fun h => absurd h (by decide), fun h => absurd h (by decide)⟩ : Below w.heap.size w w ∧ (0 < 0 → p (0 - 1) = false) ∧ (16 < 16 → p 16 = true))⟩
  case round =>
    obtain ⟨lo, hi, rfl, rfl, hlh, hin, hg, I⟩ := hrel
    by_cases hlt : lo < hi
    · have hc := HF.out _ ((lo + hi) / 2) I.out.1 (by omega)
      rw [show (((lo + hi) / 2 : Nat) : Int) = ((lo : Int) + (hi : Int)) / 2 by omega] at hc
      cases hp : p ((lo + hi) / 2) <;> rw [hp] at hc
      · have HP := hid hp
        clear hp
        go_wp2_with (go_at_fn g; refine hc.mono ?_; rintro e w' ⟨rfl, hB⟩)
        go_roundg (hi - ((lo + hi) / 2 + 1))
        case measure => omega
        case rel =>
          have I2 : Hid (Below w.heap.size w w' ∧ (0 < (lo + hi) / 2 + 1 → p ((lo + hi) / 2 + 1 - 1) = false) ∧ (hi < 16 → p hi = true)) := ⟨I.out.1.trans (hB.mono I.out.1.size), fun _ => by rw [Nat.add_sub_cancel]; exact HP.out, I.out.2.2⟩
          exact ⟨(lo + hi) / 2 + 1, hi, by rw [show ((lo : Int) + (hi : Int)) / 2 + 1 = (((lo + hi) / 2 + 1 : Nat) : Int) by omega], rfl, by omega, hin, Nat.le_refl _, I2⟩
      · have HP := hid hp
        clear hp
        go_wp2_with (go_at_fn g; refine hc.mono ?_; rintro e w' ⟨rfl, hB⟩)
        go_roundg ((lo + hi) / 2 - lo)
        case measure => omega
        case rel =>
          have I2 : Hid (Below w.heap.size w w' ∧ (0 < lo → p (lo - 1) = false) ∧ ((lo + hi) / 2 < 16 → p ((lo + hi) / 2) = true)) := ⟨I.out.1.trans (hB.mono I.out.1.size), I.out.2.1, fun _ => HP.out⟩
          exact ⟨lo, (lo + hi) / 2, rfl, by rw [show ((lo : Int) + (hi : Int)) / 2 = (((lo + hi) / 2 : Nat) : Int) by omega], by omega, by omega, Nat.le_refl _, I2⟩
    · obtain rfl : hi = lo := by omega
      have K : Hid (SrTold p w (.returned (.int .i64 (hi : Int))) wr) := ⟨hi, rfl, hin, I.out.2.1, I.out.2.2, I.out.1⟩
      clear I HF
      go_wp2_with fail
      go_ret
      exact K.out
end Go.Proofs.YtonnlimmjelldaaGreatDoor

namespace Go.Proofs.YtonnlimmjelldaaGreatDoor
open Go Go.RowKit Go.Deep

namespace Sh
theorem fnt_iff {d : Int} : Ie.fnt d = decide (d % 9223372036854775808 < 9218868437227405312) := by
  unfold Ie.fnt Ie.cls Ie.fld
  rw [Bool.eq_iff_iff, decide_eq_true_iff, decide_eq_true_iff]
  split
  · split <;> omega
  · split
    · split <;> omega
    · omega
/-- What Digits tells. -/
noncomputable def zD (d : Int) : Sc.D := if Ie.fnt d = true then ⟨ng d, (dd (dgt (d % 9223372036854775808))).ds, (dd (dgt (d % 9223372036854775808))).e⟩ else ⟨false, [], 0⟩
def zR (d : Int) : Int := if Ie.fnt d = true then 0 else 5
end Sh

set_option maxRecDepth 100000 in
theorem zclo_any (a : Int) (i bs : Nat) (s1 s2 s3 : ByteArray) (w : World) (h0 : 0 ≤ a) (hf : a < 9218868437227405312) (hi : i < 16) (htab : Tab10 w)
    (g1 : Str s1 (Sh.dd (Sh.V a)).ds) (g2 : Str s2 (Sh.dd (Sh.A a)).ds) (g3 : Str s3 (Sh.dd (Sh.B a)).ds)
    (hS : Ten w bs (.bool (Sh.dd (Sh.V a)).neg) (.string s1) (.int .i64 (Sh.dd (Sh.V a)).e) (.bool (Sh.dd (Sh.A a)).neg) (.string s2) (.int .i64 (Sh.dd (Sh.A a)).e) (.bool (Sh.dd (Sh.B a)).neg) (.string s3) (.int .i64 (Sh.dd (Sh.B a)).e) (.bool (decide (a % 2 = 0)))) :
    Calls Tryz.prog 21 (#[.int .i64 i] ++ #[.pointer (some ⟨bs, 0, none⟩)]) w fun e w' => e = .returned (.bool (Sh.wB a (i + 1))) ∧ Below w.heap.size w w' := by
  have W := hid (zwithin_any a (i + 1) s1 s2 s3 w h0 hf (by omega) (by omega) htab g1 g2 g3)
  obtain ⟨⟨c0, c1, c2⟩, ⟨c3, c4, c5⟩, ⟨c6, c7, c8⟩, c9⟩ := hS.cells
  rw [show (((i + 1 : Nat)) : Int) = (i : Int) + 1 by omega] at W
  unfold spanV at W
  have hi2 : (i : Int) < 16 := by omega
  clear hS g1 g2 g3 htab h0 hf
  go_enter Tryz.func21, Tryz.ntmps21
  go_wp2_with fail
  refine W.out.mono ?_
  rintro e w1 ⟨t, rfl, -, hB⟩
  have K := hid (hB.trans ((alloc_b w1 (.cells #[.bool (Sh.wD a (i + 1)).neg, .string t, .int .i64 (Sh.wD a (i + 1)).e] 28)).mono hB.size))
  clear hB W
  go_wp2_with fail
  go_ret
  exact ⟨rfl, K.out⟩

def DigTold (d : Int) (w : World) (e : Ending) (w' : World) : Prop :=
  ∃ t, e = .returned (.tuple #[.agg #[.bool (Sh.zD d).neg, .string t, .int .i64 (Sh.zD d).e], .int .i64 (Sh.zR d)]) ∧ Hid (Str t (Sh.zD d).ds) ∧ Below w.heap.size w w'

set_option maxRecDepth 100000 in
set_option maxHeartbeats 4000000 in
theorem zdig_any (d : Int) (w : World) (h0 : 0 ≤ d) (h1 : d < 18446744073709551616) (htab : Tab10 w) :
    Calls Tryz.prog 8 #[.int .u64 d] w fun e w' => DigTold d w e w' := by
  have FN := hid (fun wx : World => zfinite_any d wx h0 h1)
  have NG := hid (fun wx : World => znegative_any d wx h0 h1)
  have Z := FR3.new w (.bool false) (.string ⟨#[]⟩) (.int .i64 0)
  have ZB := alloc_b w (.cells #[.bool false, .string ⟨#[]⟩, .int .i64 0] 28)
  by_cases hf : Ie.fnt d = true
  · have hfin : d % 9223372036854775808 < 9218868437227405312 := by rw [Sh.fnt_iff] at hf; exact of_decide_eq_true hf
    obtain ⟨a, ha⟩ : ∃ a, d % 9223372036854775808 = a := ⟨_, rfl⟩
    have a0 : 0 ≤ a := by omega
    have SP := hid (fun wx : World => zspan_any d wx h0 h1 hfin)
    have G : Hid (∀ (w' : World) (t : ByteArray), Str t (Sh.dd (Sh.dgt a)).ds → Below w.heap.size w w' → DigTold d w (.returned (.tuple #[.agg #[.bool (Sh.ng d), .string t, .int .i64 (Sh.dd (Sh.dgt a)).e], .int .i64 0])) w') := by
      intro w' t ht hB
      have e : Sh.zD d = ⟨Sh.ng d, (Sh.dd (Sh.dgt a)).ds, (Sh.dd (Sh.dgt a)).e⟩ := by rw [Sh.zD, if_pos hf, ha]
      exact ⟨t, by rw [e, Sh.zR, if_pos hf], by rw [e]; exact ht, hB⟩
    rw [ha] at SP hfin
    rw [hf] at FN
    have HZ := hid (And.intro Z ZB)
    have TB := hid (tab10_below htab ZB)
    clear Z ZB htab hf ha h0 h1
    go_enter Tryz.func8, Tryz.ntmps8
    go_wp2_with fail
    refine (FN.out _).mono ?_
    rintro e wz ⟨rfl, hz⟩
    subst hz
    go_wp2_with fail
    refine (SP.out _).mono ?_
    rintro e w1 ⟨v, rfl, ⟨s1, s2, s3, hv, g1, g2, g3⟩, B1⟩
    unfold spanV at hv
    subst hv
    have aL := alloc_b w1 (.cells #[.bool (Sh.dd (Sh.V a)).neg, .string s1, .int .i64 (Sh.dd (Sh.V a)).e, .bool (Sh.dd (Sh.A a)).neg, .string s2, .int .i64 (Sh.dd (Sh.A a)).e, .bool (Sh.dd (Sh.B a)).neg, .string s3, .int .i64 (Sh.dd (Sh.B a)).e, .bool (decide (a % 2 = 0))] 44)
    have HB1 := hid (B1.trans (aL.mono B1.size))
    have TN : Hid (Ten (w1.alloc (.cells #[.bool (Sh.dd (Sh.V a)).neg, .string s1, .int .i64 (Sh.dd (Sh.V a)).e, .bool (Sh.dd (Sh.A a)).neg, .string s2, .int .i64 (Sh.dd (Sh.A a)).e, .bool (Sh.dd (Sh.B a)).neg, .string s3, .int .i64 (Sh.dd (Sh.B a)).e, .bool (decide (a % 2 = 0))] 44)) w1.heap.size (.bool (Sh.dd (Sh.V a)).neg) (.string s1) (.int .i64 (Sh.dd (Sh.V a)).e) (.bool (Sh.dd (Sh.A a)).neg) (.string s2) (.int .i64 (Sh.dd (Sh.A a)).e) (.bool (Sh.dd (Sh.B a)).neg) (.string s3) (.int .i64 (Sh.dd (Sh.B a)).e) (.bool (decide (a % 2 = 0)))) := RB.new w1 44 _
    have T1 := hid (tab10_below TB.out HB1.out)
    have SE := hid (search_any 21 #[.pointer (some ⟨w1.heap.size, 0, none⟩)] (fun i => Sh.wB a (i + 1)) _ (enters_of Tryz.func21 (by kernel_rfl) rfl) (fun wx i hB hi => zclo_any a i w1.heap.size s1 s2 s3 wx a0 hfin hi (tab10_below T1.out hB) g1 g2 g3 (RB.below TN.out hB (RB.lt TN.out))))
    have GS := hid (And.intro g1 (And.intro g2 g3))
    clear B1 aL g1 g2 g3 SP FN TB
    go_wp2_with fail
    refine SE.out.mono ?_
    rintro e w2 ⟨f, rfl, hf16, hf1, hf2, B2⟩
    have fn0 : f = Sh.n0 a := Sh.isn_of a0 hf16 (fun h => by have q : Sh.wB a (f - 1 + 1) = false := hf1 h; rw [show f - 1 + 1 = f by omega] at q; exact q) hf2
    have T2 := hid (tab10_below T1.out B2)
    have TN2 := RB.below TN.out B2 (RB.lt TN.out)
    have HB2 := hid (HB1.out.trans (B2.mono HB1.out.size))
    obtain ⟨⟨c0, c1, c2⟩, ⟨c3, c4, c5⟩, ⟨c6, c7, c8⟩, c9⟩ := Ten.cells TN2
    have W := zwithin_any a (f + 1) s1 s2 s3 w2 a0 hfin (by omega) (by omega) T2.out GS.out.1 GS.out.2.1 GS.out.2.2
    have ED : Sh.wD a (f + 1) = Sh.dd (Sh.dgt a) := by rw [Sh.wD, fn0, Sh.wn_dgt a0]
    unfold WnTold at W
    rw [ED] at W
    rw [show (((f + 1 : Nat)) : Int) = (f : Int) + 1 by omega] at W
    unfold spanV at W
    have HW := hid W
    have f16 : (f : Int) ≤ 16 := by omega
    generalize Sh.wB a (f + 1) = ok at *
    generalize hDD : Sh.dd (Sh.dgt a) = DD at *
    clear W ED TN2 SE B2 hf1 hf2 hf16 fn0 GS TN T1 T2 HB1 hDD
    go_wp2_with fail
    refine HW.out.mono ?_
    rintro e w3 ⟨t, rfl, ht, B3⟩
    have RZ3 := HZ.out.1.below (HB2.out.trans (B3.mono HB2.out.size)) HZ.out.1.lt
    have BW3 := HZ.out.2.trans ((HB2.out.trans (B3.mono HB2.out.size)).mono HZ.out.2.size)
    have RZA := hid (RZ3.below (alloc_b w3 (.cells #[.bool (Sh.ng d), .string t, .int .i64 DD.e] 28)) RZ3.lt)
    have RZB := RZ3.below (alloc_b w3 (.cells #[.bool DD.neg, .string t, .int .i64 DD.e] 28)) RZ3.lt
    have K := hid (G.out _ t ht (fset3_below (u0 := .bool (Sh.ng d)) (u1 := .string t) (u2 := .int .i64 DD.e) (b := w.heap.size) (BW3.trans ((alloc_b w3 (.cells #[.bool (Sh.ng d), .string t, .int .i64 DD.e] 28)).mono BW3.size)) (Nat.le_refl _)))
    obtain ⟨⟨a0', a1, a2⟩, a3, a4, a5⟩ := RZA.out.cells
    obtain ⟨⟨b0, b1, b2⟩, b3, b4, b5⟩ := RZB.cells
    clear HW B3 HB2 c0 c1 c2 c3 c4 c5 c6 c7 c8 c9 ht RZ3 BW3 RZB
    generalize Sh.ng d = ngd at *
    go_wp2_with fail
    refine (NG.out _).mono ?_
    rintro e wz ⟨rfl, hz⟩
    subst hz
    go_wp2_with fail
    (try simp only [Exit.inBlock, Exit.then])
    refine bodyPost_ret (fresults_row_tmp rfl _ _ w.heap.size 28 _ (0, 0) _ rfl (RZA.out.put _ _ _) Tryz.underlying28 rfl (by kernel_rfl)) rfl ?_
    exact K.out
  · have hf' : Ie.fnt d = false := by simpa using hf
    have G : Hid (∀ (w' : World), Below w.heap.size w w' → DigTold d w (.returned (.tuple #[.agg #[.bool false, .string ⟨#[]⟩, .int .i64 0], .int .i64 5])) w') := by
      intro w' hB
      have e : Sh.zD d = ⟨false, [], 0⟩ := by rw [Sh.zD, if_neg hf]
      exact ⟨⟨#[]⟩, by rw [e, Sh.zR, if_neg hf], by rw [e]; rfl, hB⟩
    rw [hf'] at FN
    have HZ := hid (And.intro Z ZB)
    have K := hid (G.out _ ZB)
    obtain ⟨⟨c0, c1, c2⟩, f0, f1, f2⟩ := Z.cells
    clear Z ZB htab hf hf' G
    go_enter Tryz.func8, Tryz.ntmps8
    go_wp2_with fail
    refine (FN.out _).mono ?_
    rintro e wz ⟨rfl, hz⟩
    replace hz := hz.symm
    subst hz
    go_wp2_with fail
    (try simp only [Exit.inBlock, Exit.then])
    refine bodyPost_ret (fresults_row_tmp rfl _ _ w.heap.size 28 _ (0, 0) _ rfl HZ.out.1 Tryz.underlying28 rfl (by kernel_rfl)) rfl ?_
    exact K.out
end Go.Proofs.YtonnlimmjelldaaGreatDoor

namespace Go.Proofs.YtonnlimmjelldaaGreatDoor
open Go Go.RowKit Go.Deep

set_option maxRecDepth 100000 in
set_option maxHeartbeats 8000000 in
theorem xdig_any (d a : Int) (w : World) (h0 : 0 ≤ d) (h1 : d < 18446744073709551616) (ha : d % 9223372036854775808 = a) (a1 : a < 9218868437227405312) :
    Calls Tryz.prog 12 #[.int .u64 d] w fun en w' => DigTold d w en w' := by
  have Z := hid (FR3.new w (.bool false) (.string ⟨#[]⟩) (.int .i64 0))
  have ZB := hid (alloc_b w (.cells #[.bool false, .string ⟨#[]⟩, .int .i64 0] 28))
  have WI := hid (fun (n : Nat) wx (n1 : 1 ≤ n) (n17 : n ≤ 17) => xwithin_any d a n wx h0 h1 ha a1 n1 n17)
  have a0 : 0 ≤ a := by omega
  have hf : Ie.fnt d = true := by rw [Sh.fnt_iff, ha]; exact decide_eq_true a1
  have G : Hid (∀ (w' : World) (t : ByteArray), Str t (Sh.dd (Sh.dgt a)).ds → Below w.heap.size w w' → DigTold d w (.returned (.tuple #[.agg #[.bool (decide (9223372036854775808 ≤ d)), .string t, .int .i64 (Sh.dd (Sh.dgt a)).e], .int .i64 0])) w') := by
    intro w' t ht hB
    have e : Sh.zD d = ⟨Sh.ng d, (Sh.dd (Sh.dgt a)).ds, (Sh.dd (Sh.dgt a)).e⟩ := by rw [Sh.zD, if_pos hf, ha]
    exact ⟨t, by rw [e, Sh.zR, if_pos hf]; rfl, by rw [e]; exact ht, hB⟩
  have N0 : Hid (∀ i, i ≤ 16 → (∀ j, j < i → (Sh.wn a (j + 1)).isSome = false) → Sh.wB a (i + 1) = true → Sh.wD a (i + 1) = Sh.dd (Sh.dgt a)) := fun i hi hj hb => by
    have e : i = Sh.n0 a := Sh.IsN.one ⟨hi, hj, fun _ => hb⟩ (Sh.n0_is a)
    rw [Sh.wD, e, Sh.wn_dgt a0]
  have N1 : Hid (∀ i, i ≤ 16 → Sh.wB a (i + 1) = false → i < 16) := fun i hi hb => by
    rcases Nat.lt_or_ge i 16 with c | c
    · exact c
    · have e : i = 16 := by omega
      subst e
      have := Sh.wn_17 a0
      rw [Sh.wB] at hb
      rw [hb] at this
      cases this
  clear hf ha a1 h0 h1 a0
  unfold XwTold at WI
  go_enter Tryz.func12, Tryz.ntmps12
  go_wp2_with fail
  go_loopg [4] 16 (fun m nv wr => ∃ i : Nat, i + m = 16 ∧ nv = .int .i64 ((i : Int) + 1) ∧ Hid ((∀ j, j < i → (Sh.wn a (j + 1)).isSome = false) ∧ Below w.heap.size w wr ∧ FR3 wr w.heap.size (.bool false) (.string ⟨#[]⟩) (.int .i64 0)))
  case atStart => exact ⟨0, rfl, rfl, fun j hj => absurd hj (Nat.not_lt_zero _), ZB.out, Z.out⟩
  case round =>
    obtain ⟨i, hi, rfl, J⟩ := hrel
    clear Z ZB
    have i16 : (i : Int) ≤ 16 := by omega
    have W := WI.out (i + 1) wr (by omega) (by omega)
    rw [show (((i + 1 : Nat)) : Int) = (i : Int) + 1 by omega] at W
    have HW := hid W
    have J1 := hid J.out.1
    have JB := hid J.out.2.1
    have JR := hid J.out.2.2
    clear W J
    cases hb : Sh.wB a (i + 1) with
    | true =>
      have ed := N0.out i (by omega) J1.out hb
      rw [hb, ed, Bool.true_and] at HW
      clear ed hb N0 N1 WI J1
      generalize Sh.dd (Sh.dgt a) = DD at *
      go_wp2_with fail
      refine HW.out.mono ?_
      rintro en w1 ⟨t, rfl, ht, b1⟩
      have R1 := JR.out.below b1 JR.out.lt
      have B1 := below_on JB.out b1
      have R2 := hid (R1.below (alloc_b w1 (.cells #[.bool (decide (9223372036854775808 ≤ d)), .string t, .int .i64 DD.e] 28)) R1.lt)
      have B2 := hid (below_on B1 (alloc_b w1 (.cells #[.bool (decide (9223372036854775808 ≤ d)), .string t, .int .i64 DD.e] 28)))
      have HT := hid ht
      obtain ⟨⟨c0, c1, c2⟩, f0, f1, f2⟩ := R2.out.cells
      clear R1 B1 b1 ht HW JB JR
      generalize decide (9223372036854775808 ≤ d) = sg at *
      go_wp2_with fail
      (try simp only [Exit.inBlock, Exit.then])
      refine bodyPost_ret (fresults_row_tmp rfl _ _ w.heap.size 28 _ (0, 0) _ rfl (R2.out.put _ _ _) Tryz.underlying28 rfl (by kernel_rfl)) rfl ?_
      exact G.out _ t HT.out.out (fset3_below B2.out (Nat.le_refl _))
    | false =>
      have hl := N1.out i (by omega) hb
      have J2 : Hid (∀ j, j < i + 1 → (Sh.wn a (j + 1)).isSome = false) := fun j hj => by
        rcases Nat.eq_or_lt_of_le (Nat.le_of_lt_succ hj) with c | c
        · rw [c]; exact hb
        · exact J1.out j c
      rw [hb, Bool.false_and] at HW
      clear hb N0 N1 WI J1
      generalize Sh.wD a (i + 1) = DD at *
      go_wp2_with fail
      refine HW.out.mono ?_
      rintro en w1 ⟨t, rfl, ht, b1⟩
      have R1 := JR.out.below b1 JR.out.lt
      have B1 := below_on JB.out b1
      have R2 := hid (R1.below (alloc_b w1 (.cells #[.bool false, .string t, .int .i64 DD.e] 28)) R1.lt)
      have B2 := hid (below_on B1 (alloc_b w1 (.cells #[.bool false, .string t, .int .i64 DD.e] 28)))
      clear R1 B1 b1 ht HW JB JR
      go_wp2_with fail
      go_roundg (16 - (i + 1))
      case measure => omega
      case rel => exact ⟨i + 1, by omega, by go_num, J2.out, B2.out, R2.out⟩
end Go.Proofs.YtonnlimmjelldaaGreatDoor

namespace Go.Proofs.YtonnlimmjelldaaGreatDoor
open Go Go.RowKit Go.Deep Go.Shelf

def jren : Go.Shelf.Ren := ⟨fun | 105 => 87 | 212 => 124 | 99 => 125 | 165 => 126 | 166 => 127 | 170 => 128 | 169 => 129 | 263 => 161 | 264 => 144 | 206 => 162 | 240 => 163 | 241 => 164 | 276 => 179 | 277 => 180 | 137 => 199 | 217 => 208 | 266 => 213 | n => n, fun | 9 => 9 | 3 => 3 | 4 => 4 | 20 => 20 | 0 => 0 | 46 => 70 | 109 => 130 | 5 => 5 | 72 => 135 | 76 => 137 | 51 => 158 | 146 => 169 | 53 => 26 | 148 => 148 | 70 => 133 | 37 => 117 | 75 => 72 | 127 => 168 | 164 => 183 | 80 => 140 | n => n, fun  | n => n⟩
theorem repLays : Go.Proofs.Lays.n105 Tryz.prog jren where
  mixed := by kernel_rfl
  f99 := Tryz.func125.trans (congrArg some (by kernel_rfl))
  f105 := Tryz.func87.trans (congrArg some (by kernel_rfl))
  f165 := Tryz.func126.trans (congrArg some (by kernel_rfl))
  f166 := Tryz.func127.trans (congrArg some (by kernel_rfl))
  f169 := Tryz.func129.trans (congrArg some (by kernel_rfl))
  f170 := Tryz.func128.trans (congrArg some (by kernel_rfl))
  f206 := Tryz.func162.trans (congrArg some (by kernel_rfl))
  f212 := Tryz.func124.trans (congrArg some (by kernel_rfl))
  f240 := Tryz.func163.trans (congrArg some (by kernel_rfl))
  f241 := Tryz.func164.trans (congrArg some (by kernel_rfl))
  f263 := Tryz.func161.trans (congrArg some (by kernel_rfl))
  f264 := Tryz.func144.trans (congrArg some (by kernel_rfl))
  f276 := Tryz.func179.trans (congrArg some (by kernel_rfl))
  f277 := Tryz.func180.trans (congrArg some (by kernel_rfl))
  t0 := by kernel_rfl
  a0 := fun _ => by kernel_rfl
  z0 := fun _ => by kernel_rfl
  v0 := fun _ => by kernel_rfl
  t3 := by kernel_rfl
  a3 := fun _ => by kernel_rfl
  z3 := fun _ => by kernel_rfl
  v3 := fun _ => by kernel_rfl
  t4 := by kernel_rfl
  a4 := fun _ => by kernel_rfl
  z4 := fun _ => by kernel_rfl
  v4 := fun _ => by kernel_rfl
  t5 := by kernel_rfl
  a5 := fun _ => by kernel_rfl
  z5 := fun _ => by kernel_rfl
  v5 := fun _ => by kernel_rfl
  t9 := by kernel_rfl
  a9 := fun _ => by kernel_rfl
  z9 := fun _ => by kernel_rfl
  v9 := fun _ => by kernel_rfl
  t20 := by kernel_rfl
  a20 := fun _ => by kernel_rfl
  z20 := fun _ => by kernel_rfl
  v20 := fun _ => by kernel_rfl
  t37 := by kernel_rfl
  a37 := fun _ => by kernel_rfl
  z37 := fun _ => by kernel_rfl
  v37 := fun _ => by kernel_rfl
  t46 := by kernel_rfl
  a46 := fun _ => by kernel_rfl
  z46 := fun _ => by kernel_rfl
  v46 := fun _ => by kernel_rfl
  t51 := by kernel_rfl
  a51 := fun _ => by kernel_rfl
  z51 := fun _ => by kernel_rfl
  v51 := fun _ => by kernel_rfl
  t53 := by kernel_rfl
  a53 := fun _ => by kernel_rfl
  z53 := fun _ => by kernel_rfl
  v53 := fun _ => by kernel_rfl
  t70 := by kernel_rfl
  a70 := fun _ => by kernel_rfl
  z70 := fun _ => by kernel_rfl
  v70 := fun _ => by kernel_rfl
  t72 := by kernel_rfl
  a72 := fun _ => by kernel_rfl
  z72 := fun _ => by kernel_rfl
  v72 := fun _ => by kernel_rfl
  t75 := by kernel_rfl
  a75 := fun _ => by kernel_rfl
  z75 := fun _ => by kernel_rfl
  v75 := fun _ => by kernel_rfl
  t76 := by kernel_rfl
  a76 := fun _ => by kernel_rfl
  z76 := fun _ => by kernel_rfl
  v76 := fun _ => by kernel_rfl
  t109 := by kernel_rfl
  a109 := fun _ => by kernel_rfl
  z109 := fun _ => by kernel_rfl
  v109 := fun _ => by kernel_rfl
  t127 := by kernel_rfl
  a127 := fun _ => by kernel_rfl
  z127 := fun _ => by kernel_rfl
  v127 := fun _ => by kernel_rfl
  t146 := by kernel_rfl
  a146 := fun _ => by kernel_rfl
  z146 := fun _ => by kernel_rfl
  v146 := fun _ => by kernel_rfl
  t148 := by kernel_rfl
  a148 := fun _ => by kernel_rfl
  z148 := fun _ => by kernel_rfl
  v148 := fun _ => by kernel_rfl
  t164 := by kernel_rfl
  a164 := fun _ => by kernel_rfl
  z164 := fun _ => by kernel_rfl
  v164 := fun _ => by kernel_rfl
theorem repExtra : Builder.Extra Tryz.prog jren where
  sizeBuilder := by kernel_rfl
  liesBuilder := by kernel_rfl
  t5 := by kernel_rfl
  a5 := fun _ => by kernel_rfl
  z5 := fun _ => by kernel_rfl
  v5 := fun _ => by kernel_rfl
  infoByte := by kernel_rfl
  cellsByte := by kernel_rfl
  sizeByte := by kernel_rfl
  neB5 := by decide

theorem repeat_str (c : Nat) : Str ⟨(Lib.repeatL (#[48] : Array UInt8).toList c).toArray⟩ (List.replicate c 48) := by
  unfold Str
  simp only
  induction c with
  | zero => rfl
  | succ c ih =>
    rw [Lib.repeatL, List.replicate_succ]
    simpa using ih

theorem frepeat_any (c : Nat) (w : World) (hc : c ≤ 100000) :
    Calls Tryz.prog 87 #[.string ⟨#[48]⟩, .int .i64 (c : Int)] w fun e w' => ∃ s, e = .returned (.string s) ∧ Str s (List.replicate c 48) ∧ Below w.heap.size w w' := by
  refine (Any.strings_Repeat repLays repExtra ⟨#[48]⟩ c w (by omega) (by have : (⟨#[48]⟩ : ByteArray).size = 1 := rfl; rw [this]; omega)).mono ?_
  rintro e w' ⟨rfl, hB⟩
  exact ⟨_, rfl, repeat_str c, hB⟩
end Go.Proofs.YtonnlimmjelldaaGreatDoor

namespace Go.Proofs.YtonnlimmjelldaaGreatDoor
open Go Go.RowKit Go.Deep

theorem Str.tcat {a b : ByteArray} {xs ys : List Int} (h : Str a xs) (k : Str b ys) : Str (a ++ b) (xs ++ ys) := by
  unfold Str at *
  rw [ByteArray.data_append, Array.toList_append, List.map_append, h, k]
namespace Tn
/-- What Itoa writes. -/
def itl (x : Int) : List Int := (Lib.itoa x).map (fun b => (b.toNat : Int))
theorem itl_len {x : Int} (h0 : 0 ≤ x) (h1 : x ≤ 100000) : (⟨(Lib.itoa x).toArray⟩ : ByteArray).size ≤ 100 := by
  have h := Lib.itoa_length_le x (by omega) (by omega)
  show (Lib.itoa x).toArray.size ≤ 100
  rw [List.size_toArray]
  omega
theorem itl_str (x : Int) : Str ⟨(Lib.itoa x).toArray⟩ (itl x) := rfl
/-- The exponent's part. -/
def pw (p : Int) : List Int := (if p < 0 then [101, 45] else [101, 43]) ++ ((if (if p < 0 then -p else p) < 10 then [48] else []) ++ itl (if p < 0 then -p else p))
theorem pw_len {p : Int} (h0 : -100000 ≤ p) (h1 : p ≤ 100000) : (pw p).length ≤ 1000 := by
  have h := Lib.itoa_length_le (if p < 0 then -p else p) (by split <;> omega) (by split <;> omega)
  have e : (itl (if p < 0 then -p else p)).length ≤ 21 := by rw [itl, List.length_map]; exact h
  unfold pw
  rw [List.length_append, List.length_append]
  have a : (if p < 0 then [101, 45] else [101, 43] : List Int).length = 2 := by split <;> rfl
  have b : ∀ m : Int, (if m < 10 then [48] else [] : List Int).length ≤ 1 := fun m => by split <;> simp
  have b2 := b (if p < 0 then -p else p)
  omega
def lay (xs : List Int) (p : Int) : List Int :=
  if 0 < p ∧ p ≤ 21 then (if (xs.length : Int) ≤ p then xs ++ List.replicate (p - (xs.length : Int)).toNat 48 else xs.take p.toNat ++ ([46] ++ xs.drop p.toNat))
  else if -6 < p ∧ p ≤ 0 then [48, 46] ++ (List.replicate (-p).toNat 48 ++ xs)
  else xs.take 1 ++ ((if 1 < xs.length then [46] ++ xs.drop 1 else []) ++ pw (p - 1))
end Tn
/-- A text is told. -/
def TxTold (xs : List Int) (w : World) (e : Ending) (w' : World) : Prop := ∃ t, e = .returned (.string t) ∧ Hid (Str t xs) ∧ Below w.heap.size w w'

set_option maxRecDepth 100000 in
theorem zzeros_any (n : Nat) (w : World) (hn : n ≤ 100000) :
    Calls Tryz.prog 51 #[.int .i64 (n : Int)] w fun e w' => TxTold (List.replicate n 48) w e w' := by
  have R := hid (frepeat_any n w hn)
  clear hn
  go_enter Tryz.func51, Tryz.ntmps51
  go_wp2_with fail
  refine R.out.mono ?_
  rintro e w1 ⟨s, rfl, hs, hB⟩
  have F : Hid (TxTold (List.replicate n 48) w (.returned (.string s)) w1) := ⟨s, rfl, hs, hB⟩
  clear hs hB R
  go_wp2_with fail
  go_ret
  exact F.out
set_option maxRecDepth 100000 in
set_option maxHeartbeats 2000000 in
theorem xzer_any (n : Nat) (w : World) (hn : n ≤ 100000) :
    Calls Tryz.prog 71 #[.int .i64 (n : Int)] w fun e w' => TxTold (List.replicate n 48) w e w' := by
  have hni : (n : Int) ≤ 100000 := by omega
  go_enter Tryz.func71, Tryz.ntmps71
  go_wp2_with fail
  go_loopg [3, 4] n (fun m sv iv wr => ∃ (t : Nat) (s : ByteArray), t + m = n ∧ sv = .string s ∧ iv = .int .i64 (t : Int) ∧ Hid (Str s (List.replicate t 48) ∧ wr = w))
  case atStart => exact ⟨0, ⟨#[]⟩, by omega, rfl, rfl, rfl, rfl⟩
  case round =>
    obtain ⟨t, s, ht, rfl, rfl, J⟩ := hrel
    obtain ⟨hs, hw⟩ := J.out
    subst hw
    clear J
    have sz : s.size = t := by rw [hs.size, List.length_replicate]
    by_cases tl : t < n
    · have tli : (t : Int) < (n : Int) := by omega
      have F : Hid (Str (s ++ ⟨#[48]⟩) (List.replicate (t + 1) 48)) := by
        show Str _ _
        rw [List.replicate_succ']
        exact hs.tcat rfl
      have hq : s.size ≤ 100000 := by omega
      clear hs sz
      go_wp2_with fail
      go_roundg (n - (t + 1))
      case measure => omega
      case rel => exact ⟨t + 1, s ++ ⟨#[48]⟩, by omega, rfl, by go_num, F.out, rfl⟩
    · have tli : ¬ (t : Int) < (n : Int) := by omega
      have F : Hid (TxTold (List.replicate n 48) wr (.returned (.string s)) wr) := ⟨s, rfl, by rw [show n = t by omega]; exact hs, Below.refl _ _⟩
      clear hs
      go_wp2_with fail
      go_ret
      exact F.out
set_option maxRecDepth 100000 in
set_option maxHeartbeats 2000000 in
theorem zpower_any (p : Int) (w : World) (p0 : -100000 ≤ p) (p1 : p ≤ 100000) (ht : Tab10 w) :
    Calls Tryz.prog 52 #[.int .i64 p] w fun e w' => TxTold (Tn.pw p) w e w' := by
  by_cases hp : p < 0
  · have I := hid (itoa_any (-p) w (by omega) (by omega) ht)
    have E : Hid (Tn.pw p = [101, 45] ++ ((if -p < 10 then [48] else []) ++ Tn.itl (-p))) := by show _ = _; rw [Tn.pw, if_pos hp, if_pos hp]
    have ST := hid (Tn.itl_str (-p))
    clear ht
    have hq := Tn.itl_len (x := (-p)) (by omega) (by omega)
    generalize (⟨(Lib.itoa (-p)).toArray⟩ : ByteArray) = it at *
    by_cases h10 : -p < 10
    · rw [if_pos h10] at E
      have F : Hid (∀ w', Below w.heap.size w w' → TxTold (Tn.pw p) w (.returned (.string (⟨#[101, 45, 48]⟩ ++ it))) w') := fun w' hb => ⟨_, rfl, by rw [E.out]; exact Str.tcat (a := ⟨#[101, 45, 48]⟩) (xs := [101, 45, 48]) rfl ST.out, hb⟩
      go_enter Tryz.func52, Tryz.ntmps52
      go_wp2_with fail
      refine I.out.mono ?_
      rintro e w1 ⟨rfl, hB⟩
      have G := hid (F.out w1 hB)
      clear hB F
      go_wp2_with fail
      go_ret
      exact G.out
    · rw [if_neg h10] at E
      have F : Hid (∀ w', Below w.heap.size w w' → TxTold (Tn.pw p) w (.returned (.string (⟨#[101, 45]⟩ ++ it))) w') := fun w' hb => ⟨_, rfl, by rw [E.out]; exact Str.tcat (a := ⟨#[101, 45]⟩) (xs := [101, 45]) rfl ST.out, hb⟩
      go_enter Tryz.func52, Tryz.ntmps52
      go_wp2_with fail
      refine I.out.mono ?_
      rintro e w1 ⟨rfl, hB⟩
      have G := hid (F.out w1 hB)
      clear hB F
      go_wp2_with fail
      go_ret
      exact G.out
  · have I := hid (itoa_any p w (by omega) (by omega) ht)
    have E : Hid (Tn.pw p = [101, 43] ++ ((if p < 10 then [48] else []) ++ Tn.itl p)) := by show _ = _; rw [Tn.pw, if_neg hp, if_neg hp]
    have ST := hid (Tn.itl_str p)
    clear ht
    have hq := Tn.itl_len (x := p) (by omega) (by omega)
    generalize (⟨(Lib.itoa p).toArray⟩ : ByteArray) = it at *
    by_cases h10 : p < 10
    · rw [if_pos h10] at E
      have F : Hid (∀ w', Below w.heap.size w w' → TxTold (Tn.pw p) w (.returned (.string (⟨#[101, 43, 48]⟩ ++ it))) w') := fun w' hb => ⟨_, rfl, by rw [E.out]; exact Str.tcat (a := ⟨#[101, 43, 48]⟩) (xs := [101, 43, 48]) rfl ST.out, hb⟩
      go_enter Tryz.func52, Tryz.ntmps52
      go_wp2_with fail
      refine I.out.mono ?_
      rintro e w1 ⟨rfl, hB⟩
      have G := hid (F.out w1 hB)
      clear hB F
      go_wp2_with fail
      go_ret
      exact G.out
    · rw [if_neg h10] at E
      have F : Hid (∀ w', Below w.heap.size w w' → TxTold (Tn.pw p) w (.returned (.string (⟨#[101, 43]⟩ ++ it))) w') := fun w' hb => ⟨_, rfl, by rw [E.out]; exact Str.tcat (a := ⟨#[101, 43]⟩) (xs := [101, 43]) rfl ST.out, hb⟩
      go_enter Tryz.func52, Tryz.ntmps52
      go_wp2_with fail
      refine I.out.mono ?_
      rintro e w1 ⟨rfl, hB⟩
      have G := hid (F.out w1 hB)
      clear hB F
      go_wp2_with fail
      go_ret
      exact G.out
end Go.Proofs.YtonnlimmjelldaaGreatDoor
