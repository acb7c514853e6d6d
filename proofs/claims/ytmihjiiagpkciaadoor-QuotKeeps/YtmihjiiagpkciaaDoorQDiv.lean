/-
  quot's divide: digit by digit.
-/
import Derived.Test.YtmihjiiagpkciaaDoorQGuess
import Derived.Test.YtmihjiiagpkciaaDoorQTake
import Derived.Test.YtmihjiiagpkciaaDoorBare
import Derived.WalkMore
import Derived.Deep.LoopGhost
namespace Go.Proofs.YtmihjiiagpkciaaDoor
open Go.RowKit Go.Deep

theorem Lies.low {g : Nat} {w w' : World} {p : Option Addr} {zs : List Int} (h : Lies w p zs) (hb : Below g w w') (hp : ∀ a, p = some a → a.block < g) : Lies w' p zs := by
  rcases h with rfl | ⟨b, off, e, h⟩
  · exact .inl rfl
  · refine .inr ⟨b, off, e, fun i hi => ?_⟩
    rw [hb.cell (p := ⟨b, off + i, none⟩) (hp ⟨b, off, none⟩ e)]
    exact h i hi

theorem Own.other {w : World} {g g' : Nat} {zs : List Int} (h : Own w g zs) (hg : g' ≠ g) (i : Nat) (v : Value) : Own (w.setCell ⟨g', i, none⟩ v) g zs := by
  simp only [Own] at h ⊢
  simp only [World.setCell, Array.getElem?_modify]
  rw [if_neg hg]
  exact h

namespace Qd
open Go.Proofs.YtmihjiiagpkciaaDoor.Nm

/-- The part that a digit is told from. -/
def part (rs : List Int) (t n1 : Nat) : List Int := (rs.drop t).take n1

theorem part_length {rs : List Int} {t n1 : Nat} (h : t + n1 ≤ rs.length) : (part rs t n1).length = n1 := by
  simp [part]; omega

theorem part_lies {w : World} {g : Nat} {rs : List Int} (h : Own w g rs) {t n1 : Nat} (hl : t + n1 ≤ rs.length) : Lies w (some ⟨g, t, none⟩) (part rs t n1) := by
  refine .inr ⟨g, t, rfl, fun i hi => ?_⟩
  rw [part_length hl] at hi
  rw [h.cell (t + i) (by omega)]
  have e : (part rs t n1).getD i 0 = rs.getD (t + i) 0 := by
    rw [part, getD_take, if_pos hi]
    simp [List.getD, List.getElem?_drop]
  rw [e]

theorem part_val {rs : List Int} (hr : Limbs rs) {t n1 : Nat} (hl : t + n1 ≤ rs.length) (hv : val rs < pw (t + n1)) : val rs = val (rs.take t) + pw t * val (part rs t n1) := by
  have h1 := val_drop rs t (by omega)
  have h2 : val (part rs t n1) = val (rs.drop t) := by
    refine val_take_of_zero _ _ (fun j hj => ?_)
    have := zero_of_lt hr hv (t + j) (by omega)
    simpa [List.getD, List.getElem?_drop] using this
  rw [h2]
  exact h1

theorem part_facts {rs : List Int} (hr : Limbs rs) {t m : Nat} (hl : t + (m + 1) ≤ rs.length) {b : Int} (hb : b < pw m) (hv : val rs < pw (t + 1) * b) :
    val (part rs t (m + 1)) < b * 18446744073709551616 ∧ val rs < pw (t + m + 1) ∧ ∀ x, 0 ≤ x → x * (pw t * b) ≤ val rs → x * b ≤ val (part rs t (m + 1)) := by
  have hp := pw_pos t
  have hq := pw_pos (t + 1)
  have h0 : val rs < pw (t + m + 1) := by
    have : pw (t + 1) * b ≤ pw (t + 1) * pw m := Int.mul_le_mul_of_nonneg_left (by omega) (by omega)
    rw [← pw_add, show t + 1 + m = t + m + 1 by omega] at this
    omega
  have h1 := part_val hr hl h0
  have h2 := val_bd _ (hr.take t)
  rw [List.length_take, Nat.min_eq_left (by omega)] at h2
  refine ⟨?_, h0, fun x x0 hx => ?_⟩
  · rcases (show val (part rs t (m + 1)) < b * 18446744073709551616 ∨ b * 18446744073709551616 ≤ val (part rs t (m + 1)) by omega) with c | c
    · exact c
    · exfalso
      have := Int.mul_le_mul_of_nonneg_left c (show 0 ≤ pw t by omega)
      rw [pw_succ] at hv
      have e : pw t * (b * 18446744073709551616) = 18446744073709551616 * pw t * b := by rw [Int.mul_left_comm, Int.mul_comm b, Int.mul_comm (pw t)]
      omega
  · rcases (show x * b ≤ val (part rs t (m + 1)) ∨ val (part rs t (m + 1)) + 1 ≤ x * b by omega) with c | c
    · exact c
    · exfalso
      have := Int.mul_le_mul_of_nonneg_left c (show 0 ≤ pw t by omega)
      rw [Int.mul_add, Int.mul_one] at this
      have e : x * (pw t * b) = pw t * (x * b) := Int.mul_left_comm _ _ _
      omega
end Qd

/-- Ahead of limb j - 1 of the quotient. -/
structure DivI (w : World) (g g2 R K : Nat) (A b : Int) (j : Nat) (os rs : List Int) (wr : World) : Prop where
  own : Own wr g rs
  len : rs.length = R
  lim : Nm.Limbs rs
  own2 : Own wr g2 os
  len2 : os.length = K
  lim2 : Nm.Limbs os
  zero : ∀ i, i < j → os.getD i 0 = 0
  eq : Nm.val os * b + Nm.val rs = A
  lt : Nm.val rs < Nm.pw j * b
  low : Below g w wr

/-- A digit d at limb t, which may be too great: what is owed is beyond limb 'top'. -/
structure Digit (w : World) (g g2 R t top : Nat) (os : List Int) (R0 b d owed : Int) (rs : List Int) (wr : World) : Prop where
  own : Own wr g rs
  len : rs.length = R
  lim : Nm.Limbs rs
  own2 : Own wr g2 (os.set t d)
  dbd : 0 ≤ d ∧ d < 18446744073709551616
  obd : 0 ≤ owed ∧ owed ≤ 1
  eq : Nm.val rs + Nm.pw t * (b * d) = R0 + Nm.pw top * owed
  high : ∀ i, top ≤ i → rs.getD i 0 = 0
  least : ∀ x, 0 ≤ x → x * (Nm.pw t * b) ≤ R0 → x ≤ d
  low : Below g w wr

theorem Digit.lt {w : World} {g g2 R t top : Nat} {os : List Int} {R0 b d owed : Int} {rs : List Int} {wr : World} (h : Digit w g g2 R t top os R0 b d owed rs wr) : Nm.val rs < Nm.pw top := by
  have h1 := Nm.val_take_of_zero rs top h.high
  have h2 := (Nm.val_bd _ (h.lim.take top)).2
  have h3 : (rs.take top).length ≤ top := by simp; omega
  have h4 := Nm.pw_mono h3
  omega

/-- The digit is too great. -/
theorem Digit.great {w : World} {g g2 R t top : Nat} {os : List Int} {R0 b d : Int} {rs : List Int} {wr : World} (h : Digit w g g2 R t top os R0 b d 1 rs wr) (hR : 0 ≤ R0) (hb : 0 ≤ b) : 1 ≤ d ∧ ∀ x, 0 ≤ x → x * (Nm.pw t * b) ≤ R0 → x ≤ d - 1 := by
  have h1 := h.lt
  have h2 := h.eq
  rw [Int.mul_one] at h2
  have hd := h.dbd
  have hp := Nm.pw_pos t
  have h3 : 1 ≤ d := by
    rcases (show d = 0 ∨ 1 ≤ d by omega) with c | c
    · rw [c, Int.mul_zero, Int.mul_zero] at h2; omega
    · exact c
  refine ⟨h3, fun x x0 hx => ?_⟩
  rcases (show x ≤ d - 1 ∨ d ≤ x by omega) with c | c
  · exact c
  · exfalso
    have e1 : d * (Nm.pw t * b) ≤ x * (Nm.pw t * b) := Int.mul_le_mul_of_nonneg_right c (Int.mul_nonneg (by omega) hb)
    have e2 : d * (Nm.pw t * b) = Nm.pw t * (b * d) := by rw [Int.mul_left_comm, Int.mul_comm d b]
    omega

/-- The digit is right: the next one. -/
theorem Digit.done {w : World} {g g2 R K t top : Nat} {os rs0 : List Int} {A b d : Int} {rs : List Int} {wr wr0 : World} (h : Digit w g g2 R t top os (Nm.val rs0) b d 0 rs wr) (I : DivI w g g2 R K A b (t + 1) os rs0 wr0) (ht : t < K) :
    DivI w g g2 R K A b t (os.set t d) rs wr := by
  have h2 := h.eq
  rw [Int.mul_zero, Int.add_zero] at h2
  refine ⟨h.own, h.len, h.lim, h.own2, by simpa using I.len2, I.lim2.set t h.dbd.1 h.dbd.2, fun i hi => ?_, ?_, ?_, h.low⟩
  · rw [Nm.getD_set _ _ _ _ (by have := I.len2; omega), if_neg (by omega)]
    exact I.zero i (by omega)
  · rw [Nm.val_set _ _ _ (by have := I.len2; omega), I.zero t (by omega), Int.sub_zero, Int.add_mul, Int.mul_assoc, Int.mul_comm d b]
    have := I.eq
    omega
  · rcases (show Nm.val rs < Nm.pw t * b ∨ Nm.pw t * b ≤ Nm.val rs by omega) with c | c
    · exact c
    · exfalso
      have := h.least (d + 1) (by have := h.dbd; omega) (by rw [Int.add_mul, Int.one_mul, Int.mul_left_comm, Int.mul_comm d b]; omega)
      omega

/-- Behind takeTimes. -/
theorem digit_first {w wr0 w2 w' : World} {g g2 R K t m : Nat} {os rs0 rs : List Int} {A b d c : Int} (I : DivI w g g2 R K A b (t + 1) os rs0 wr0) (hg : g2 ≠ g) (h2 : Own w2 g2 (os.set t d)) (hb2 : Below g w w2) (hd : 0 ≤ d ∧ d < 18446744073709551616) (hc : 0 ≤ c ∧ c ≤ 1)
    (hlt : Nm.val rs0 < Nm.pw (t + m + 1)) (hle : ∀ x, 0 ≤ x → x * (Nm.pw t * b) ≤ Nm.val rs0 → x ≤ d)
    (P : PartInv g R (t + m + 1) w2 rs0 (Nm.val rs0 + Nm.pw t * (-(b * d))) (t + m + 1) (-c) rs w') : Digit w g g2 R t (t + m + 1) os (Nm.val rs0) b d c rs w' := by
  have hP := P
  obtain ⟨⟨p1, p2, p3, p4, p5, p6⟩, p7, p8⟩ := P
  refine ⟨p1, p2, p3, hP.own h2 hg, hd, hc, ?_, fun i hi => ?_, hle, hb2.trans p5⟩
  · rw [Int.mul_neg, Int.mul_neg] at p4
    omega
  · rw [p7 i hi]
    exact Nm.zero_of_lt I.lim hlt i hi

/-- Behind giveBack. -/
theorem digit_next {w wr w2 w' : World} {g g2 R t top : Nat} {os rs rs' : List Int} {R0 b d c : Int} (D : Digit w g g2 R t top os R0 b d 1 rs wr) (hR : 0 ≤ R0) (hb : 0 ≤ b) (hg : g2 ≠ g) (h2 : Own w2 g2 (os.set t (d - 1))) (hb2 : Below g w w2) (hc : 0 ≤ c ∧ c ≤ 1)
    (P : PartInv g R top w2 rs (Nm.val rs + Nm.pw t * b) top c rs' w') : Digit w g g2 R t top os R0 b (d - 1) (1 - c) rs' w' := by
  have hP := P
  obtain ⟨⟨p1, p2, p3, p4, p5, p6⟩, p7, p8⟩ := P
  have hgr := D.great hR hb
  have hd := D.dbd
  have he := D.eq
  refine ⟨p1, p2, p3, hP.own h2 hg, by omega, by omega, ?_, fun i hi => by rw [p7 i hi]; exact D.high i hi, hgr.2, hb2.trans p5⟩
  rw [Int.mul_sub, Int.mul_one, Int.mul_sub, Int.mul_sub, Int.mul_one]
  rw [Int.mul_one] at he
  omega

set_option maxRecDepth 100000 in
set_option maxHeartbeats 2000000 in
theorem divide_any (g R K k m cap' : Nat) (rs0 : List Int) (q : Option Addr) (bs : List Int) (w : World) (ho : Own w g rs0) (hR : rs0.length = R) (hRm : R ≤ 35184372088832) (hl : Nm.Limbs rs0) (hm : m = k + 2) (hK : R = K + m) (lb : bs.length = m) (hc' : m ≤ cap') (hm' : cap' ≤ 140737488355328)
    (hy : Lies w q bs) (hlb : Nm.Limbs bs) (hq : ∀ a, q = some a → a.block < g) (htop : bs.getD (k + 1) 0 ≠ 0) (hlt : Nm.val rs0 < Nm.pw K * Nm.val bs) :
    Calls Tryd.prog 36 #[.slice (some ⟨g, 0, none⟩) R R, .slice q m cap'] w fun e w' => ∃ os rs, e = .returned (.slice (some ⟨w.heap.size, 0, none⟩) K K) ∧ Hid (DivI w g w.heap.size R K (Nm.val rs0) (Nm.val bs) 0 os rs w') := by
  have hgw := ho.lt
  have r1 : (R : Int) - (m : Int) = (K : Int) := by omega
  have hmk := make64 K (by omega) w
  have hb0 : Below g w (w.alloc (.cells (madeCells #[.int .u64 0] K) 26)) := (Below.refl _ _).alloc (by omega) _
  have hbw : Below w.heap.size w (w.alloc (.cells (madeCells #[.int .u64 0] K) 26)) := (Below.refl _ _).alloc (Nat.le_refl _) _
  have ho2 : Own (w.alloc (.cells (madeCells #[.int .u64 0] K) 26)) w.heap.size (List.replicate K 0) := by
    rw [made_zero]; exact Own.alloc w _
  obtain ⟨W0, hW0⟩ : ∃ W0, w.alloc (.cells (madeCells #[.int .u64 0] K) 26) = W0 := ⟨_, rfl⟩
  rw [hW0] at hmk hb0 hbw ho2
  clear hW0
  have I0 : DivI w g w.heap.size R K (Nm.val rs0) (Nm.val bs) K (List.replicate K 0) rs0 W0 :=
    ⟨ho.below hbw hgw, hR, hl, ho2, by simp, Nm.Limbs.replicate _, fun i _ => getD_replicate _ _, by rw [Nm.val_replicate, Int.zero_mul, Int.zero_add], hlt, hb0⟩
  have B0 := (Nm.val_bd bs hlb).1
  have B1 := (Nm.val_bd bs hlb).2
  rw [lb] at B1
  have HI0 := hid I0
  have HB0 := hid B0
  have HB1 := hid B1
  have HY := hid hy
  have HLB := hid hlb
  have HQ := hid hq
  have HT := hid htop
  have HM := hid hm
  have HKK := hid hK
  have HL := hid lb
  obtain ⟨g2, hg2⟩ : ∃ g2, w.heap.size = g2 := ⟨_, rfl⟩
  rw [hg2] at HI0 hmk hgw ⊢
  have hgg : g2 ≠ g := by omega
  clear I0 B0 B1 hy hlb hq htop hm hK lb ho hR hl hlt hb0 hbw ho2 hg2
  go_enter Tryd.func36, Tryd.ntmps36
  go_wp2_with fail
  go_step3
  go_wp2_with fail
  go_step3
  go_wp2_with fail
  go_loopg [6] K (fun j i wr => ∃ (os rs : List Int), j ≤ K ∧ i = .int .i64 ((j : Int) - 1) ∧ Hid (DivI w g g2 R K (Nm.val rs0) (Nm.val bs) j os rs wr))
  case atStart => exact ⟨_, _, Nat.le_refl _, rfl, HI0.out⟩
  case round =>
    clear HI0 hmk
    obtain ⟨os, rs, hj, rfl, I⟩ := hrel
    cases gk with
    | zero =>
      go_wp2
      try rw [Exit.noGoto_ret]
      go_ret
      exact ⟨os, rs, rfl, I.out⟩
    | succ t =>
      have LR : Hid (t + (m + 1) ≤ rs.length) := by show _ ≤ _; have := I.out.len; have := HKK.out; omega
      obtain ⟨f1, f2, f3⟩ := Qd.part_facts I.out.lim LR.out HB1.out I.out.lt
      have htK : (t : Int) < (K : Int) := by omega
      have htR : t + m + 1 ≤ R := by have := HKK.out; omega
      have GU := guess_any (some ⟨g, t, none⟩) q k m (m + 1) (R - t) cap' (Qd.part rs t (m + 1)) bs wr HM.out (by rw [HM.out]) HL.out (Qd.part_length LR.out) (by omega) hc' (by omega) hm' (Qd.part_lies I.out.own LR.out) (HY.out.low I.out.low HQ.out) ((I.out.lim.drop t).take _) HLB.out HT.out f1
      have F2 := hid f2
      have F3 := hid f3
      have HGU := hid GU
      clear f1 f2 f3 GU
      go_wp2_with fail
      rw [show t + m + 1 - t = m + 1 by omega]
      refine HGU.out.mono ?_
      rintro e w1 ⟨d, rfl, ⟨d0, d1⟩, DL, hb1⟩
      have o1 := I.out.own.below hb1 I.out.own.lt
      have o2 := I.out.own2.below hb1 I.out.own2.lt
      have HB2 := hid (I.out.low.trans (hb1.mono (Nat.le_of_lt I.out.own.lt)))
      obtain ⟨y, hyc⟩ : ∃ y, w1.cell? ⟨g2, t, none⟩ = some (.int .u64 y) := ⟨_, o2.cell t (by have := I.out.len2; omega)⟩
      have hfr := o2.free t
      have O1 := hid (o1.other hgg t (.int .u64 d))
      have O2 := hid (o2.set t d)
      have HB3 := hid (HB2.out.setCell (p := ⟨g2, t, none⟩) (by show g ≤ g2; omega) (.int .u64 d))
      have LEAST : Hid (∀ x, 0 ≤ x → x * (Nm.pw t * Nm.val bs) ≤ Nm.val rs → x ≤ d) := fun x x0 hx => DL.out x x0 (F3.out x x0 hx)
      have hcell : (w1.setCell ⟨g2, t, none⟩ (.int .u64 d)).cell? ⟨g2, t, none⟩ = some (.int .u64 d) := by
        rw [O2.out.cell t (by have := I.out.len2; simp; omega), Nm.getD_set _ _ _ _ (by have := I.out.len2; omega), if_pos rfl]
      clear hb1 o1 o2 HGU DL
      go_wp2_with fail
      refine (takeTimes_any g R t m (m + 1) _ rs q _ bs d _ I.out.len hRm O1.out I.out.lim HL.out (by have := HM.out; omega) (by omega) (by omega) (HY.out.low HB3.out HQ.out) HLB.out HQ.out d0 d1).mono ?_
      rintro e w2 ⟨c, rs1, rfl, ⟨c0, c1⟩, P⟩
      have DG := hid (digit_first I.out hgg O2.out HB3.out ⟨d0, d1⟩ ⟨c0, c1⟩ F2.out LEAST.out P.out)
      clear P hcell hyc hfr O1 O2 HB2 HB3 LEAST
      go_wp2_with fail
      go_loopg [8] d.toNat (fun x c wr => ∃ (d owed : Int) (rs1 : List Int), c = .int .u64 owed ∧ Hid (x = d.toNat) ∧ Hid (Digit w g g2 R t (t + m + 1) os (Nm.val rs) (Nm.val bs) d owed rs1 wr))
      case atStart => exact ⟨d, c, rs1, rfl, rfl, DG.out⟩
      case round =>
        clear DG c0 c1 d0 d1
        obtain ⟨d, owed, rs1, rfl, GK, D⟩ := hrel
        have ob := D.out.obd
        rcases (show owed = 0 ∨ owed = 1 by omega) with rfl | rfl
        · have DN := hid (D.out.done I.out (by omega))
          clear ob
          go_wp2
          go_roundg t
          case measure => omega
          case rel => exact ⟨_, _, by omega, by go_num, DN.out⟩
        · clear ob
          have hV := (Nm.val_bd rs I.out.lim).1
          obtain ⟨g1, _⟩ := D.out.great hV HB0.out
          have db := D.out.dbd.2
          have hlen : t < (os.set t d).length := by have := I.out.len2; simp; omega
          obtain ⟨y, hyc, Y⟩ : ∃ y, wr.cell? ⟨g2, t, none⟩ = some (.int .u64 y) ∧ Hid (y = d) := ⟨_, D.out.own2.cell t hlen, by show _ = _; rw [Nm.getD_set _ _ _ _ (by simpa using hlen), if_pos rfl]⟩
          have hyd := Y.out
          subst hyd
          have hfr := D.out.own2.free t
          have o2 := D.out.own2.set t (y - 1)
          rw [List.set_set] at o2
          have O1 := hid (D.out.own.other hgg t (.int .u64 (y - 1)))
          have O2 := hid o2
          have HB3 := hid (D.out.low.setCell (p := ⟨g2, t, none⟩) (by show g ≤ g2; omega) (.int .u64 (y - 1)))
          have HV := hid hV
          clear o2 hlen hV
          go_wp2_with fail
          refine (giveBack_any g R t m (m + 1) _ rs1 q _ bs _ D.out.len hRm O1.out D.out.lim HL.out (by have := HM.out; omega) (by omega) (by omega) (HY.out.low HB3.out HQ.out) HLB.out HQ.out).mono ?_
          rintro e w2 ⟨c, rs2, rfl, ⟨c0, c1⟩, P⟩
          have DN := hid (digit_next D.out HV.out HB0.out hgg O2.out HB3.out ⟨c0, c1⟩ P.out)
          clear P hyc hfr O1 O2 HB3
          go_wp2_with fail
          go_roundg (y - 1).toNat
          case measure => have := GK.out; omega
          case rel => exact ⟨y - 1, 1 - c, rs2, rfl, rfl, DN.out⟩
end Go.Proofs.YtmihjiiagpkciaaDoor
