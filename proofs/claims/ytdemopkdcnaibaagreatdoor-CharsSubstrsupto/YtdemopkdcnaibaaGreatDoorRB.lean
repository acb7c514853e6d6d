/-
  Texts put together: QDiv, QLimbs, Walk6, QDivMod, QDivOk, IAnsS, IRatio, IRoomA, IFin, IIntgN, IIntg, MCmp, MRoundT, MTrunc, XBox, XPlusA, XWalk1.
-/
import Derived.Test.YtdemopkdcnaibaaGreatDoorRA
import Derived.Test.YtdemopkdcnaibaaGreatDoorBare
import Derived.WalkMore
import Derived.Deep.LoopGhost
import Derived.Test.YtdemopkdcnaibaaGreatDoorBlenIs
import Derived.Test.YtdemopkdcnaibaaGreatDoorMem
import Derived.Test.YtdemopkdcnaibaaGreatDoorIKinds
import Derived.Deep.RegionWith
import Derived.BigQuiet
import Derived.Test.YtdemopkdcnaibaaGreatDoorIWalk1B
import Derived.Test.YtdemopkdcnaibaaGreatDoorWalk5a
import Derived.BigRegion
import Derived.Test.YtdemopkdcnaibaaGreatDoorXMem
import Derived.Test.YtdemopkdcnaibaaGreatDoorXNum
import Derived.Test.YtdemopkdcnaibaaGreatDoorXDef
namespace Go.Proofs.YtdemopkdcnaibaaGreatDoor
open Go.RowKit Go.Deep

theorem Lies.low {g : Nat} {w w' : World} {p : Option Addr} {zs : List Int} (h : Lies w p zs) (hb : Below g w w') (hp : ∀ a, p = some a → a.block < g) : Lies w' p zs := by
  rcases h with rfl | ⟨b, off, e, h⟩
  · exact .inl rfl
  · refine .inr ⟨b, off, e, fun i hi => ?_⟩
    rw [hb.cell (p := ⟨b, off + i, none⟩) (hp ⟨b, off, none⟩ e)]
    exact h i hi

theorem Own.other {w : World} {g g' : Nat} {zs : List Int} (h : Own w g zs) (hg : g' ≠ g) (i : Nat) (v : Value) : Own (w.setCell ⟨g', i, none⟩ v) g zs := by
  simp only [Own] at h ⊢
  simp only [World.setCell, Array.getElem?_modify]
  rw [if_neg hg]
  exact h

namespace Qd
open Go.Proofs.YtdemopkdcnaibaaGreatDoor.Nm

/-- The part that a digit is told from. -/
def part (rs : List Int) (t n1 : Nat) : List Int := (rs.drop t).take n1

theorem part_length {rs : List Int} {t n1 : Nat} (h : t + n1 ≤ rs.length) : (part rs t n1).length = n1 := by
  simp [part]; omega

theorem part_lies {w : World} {g : Nat} {rs : List Int} (h : Own w g rs) {t n1 : Nat} (hl : t + n1 ≤ rs.length) : Lies w (some ⟨g, t, none⟩) (part rs t n1) := by
  refine .inr ⟨g, t, rfl, fun i hi => ?_⟩
  rw [part_length hl] at hi
  rw [h.cell (t + i) (by omega)]
  have e : (part rs t n1).getD i 0 = rs.getD (t + i) 0 := by
    rw [part, getD_take, if_pos hi]
    simp [List.getD, List.getElem?_drop]
  rw [e]

theorem part_val {rs : List Int} (hr : Limbs rs) {t n1 : Nat} (hl : t + n1 ≤ rs.length) (hv : val rs < pw (t + n1)) : val rs = val (rs.take t) + pw t * val (part rs t n1) := by
  have h1 := val_drop rs t (by omega)
  have h2 : val (part rs t n1) = val (rs.drop t) := by
    refine val_take_of_zero _ _ (fun j hj => ?_)
    have := zero_of_lt hr hv (t + j) (by omega)
    simpa [List.getD, List.getElem?_drop] using this
  rw [h2]
  exact h1

theorem part_facts {rs : List Int} (hr : Limbs rs) {t m : Nat} (hl : t + (m + 1) ≤ rs.length) {b : Int} (hb : b < pw m) (hv : val rs < pw (t + 1) * b) :
    val (part rs t (m + 1)) < b * 18446744073709551616 ∧ val rs < pw (t + m + 1) ∧ ∀ x, 0 ≤ x → x * (pw t * b) ≤ val rs → x * b ≤ val (part rs t (m + 1)) := by
  have hp := pw_pos t
  have hq := pw_pos (t + 1)
  have h0 : val rs < pw (t + m + 1) := by
    have : pw (t + 1) * b ≤ pw (t + 1) * pw m := Int.mul_le_mul_of_nonneg_left (by omega) (by omega)
    rw [← pw_add, show t + 1 + m = t + m + 1 by omega] at this
    omega
  have h1 := part_val hr hl h0
  have h2 := val_bd _ (hr.take t)
  rw [List.length_take, Nat.min_eq_left (by omega)] at h2
  refine ⟨?_, h0, fun x x0 hx => ?_⟩
  · rcases (show val (part rs t (m + 1)) < b * 18446744073709551616 ∨ b * 18446744073709551616 ≤ val (part rs t (m + 1)) by omega) with c | c
    · exact c
    · exfalso
      have := Int.mul_le_mul_of_nonneg_left c (show 0 ≤ pw t by omega)
      rw [pw_succ] at hv
      have e : pw t * (b * 18446744073709551616) = 18446744073709551616 * pw t * b := by rw [Int.mul_left_comm, Int.mul_comm b, Int.mul_comm (pw t)]
      omega
  · rcases (show x * b ≤ val (part rs t (m + 1)) ∨ val (part rs t (m + 1)) + 1 ≤ x * b by omega) with c | c
    · exact c
    · exfalso
      have := Int.mul_le_mul_of_nonneg_left c (show 0 ≤ pw t by omega)
      rw [Int.mul_add, Int.mul_one] at this
      have e : x * (pw t * b) = pw t * (x * b) := Int.mul_left_comm _ _ _
      omega
end Qd

/-- Ahead of limb j - 1 of the quotient. -/
structure DivI (w : World) (g g2 R K : Nat) (A b : Int) (j : Nat) (os rs : List Int) (wr : World) : Prop where
  own : Own wr g rs
  len : rs.length = R
  lim : Nm.Limbs rs
  own2 : Own wr g2 os
  len2 : os.length = K
  lim2 : Nm.Limbs os
  zero : ∀ i, i < j → os.getD i 0 = 0
  eq : Nm.val os * b + Nm.val rs = A
  lt : Nm.val rs < Nm.pw j * b
  low : Below g w wr

/-- A digit d at limb t, which may be too great: what is owed is beyond limb 'top'. -/
structure Digit (w : World) (g g2 R t top : Nat) (os : List Int) (R0 b d owed : Int) (rs : List Int) (wr : World) : Prop where
  own : Own wr g rs
  len : rs.length = R
  lim : Nm.Limbs rs
  own2 : Own wr g2 (os.set t d)
  dbd : 0 ≤ d ∧ d < 18446744073709551616
  obd : 0 ≤ owed ∧ owed ≤ 1
  eq : Nm.val rs + Nm.pw t * (b * d) = R0 + Nm.pw top * owed
  high : ∀ i, top ≤ i → rs.getD i 0 = 0
  least : ∀ x, 0 ≤ x → x * (Nm.pw t * b) ≤ R0 → x ≤ d
  low : Below g w wr

theorem Digit.lt {w : World} {g g2 R t top : Nat} {os : List Int} {R0 b d owed : Int} {rs : List Int} {wr : World} (h : Digit w g g2 R t top os R0 b d owed rs wr) : Nm.val rs < Nm.pw top := by
  have h1 := Nm.val_take_of_zero rs top h.high
  have h2 := (Nm.val_bd _ (h.lim.take top)).2
  have h3 : (rs.take top).length ≤ top := by simp; omega
  have h4 := Nm.pw_mono h3
  omega

/-- The digit is too great. -/
theorem Digit.great {w : World} {g g2 R t top : Nat} {os : List Int} {R0 b d : Int} {rs : List Int} {wr : World} (h : Digit w g g2 R t top os R0 b d 1 rs wr) (hR : 0 ≤ R0) (hb : 0 ≤ b) : 1 ≤ d ∧ ∀ x, 0 ≤ x → x * (Nm.pw t * b) ≤ R0 → x ≤ d - 1 := by
  have h1 := h.lt
  have h2 := h.eq
  rw [Int.mul_one] at h2
  have hd := h.dbd
  have hp := Nm.pw_pos t
  have h3 : 1 ≤ d := by
    rcases (show d = 0 ∨ 1 ≤ d by omega) with c | c
    · rw [c, Int.mul_zero, Int.mul_zero] at h2; omega
    · exact c
  refine ⟨h3, fun x x0 hx => ?_⟩
  rcases (show x ≤ d - 1 ∨ d ≤ x by omega) with c | c
  · exact c
  · exfalso
    have e1 : d * (Nm.pw t * b) ≤ x * (Nm.pw t * b) := Int.mul_le_mul_of_nonneg_right c (Int.mul_nonneg (by omega) hb)
    have e2 : d * (Nm.pw t * b) = Nm.pw t * (b * d) := by rw [Int.mul_left_comm, Int.mul_comm d b]
    omega

/-- The digit is right: the next one. -/
theorem Digit.done {w : World} {g g2 R K t top : Nat} {os rs0 : List Int} {A b d : Int} {rs : List Int} {wr wr0 : World} (h : Digit w g g2 R t top os (Nm.val rs0) b d 0 rs wr) (I : DivI w g g2 R K A b (t + 1) os rs0 wr0) (ht : t < K) :
    DivI w g g2 R K A b t (os.set t d) rs wr := by
  have h2 := h.eq
  rw [Int.mul_zero, Int.add_zero] at h2
  refine ⟨h.own, h.len, h.lim, h.own2, by simpa using I.len2, I.lim2.set t h.dbd.1 h.dbd.2, fun i hi => ?_, ?_, ?_, h.low⟩
  · rw [Nm.getD_set _ _ _ _ (by have := I.len2; omega), if_neg (by omega)]
    exact I.zero i (by omega)
  · rw [Nm.val_set _ _ _ (by have := I.len2; omega), I.zero t (by omega), Int.sub_zero, Int.add_mul, Int.mul_assoc, Int.mul_comm d b]
    have := I.eq
    omega
  · rcases (show Nm.val rs < Nm.pw t * b ∨ Nm.pw t * b ≤ Nm.val rs by omega) with c | c
    · exact c
    · exfalso
      have := h.least (d + 1) (by have := h.dbd; omega) (by rw [Int.add_mul, Int.one_mul, Int.mul_left_comm, Int.mul_comm d b]; omega)
      omega

/-- Behind takeTimes. -/
theorem digit_first {w wr0 w2 w' : World} {g g2 R K t m : Nat} {os rs0 rs : List Int} {A b d c : Int} (I : DivI w g g2 R K A b (t + 1) os rs0 wr0) (hg : g2 ≠ g) (h2 : Own w2 g2 (os.set t d)) (hb2 : Below g w w2) (hd : 0 ≤ d ∧ d < 18446744073709551616) (hc : 0 ≤ c ∧ c ≤ 1)
    (hlt : Nm.val rs0 < Nm.pw (t + m + 1)) (hle : ∀ x, 0 ≤ x → x * (Nm.pw t * b) ≤ Nm.val rs0 → x ≤ d)
    (P : PartInv g R (t + m + 1) w2 rs0 (Nm.val rs0 + Nm.pw t * (-(b * d))) (t + m + 1) (-c) rs w') : Digit w g g2 R t (t + m + 1) os (Nm.val rs0) b d c rs w' := by
  have hP := P
  obtain ⟨⟨p1, p2, p3, p4, p5, p6⟩, p7, p8⟩ := P
  refine ⟨p1, p2, p3, hP.own h2 hg, hd, hc, ?_, fun i hi => ?_, hle, hb2.trans p5⟩
  · rw [Int.mul_neg, Int.mul_neg] at p4
    omega
  · rw [p7 i hi]
    exact Nm.zero_of_lt I.lim hlt i hi

/-- Behind giveBack. -/
theorem digit_next {w wr w2 w' : World} {g g2 R t top : Nat} {os rs rs' : List Int} {R0 b d c : Int} (D : Digit w g g2 R t top os R0 b d 1 rs wr) (hR : 0 ≤ R0) (hb : 0 ≤ b) (hg : g2 ≠ g) (h2 : Own w2 g2 (os.set t (d - 1))) (hb2 : Below g w w2) (hc : 0 ≤ c ∧ c ≤ 1)
    (P : PartInv g R top w2 rs (Nm.val rs + Nm.pw t * b) top c rs' w') : Digit w g g2 R t top os R0 b (d - 1) (1 - c) rs' w' := by
  have hP := P
  obtain ⟨⟨p1, p2, p3, p4, p5, p6⟩, p7, p8⟩ := P
  have hgr := D.great hR hb
  have hd := D.dbd
  have he := D.eq
  refine ⟨p1, p2, p3, hP.own h2 hg, by omega, by omega, ?_, fun i hi => by rw [p7 i hi]; exact D.high i hi, hgr.2, hb2.trans p5⟩
  rw [Int.mul_sub, Int.mul_one, Int.mul_sub, Int.mul_sub, Int.mul_one]
  rw [Int.mul_one] at he
  omega

set_option maxRecDepth 100000 in
set_option maxHeartbeats 2000000 in
theorem divide_any (g R K k m cap' : Nat) (rs0 : List Int) (q : Option Addr) (bs : List Int) (w : World) (ho : Own w g rs0) (hR : rs0.length = R) (hRm : R ≤ 35184372088832) (hl : Nm.Limbs rs0) (hm : m = k + 2) (hK : R = K + m) (lb : bs.length = m) (hc' : m ≤ cap') (hm' : cap' ≤ 140737488355328)
    (hy : Lies w q bs) (hlb : Nm.Limbs bs) (hq : ∀ a, q = some a → a.block < g) (htop : bs.getD (k + 1) 0 ≠ 0) (hlt : Nm.val rs0 < Nm.pw K * Nm.val bs) :
    Calls Tryz.prog 214 #[.slice (some ⟨g, 0, none⟩) R R, .slice q m cap'] w fun e w' => ∃ os rs, e = .returned (.slice (some ⟨w.heap.size, 0, none⟩) K K) ∧ Hid (DivI w g w.heap.size R K (Nm.val rs0) (Nm.val bs) 0 os rs w') := by
  have hgw := ho.lt
  have r1 : (R : Int) - (m : Int) = (K : Int) := by omega
  have hmk := make64 K (by omega) w
  have hb0 : Below g w (w.alloc (.cells (madeCells #[.int .u64 0] K) 24)) := (Below.refl _ _).alloc (by omega) _
  have hbw : Below w.heap.size w (w.alloc (.cells (madeCells #[.int .u64 0] K) 24)) := (Below.refl _ _).alloc (Nat.le_refl _) _
  have ho2 : Own (w.alloc (.cells (madeCells #[.int .u64 0] K) 24)) w.heap.size (List.replicate K 0) := by
    rw [made_zero]; exact Own.alloc w _
  obtain ⟨W0, hW0⟩ : ∃ W0, w.alloc (.cells (madeCells #[.int .u64 0] K) 24) = W0 := ⟨_, rfl⟩
  rw [hW0] at hmk hb0 hbw ho2
  clear hW0
  have I0 : DivI w g w.heap.size R K (Nm.val rs0) (Nm.val bs) K (List.replicate K 0) rs0 W0 :=
    ⟨ho.below hbw hgw, hR, hl, ho2, by simp, Nm.Limbs.replicate _, fun i _ => getD_replicate _ _, by rw [Nm.val_replicate, Int.zero_mul, Int.zero_add], hlt, hb0⟩
  have B0 := (Nm.val_bd bs hlb).1
  have B1 := (Nm.val_bd bs hlb).2
  rw [lb] at B1
  have HI0 := hid I0
  have HB0 := hid B0
  have HB1 := hid B1
  have HY := hid hy
  have HLB := hid hlb
  have HQ := hid hq
  have HT := hid htop
  have HM := hid hm
  have HKK := hid hK
  have HL := hid lb
  obtain ⟨g2, hg2⟩ : ∃ g2, w.heap.size = g2 := ⟨_, rfl⟩
  rw [hg2] at HI0 hmk hgw ⊢
  have hgg : g2 ≠ g := by omega
  clear I0 B0 B1 hy hlb hq htop hm hK lb ho hR hl hlt hb0 hbw ho2 hg2
  go_enter Tryz.func214, Tryz.ntmps214
  go_wp2_with fail
  go_step3
  go_wp2_with fail
  go_step3
  go_wp2_with fail
  go_loopg [6] K (fun j i wr => ∃ (os rs : List Int), j ≤ K ∧ i = .int .i64 ((j : Int) - 1) ∧ Hid (DivI w g g2 R K (Nm.val rs0) (Nm.val bs) j os rs wr))
  case atStart => exact ⟨_, _, Nat.le_refl _, rfl, HI0.out⟩
  case round =>
    clear HI0 hmk
    obtain ⟨os, rs, hj, rfl, I⟩ := hrel
    cases gk with
    | zero =>
      go_wp2
      try rw [Exit.noGoto_ret]
      go_ret
      exact ⟨os, rs, rfl, I.out⟩
    | succ t =>
      have LR : Hid (t + (m + 1) ≤ rs.length) := by show _ ≤ _; have := I.out.len; have := HKK.out; omega
      obtain ⟨f1, f2, f3⟩ := Qd.part_facts I.out.lim LR.out HB1.out I.out.lt
      have htK : (t : Int) < (K : Int) := by omega
      have htR : t + m + 1 ≤ R := by have := HKK.out; omega
      have GU := guess_any (some ⟨g, t, none⟩) q k m (m + 1) (R - t) cap' (Qd.part rs t (m + 1)) bs wr HM.out (by rw [HM.out]) HL.out (Qd.part_length LR.out) (by omega) hc' (by omega) hm' (Qd.part_lies I.out.own LR.out) (HY.out.low I.out.low HQ.out) ((I.out.lim.drop t).take _) HLB.out HT.out f1
      have F2 := hid f2
      have F3 := hid f3
      have HGU := hid GU
      clear f1 f2 f3 GU
      go_wp2_with fail
      rw [show t + m + 1 - t = m + 1 by omega]
      refine HGU.out.mono ?_
      rintro e w1 ⟨d, rfl, ⟨d0, d1⟩, DL, hb1⟩
      have o1 := I.out.own.below hb1 I.out.own.lt
      have o2 := I.out.own2.below hb1 I.out.own2.lt
      have HB2 := hid (I.out.low.trans (hb1.mono (Nat.le_of_lt I.out.own.lt)))
      obtain ⟨y, hyc⟩ : ∃ y, w1.cell? ⟨g2, t, none⟩ = some (.int .u64 y) := ⟨_, o2.cell t (by have := I.out.len2; omega)⟩
      have hfr := o2.free t
      have O1 := hid (o1.other hgg t (.int .u64 d))
      have O2 := hid (o2.set t d)
      have HB3 := hid (HB2.out.setCell (p := ⟨g2, t, none⟩) (by show g ≤ g2; omega) (.int .u64 d))
      have LEAST : Hid (∀ x, 0 ≤ x → x * (Nm.pw t * Nm.val bs) ≤ Nm.val rs → x ≤ d) := fun x x0 hx => DL.out x x0 (F3.out x x0 hx)
      have hcell : (w1.setCell ⟨g2, t, none⟩ (.int .u64 d)).cell? ⟨g2, t, none⟩ = some (.int .u64 d) := by
        rw [O2.out.cell t (by have := I.out.len2; simp; omega), Nm.getD_set _ _ _ _ (by have := I.out.len2; omega), if_pos rfl]
      clear hb1 o1 o2 HGU DL
      go_wp2_with fail
      refine (takeTimes_any g R t m (m + 1) _ rs q _ bs d _ I.out.len hRm O1.out I.out.lim HL.out (by have := HM.out; omega) (by omega) (by omega) (HY.out.low HB3.out HQ.out) HLB.out HQ.out d0 d1).mono ?_
      rintro e w2 ⟨c, rs1, rfl, ⟨c0, c1⟩, P⟩
      have DG := hid (digit_first I.out hgg O2.out HB3.out ⟨d0, d1⟩ ⟨c0, c1⟩ F2.out LEAST.out P.out)
      clear P hcell hyc hfr O1 O2 HB2 HB3 LEAST
      go_wp2_with fail
      go_loopg [8] d.toNat (fun x c wr => ∃ (d owed : Int) (rs1 : List Int), c = .int .u64 owed ∧ Hid (x = d.toNat) ∧ Hid (Digit w g g2 R t (t + m + 1) os (Nm.val rs) (Nm.val bs) d owed rs1 wr))
      case atStart => exact ⟨d, c, rs1, rfl, rfl, DG.out⟩
      case round =>
        clear DG c0 c1 d0 d1
        obtain ⟨d, owed, rs1, rfl, GK, D⟩ := hrel
        have ob := D.out.obd
        rcases (show owed = 0 ∨ owed = 1 by omega) with rfl | rfl
        · have DN := hid (D.out.done I.out (by omega))
          clear ob
          go_wp2
          go_roundg t
          case measure => omega
          case rel => exact ⟨_, _, by omega, by go_num, DN.out⟩
        · clear ob
          have hV := (Nm.val_bd rs I.out.lim).1
          obtain ⟨g1, _⟩ := D.out.great hV HB0.out
          have db := D.out.dbd.2
          have hlen : t < (os.set t d).length := by have := I.out.len2; simp; omega
          obtain ⟨y, hyc, Y⟩ : ∃ y, wr.cell? ⟨g2, t, none⟩ = some (.int .u64 y) ∧ Hid (y = d) := ⟨_, D.out.own2.cell t hlen, by show _ = _; rw [Nm.getD_set _ _ _ _ (by simpa using hlen), if_pos rfl]⟩
          have hyd := Y.out
          subst hyd
          have hfr := D.out.own2.free t
          have o2 := D.out.own2.set t (y - 1)
          rw [List.set_set] at o2
          have O1 := hid (D.out.own.other hgg t (.int .u64 (y - 1)))
          have O2 := hid o2
          have HB3 := hid (D.out.low.setCell (p := ⟨g2, t, none⟩) (by show g ≤ g2; omega) (.int .u64 (y - 1)))
          have HV := hid hV
          clear o2 hlen hV
          go_wp2_with fail
          refine (giveBack_any g R t m (m + 1) _ rs1 q _ bs _ D.out.len hRm O1.out D.out.lim HL.out (by have := HM.out; omega) (by omega) (by omega) (HY.out.low HB3.out HQ.out) HLB.out HQ.out).mono ?_
          rintro e w2 ⟨c, rs2, rfl, ⟨c0, c1⟩, P⟩
          have DN := hid (digit_next D.out HV.out HB0.out hgg O2.out HB3.out ⟨c0, c1⟩ P.out)
          clear P hyc hfr O1 O2 HB3
          go_wp2_with fail
          go_roundg (y - 1).toNat
          case measure => have := GK.out; omega
          case rel => exact ⟨y - 1, 1 - c, rs2, rfl, rfl, DN.out⟩
end Go.Proofs.YtdemopkdcnaibaaGreatDoor

namespace Go.Proofs.YtdemopkdcnaibaaGreatDoor
open Go.RowKit Go.Deep

theorem limbs_any (p : Option Addr) (n cap : Nat) (zs : List Int) (w : World) (ha : Arg w p n cap zs) :
    Calls Tryz.prog 211 #[.slice p n cap] w fun e w' => e = .returned (.int .i64 (Nm.tsize zs : Int)) ∧ w' = w := by
  obtain ⟨L, h1, _, h3, h4⟩ := blen_is zs ha.2.2.2.2
  have tl := Nm.tsize_le zs
  have hn := ha.1
  have hc := ha.2.2.1
  have hc' := ha.2.1
  have H := bitLen_any p n cap zs w ha
  rw [h1] at H
  have HB := hid H
  obtain ⟨N, HN⟩ : ∃ N, Hid (Nm.tsize zs = N) := ⟨_, rfl⟩
  rw [HN.out] at h3 h4 ⊢
  have hL : (L : Int) ≤ 1125899906842624000 := by have := HN.out; omega
  have hL0 : (0 : Int) ≤ (L : Int) := by omega
  have E : Hid (((L : Int) + 64 - 1) / 64 = (N : Int)) := by show _ = _; omega
  have E2 : Hid (((L : Int) + 64 - 1).tdiv 64 = (N : Int)) := by show _ = _; rw [Int.tdiv_eq_ediv_of_nonneg (by omega)]; exact E.out
  clear h1 h3 h4 H hn hc hc' tl ha
  go_enter Tryz.func211, Tryz.ntmps211
  go_wp2_with fail
  refine HB.out.mono ?_
  rintro e w' ⟨rfl, rfl⟩
  go_wp2_with fail
  go_ret
  exact ⟨ret_i64 (by first | exact E.out | exact E2.out), rfl⟩
end Go.Proofs.YtdemopkdcnaibaaGreatDoor

namespace Go.Proofs.YtdemopkdcnaibaaGreatDoor
open Go.RowKit Go.Deep

theorem ret_div {p : Option Addr} {a b : Nat} {r : Int} (h : a = b) : Ending.returned (.tuple #[.slice p a a, .int .u64 r, .int .i64 0]) = .returned (.tuple #[.slice p b b, .int .u64 r, .int .i64 0]) := by rw [h]

/-- Behind the limbs from k on: quotient digits are in, below k the block is 0. -/
def DivInv (g n : Nat) (w : World) (xs : List Int) (d : Int) (k : Nat) (r : Int) (os : List Int) (wr : World) : Prop :=
  Own wr g os ∧ os.length = n ∧ Nm.Limbs os ∧ Nm.val os * d + Nm.pw k * r + Nm.val (xs.take k) = Nm.val xs ∧ (∀ i, i < k → os.getD i 0 = 0) ∧ (0 ≤ r ∧ r < d) ∧ Below g w wr

theorem DivInv.step {g n : Nat} {w : World} {xs : List Int} {d : Int} {t : Nat} {r : Int} {os : List Int} {wr w' : World} (h : DivInv g n w xs d (t + 1) r os wr) (hx : t < xs.length) (ht : t < n) (hb : Below wr.heap.size wr w') {q r' x : Int}
    (hxe : x = xs.getD t 0) (hq : q * d + r' = r * 18446744073709551616 + x) (hq0 : 0 ≤ q ∧ q < 18446744073709551616) (hr : 0 ≤ r' ∧ r' < d) :
    DivInv g n w xs d t r' (os.set t q) (w'.setCell ⟨g, t, none⟩ (.int .u64 q)) := by
  obtain ⟨h1, h2, h3, h4, h5, h6, h7⟩ := h
  have hlt := h1.lt
  refine ⟨(h1.below hb hlt).set t q, by simpa using h2, h3.set t hq0.1 hq0.2, ?_, ?_, hr, ?_⟩
  · rw [Nm.val_set _ _ _ (by omega), h5 t (by omega), Int.sub_zero, Int.add_mul, Int.mul_assoc]
    rw [Nm.val_take_succ xs t hx, ← hxe, Nm.pw_succ] at h4
    have e : Nm.pw t * (q * d + r') = Nm.pw t * (r * 18446744073709551616 + x) := by rw [hq]
    rw [Int.mul_add, Int.mul_add] at e
    have e2 : 18446744073709551616 * Nm.pw t * r = Nm.pw t * (r * 18446744073709551616) := by rw [Int.mul_assoc, Int.mul_left_comm, Int.mul_comm 18446744073709551616 r]
    omega
  · intro i hi
    rw [Nm.getD_set _ _ _ _ (by omega), if_neg (by omega)]
    exact h5 i (by omega)
  · exact h7.trans ((hb.mono (Nat.le_of_lt hlt)).setCell (p := ⟨g, t, none⟩) (Nat.le_refl _) _)

set_option maxRecDepth 100000 in
set_option maxHeartbeats 1000000 in
theorem divSmall_ok (p : Option Addr) (n cap : Nat) (zs : List Int) (d : Int) (w : World) (ha : Arg w p n cap zs) (tz : Nm.tsize zs ≤ 4096) (hd0 : 0 < d) (hd1 : d < 18446744073709551616) :
    Calls Tryz.prog 212 #[.slice p n cap, .int .u64 d] w fun e w' =>
      ∃ r os rest, e = .returned (.tuple #[.slice r (List.length os) (List.length os), .int .u64 rest, .int .i64 0]) ∧ Ans w.heap.size w' r os (Nm.val os) ∧ (0 ≤ rest ∧ rest < d) ∧ Hid (Nm.val os * d + rest = Nm.val zs) ∧ Below w.heap.size w w' := by
  obtain ⟨a1, a2, a3, a4, a5⟩ := ha
  obtain ⟨N, HN⟩ : ∃ N, Hid (Nm.tsize zs = N) := ⟨_, rfl⟩
  have T1 := limited_ok p n cap zs w a1 a2 (by omega) a4 tz
  rw [HN.out] at T1
  have hN : N ≤ 4096 := by rw [← HN.out]; exact tz
  have L1 := hid ((Nm.trim_length zs).trans HN.out)
  have hmk := make64 N (by omega) w
  have ho : Own (w.alloc (.cells (madeCells #[.int .u64 0] N) 24)) w.heap.size (List.replicate N 0) := by
    rw [made_zero]; exact Own.alloc w _
  have hb0 : Below w.heap.size w (w.alloc (.cells (madeCells #[.int .u64 0] N) 24)) := (Below.refl _ _).alloc (Nat.le_refl _) _
  obtain ⟨W0, hW0⟩ : ∃ W0, w.alloc (.cells (madeCells #[.int .u64 0] N) 24) = W0 := ⟨_, rfl⟩
  have HB0 : Hid (Below w.heap.size w W0) := by rw [← hW0]; exact hb0
  have I0 : DivInv w.heap.size N w (Nm.trim zs) d N 0 (List.replicate N 0) W0 := by
    rw [← hW0]
    exact ⟨ho, by simp, Nm.Limbs.replicate _, by rw [Nm.val_replicate, Int.zero_mul, Int.mul_zero, List.take_of_length_le (by rw [L1.out]; omega)]; omega, fun i _ => getD_replicate _ _, ⟨by omega, hd0⟩, hb0⟩
  have hd : (d == 0) = false := by rw [beq_eq_false_iff_ne]; omega
  have A5 := hid a5.trim
  have A4 := hid a4.trim
  have V := hid (Nm.val_trim zs)
  have HT := hid T1
  clear T1 tz ho hb0 a4 a5
  rw [hW0] at hmk
  clear hW0
  have fin : ∀ (os : List Int) (r : Int) (wr : World), DivInv w.heap.size N w (Nm.trim zs) d 0 r os wr →
      Ans w.heap.size wr (some ⟨w.heap.size, 0, none⟩) (Nm.trim os) (Nm.val (Nm.trim os)) ∧ (0 ≤ r ∧ r < d) ∧ Hid (Nm.val (Nm.trim os) * d + r = Nm.val zs) ∧ Below w.heap.size w wr ∧ (Nm.trim os).length = Nm.tsize os := by
    intro os r wr I
    obtain ⟨i1, i2, i3, i4, i5, i6, i7⟩ := I
    refine ⟨⟨i1.lies.trim, i3.trim, by rw [Nm.trim_trim, Nm.trim_length], rfl, fun a h => by cases h; exact Nat.le_refl _⟩, i6, ?_, i7, Nm.trim_length os⟩
    show _ = _
    rw [Nm.val_trim, ← V.out, ← i4]
    simp [Nm.pw, Nm.val]
  have FIN := hid fin
  clear fin
  by_cases h0 : N = 0
  · subst h0
    have hmk1 : (Instr.makeSlice 27 (.int .i64 0) (.int .i64 0)).run Tryz.prog w = .ok (.slice (some ⟨w.heap.size, 0, none⟩) 0 0) W0 := hmk
    clear hmk
    go_enter Tryz.func212, Tryz.ntmps212
    go_wp2_with fail
    refine HT.out.mono ?_
    rintro e w' ⟨rfl, rfl⟩
    go_wp2_with fail
    refine wp_loop_rounds 1 ?_
    rw [rounds_succ]
    go_wp2_with fail
    refine (trimmed_any (some ⟨w'.heap.size, 0, none⟩) 0 0 (List.replicate 0 0) _ rfl (Nat.le_refl _) (by omega) (Lies.nil _ _)).mono ?_
    rintro e w3 ⟨rfl, rfl⟩
    have F := FIN.out _ _ _ I0
    have HF := hid F
    clear F I0
    go_wp2_with fail
    go_ret3
    exact ⟨_, _, _, rfl, HF.out.1, HF.out.2.1, HF.out.2.2.1, HF.out.2.2.2.1⟩
  · obtain ⟨b, off, rfl, hbw, HC⟩ := A4.out.at (by rw [L1.out]; omega)
    go_enter Tryz.func212, Tryz.ntmps212
    go_wp2_with fail
    refine HT.out.mono ?_
    rintro e w' ⟨rfl, rfl⟩
    go_wp2_with fail
    go_loopw [9, 10] (fun a i wr => ∃ (j : Nat) (rr : Int) (os : List Int), j ≤ N ∧ i = .int .i64 ((j : Int) - 1) ∧ a = .int .u64 rr ∧ DivInv w'.heap.size N w' (Nm.trim zs) d j rr os wr) (fun _ i _ => (intOf i + 1).toNat)
    case atStart => exact ⟨N, 0, _, Nat.le_refl _, rfl, rfl, I0⟩
    case round =>
      clear I0 hmk
      obtain ⟨j, rr, os, hj, rfl, rfl, I⟩ := hrel
      by_cases hj0 : j = 0
      · subst hj0
        have F := FIN.out _ _ _ I
        have HF := hid F
        have TR := hid (trimmed_any (some ⟨w'.heap.size, 0, none⟩) N N os wr I.2.1 (Nat.le_refl _) (by omega) I.1.lies)
        clear F I
        go_wp2_with fail
        refine TR.out.mono ?_
        rintro e w3 ⟨rfl, rfl⟩
        go_wp2_with fail
        go_ret3
        exact ⟨some ⟨w'.heap.size, 0, none⟩, Nm.trim os, rr, ret_div HF.out.2.2.2.2.symm, HF.out.1, HF.out.2.1, HF.out.2.2.1, HF.out.2.2.2.1⟩
      · obtain ⟨t, rfl⟩ : ∃ t, j = t + 1 := ⟨j - 1, by omega⟩
        obtain ⟨x, hx, X⟩ : ∃ x, wr.cell? ⟨b, off + t, none⟩ = some (.int .u64 x) ∧ Hid (x = (Nm.trim zs).getD t 0) := ⟨_, (I.2.2.2.2.2.2.cell (p := ⟨b, off + t, none⟩) hbw).trans (HC.out t (by rw [L1.out]; omega)), rfl⟩
        have hx0 := A5.out.at t
        rw [← X.out] at hx0
        obtain ⟨hx0, hx1⟩ := hx0
        obtain ⟨hr0, hr1⟩ := I.2.2.2.2.2.1
        have htN : (t : Int) < (N : Int) := by omega
        go_wp2_with fail
        refine (div64 rr x d _ hr0 hr1 hx0 hx1 hd1).mono ?_
        rintro e w2 ⟨q, r', rfl, ⟨q0, q1, s0, s1⟩, E, hb⟩
        have I2 := I.step (by rw [L1.out]; omega) (by omega) hb X.out E.out ⟨q0, q1⟩ ⟨s0, s1⟩
        have ho2 := I.1.below hb I.1.lt
        obtain ⟨y, hyc⟩ : ∃ y, w2.cell? ⟨w'.heap.size, t, none⟩ = some (.int .u64 y) := ⟨_, ho2.cell t (by have := I.2.1; omega)⟩
        have hfr := ho2.free t
        clear I hx hb ho2
        go_wp2
        go_roundw
        case rel => exact ⟨t, r', _, by omega, by go_num, rfl, I2⟩
        case measure => simp [intOf]

/-- By nothing. -/
theorem divSmall_zero (p : Option Addr) (n cap : Nat) (zs : List Int) (w : World) (ha : Arg w p n cap zs) (tz : Nm.tsize zs ≤ 4096) :
    Calls Tryz.prog 212 #[.slice p n cap, .int .u64 0] w fun e w' => e = .returned (.tuple #[.slice none 0 0, .int .u64 0, .int .i64 4]) ∧ w' = w := by
  obtain ⟨a1, a2, a3, a4, a5⟩ := ha
  have HT := hid (limited_ok p n cap zs w a1 a2 (by omega) a4 tz)
  go_enter Tryz.func212, Tryz.ntmps212
  go_wp2_with fail
  refine HT.out.mono ?_
  rintro e w' ⟨rfl, rfl⟩
  go_wp2_with fail
  go_ret3
  exact ⟨rfl, rfl⟩

/-- Of an operand that is too big. -/
theorem divSmall_big (p : Option Addr) (n cap : Nat) (zs : List Int) (d : Int) (w : World) (ha : Arg w p n cap zs) (tz : 4096 < Nm.tsize zs) :
    Calls Tryz.prog 212 #[.slice p n cap, .int .u64 d] w fun e w' => e = .returned (.tuple #[.slice none 0 0, .int .u64 0, .int .i64 2]) ∧ w' = w := by
  obtain ⟨a1, a2, a3, a4, a5⟩ := ha
  have HT := hid (limited_big p n cap zs w a1 a2 (by omega) a4 tz)
  go_enter Tryz.func212, Tryz.ntmps212
  go_wp2_with fail
  refine HT.out.mono ?_
  rintro e w' ⟨rfl, rfl⟩
  go_wp2_with fail
  go_ret3
  exact ⟨rfl, rfl⟩
end Go.Proofs.YtdemopkdcnaibaaGreatDoor

namespace Go.Proofs.YtdemopkdcnaibaaGreatDoor
open Go.RowKit Go.Deep

theorem Arg.drew {w : World} {p : Option Addr} {n cap : Nat} {zs : List Int} (h : Arg w p n cap zs) (k : Nat) : Arg (w.drewN k) p n cap zs := h

theorem Arg.cut {w : World} {p : Option Addr} {n cap : Nat} {zs : List Int} (h : Arg w p n cap zs) : Arg w p (Nm.tsize zs) cap (Nm.trim zs) :=
  ⟨Nm.trim_length zs, by have := h.tl; have := h.2.1; omega, h.2.2.1, h.2.2.2.1.trim, h.2.2.2.2.trim⟩

/-- Quotient and rest, each trimmed and in new memory. -/
def Splits (A B : Int) (w : World) (e : Ending) (w' : World) : Prop :=
  ∃ r1 os r2 rs, e = .returned (.tuple #[.slice r1 (List.length os) (List.length os), .slice r2 (List.length rs) (List.length rs), .int .i64 0]) ∧ Ans w.heap.size w' r1 os (A / B) ∧ Ans w.heap.size w' r2 rs (A % B) ∧ Below w.heap.size w w'

theorem div_is {A B q r : Int} (h0 : 0 ≤ r) (h1 : r < B) (h : q * B + r = A) : A / B = q ∧ A % B = r := by
  have hB : 0 < B := by omega
  have h2 : A / B = q := by
    rw [← h, Int.add_comm, Int.add_mul_ediv_right _ _ (by omega), Int.ediv_eq_zero_of_lt h0 h1, Int.zero_add]
  refine ⟨h2, ?_⟩
  have := Int.emod_add_mul_ediv A B
  rw [h2, Int.mul_comm] at this
  omega

theorem ret_three {p q : Option Addr} {a b c d : Nat} {e : Int} (h : a = b) (k : c = d) : Ending.returned (.tuple #[.slice p a a, .slice q c c, .int .i64 e]) = .returned (.tuple #[.slice p b b, .slice q d d, .int .i64 e]) := by rw [h, k]

theorem divMod_big (p q : Option Addr) (n cap m cap' : Nat) (zs ys : List Int) (w : World) (ha : Arg w p n cap zs) (hb : Arg w q m cap' ys) (h : 4096 < Nm.tsize zs ∨ 4096 < Nm.tsize ys) :
    Calls Tryz.prog 166 #[.slice p n cap, .slice q m cap'] w fun e w' => e = .returned (.tuple #[.slice none 0 0, .slice none 0 0, .int .i64 2]) ∧ w' = w := by
  have L1 := hid (limbs_any p n cap zs w ha)
  have L2 := hid (limbs_any q m cap' ys w hb)
  by_cases h1 : 4096 < Nm.tsize zs
  · have h1' : (4096 : Int) < (Nm.tsize zs : Int) := by omega
    go_enter Tryz.func166, Tryz.ntmps166
    go_wp2_with fail
    refine L1.out.mono ?_
    rintro e w' ⟨rfl, rfl⟩
    go_wp2_with fail
    go_ret3
    exact ⟨rfl, rfl⟩
  · have h1' : (Nm.tsize zs : Int) ≤ 4096 := by omega
    have h2' : (4096 : Int) < (Nm.tsize ys : Int) := by omega
    go_enter Tryz.func166, Tryz.ntmps166
    go_wp2_with fail
    refine L1.out.mono ?_
    rintro e w' ⟨rfl, rfl⟩
    go_wp2_with fail
    refine L2.out.mono ?_
    rintro e w' ⟨rfl, rfl⟩
    go_wp2_with fail
    go_ret3
    exact ⟨rfl, rfl⟩

theorem limbs_is (p : Option Addr) (n cap : Nat) (zs : List Int) (N : Nat) (w : World) (ha : Arg w p n cap zs) (hN : Nm.tsize zs = N) :
    Calls Tryz.prog 211 #[.slice p n cap] w fun e w' => e = .returned (.int .i64 (N : Int)) ∧ w' = w := by
  rw [← hN]
  exact limbs_any p n cap zs w ha

set_option maxRecDepth 100000 in
set_option maxHeartbeats 1000000 in
theorem divMod_zero (p q : Option Addr) (n cap m cap' : Nat) (zs ys : List Int) (w : World) (ha : Arg w p n cap zs) (hb : Arg w q m cap' ys) (tz : Nm.tsize zs ≤ 4096) (ty : Nm.tsize ys = 0) :
    Calls Tryz.prog 166 #[.slice p n cap, .slice q m cap'] w fun e w' => e = .returned (.tuple #[.slice none 0 0, .slice none 0 0, .int .i64 4]) ∧ Below w.heap.size w w' := by
  obtain ⟨N, HN⟩ : ∃ N, Hid (Nm.tsize zs = N) := ⟨_, rfl⟩
  obtain ⟨M, HM⟩ : ∃ M, Hid (Nm.tsize ys = M) := ⟨_, rfl⟩
  have h1' : (N : Int) ≤ 4096 := by have := HN.out; omega
  have h2' : (M : Int) ≤ 4096 := by have := HM.out; omega
  have h3' : ((M : Int) == 0) = true := by have := HM.out; simp; omega
  have h2 : (N : Int) ≤ (cap : Int) := by have := ha.tl; have := ha.2.1; have := HN.out; omega
  have h4 : (M : Int) ≤ (cap' : Int) := by have := hb.tl; have := hb.2.1; have := HM.out; omega
  have HA := hid ha
  have HB := hid hb
  clear ha hb ty tz
  go_enter Tryz.func166, Tryz.ntmps166
  go_wp2_with fail
  refine (limbs_is p n cap zs N _ HA.out HN.out).mono ?_
  rintro e w' ⟨rfl, rfl⟩
  go_wp2_with fail
  refine (limbs_is q m cap' ys M _ HB.out HM.out).mono ?_
  rintro e w' ⟨rfl, rfl⟩
  go_wp2_with fail
  go_quiet ((go_at_call 211; first | exact Calls.quiet_of_same (limbs_is p n cap zs N _ (HA.out.drew _) HN.out) | exact Calls.quiet_of_same (limbs_is q m cap' ys M _ (HB.out.drew _) HM.out)))
  go_wp2_with fail
  go_ret3
  exact ⟨rfl, below_drewN (Below.refl _ _) _⟩
end Go.Proofs.YtdemopkdcnaibaaGreatDoor

namespace Go.Proofs.YtdemopkdcnaibaaGreatDoor
open Go.RowKit Go.Deep

theorem Ans.up {B B' : Nat} {w : World} {p : Option Addr} {ys : List Int} {n : Int} (h : Ans B w p ys n) (hB : B' ≤ B) : Ans B' w p ys n :=
  ⟨h.1, h.2.1, h.2.2.1, h.2.2.2.1, fun a ha => Nat.le_trans hB (h.2.2.2.2 a ha)⟩

set_option maxRecDepth 100000 in
set_option maxHeartbeats 1000000 in
theorem divMod_one (p q : Option Addr) (n cap m cap' : Nat) (zs ys : List Int) (w : World) (ha : Arg w p n cap zs) (hb : Arg w q m cap' ys) (tz : Nm.tsize zs ≤ 4096) (ty : Nm.tsize ys = 1) :
    Calls Tryz.prog 166 #[.slice p n cap, .slice q m cap'] w fun e w' => Splits (Nm.val zs) (Nm.val ys) w e w' := by
  obtain ⟨b', off', rfl, hbw', HC'⟩ := hb.2.2.2.1.trim.at (by rw [Nm.trim_length]; omega)
  obtain ⟨d, hd, D⟩ : ∃ d, w.cell? ⟨b', off', none⟩ = some (.int .u64 d) ∧ Hid (d = (Nm.trim ys).getD 0 0) := ⟨_, HC'.out 0 (by rw [Nm.trim_length]; omega), rfl⟩
  have hdb := hb.2.2.2.2.trim.at 0
  rw [← D.out] at hdb
  have hdv : Nm.val ys = d := by
    have h1 := Nm.val_trim ys
    have h2 := Nm.trim_length ys
    rw [ty] at h2
    obtain ⟨y, hy⟩ := List.length_eq_one_iff.1 h2
    have h3 := D.out
    rw [hy] at h1 h3
    simp [Nm.val] at h1 h3
    omega
  have hd0 : 0 < d := by
    have := Nm.val_ge_top hb.2.2.2.2 (by omega)
    rw [ty] at this
    simp [Nm.pw] at this
    omega
  obtain ⟨_, hd1⟩ := hdb
  obtain ⟨N, HN⟩ : ∃ N, Hid (Nm.tsize zs = N) := ⟨_, rfl⟩
  obtain ⟨M, HM⟩ : ∃ M, Hid (Nm.tsize ys = M) := ⟨_, rfl⟩
  have h1' : (N : Int) ≤ 4096 := by have := HN.out; omega
  have h2' : (M : Int) ≤ 4096 := by have := HM.out; omega
  have h3' : ((M : Int) == 0) = false := by have := HM.out; simp; omega
  have h5' : ((M : Int) == 1) = true := by have := HM.out; simp; omega
  have h6' : (0 : Int) < (M : Int) := by have := HM.out; omega
  have h2 : (N : Int) ≤ (cap : Int) := by have := ha.tl; have := ha.2.1; have := HN.out; omega
  have h4 : (M : Int) ≤ (cap' : Int) := by have := hb.tl; have := hb.2.1; have := HM.out; omega
  have CU := ha.cut
  rw [HN.out] at CU
  have HCU := hid CU
  have HT : Hid (Nm.tsize (Nm.trim zs) ≤ 4096) := by show _ ≤ _; rw [Nm.trim_trim]; exact tz
  have HA := hid ha
  have HB := hid hb
  have HV := hid hdv
  clear ha hb ty tz CU hbw' HC' D hdv
  go_enter Tryz.func166, Tryz.ntmps166
  go_wp2_with fail
  refine (limbs_is p n cap zs N _ HA.out HN.out).mono ?_
  rintro e w' ⟨rfl, rfl⟩
  go_wp2_with fail
  refine (limbs_is _ m cap' ys M _ HB.out HM.out).mono ?_
  rintro e w' ⟨rfl, rfl⟩
  go_wp2_with fail
  go_quiet ((go_at_call 211; first | exact Calls.quiet_of_same (limbs_is p n cap zs N _ (HA.out.drew _) HN.out) | exact Calls.quiet_of_same (limbs_is _ m cap' ys M _ (HB.out.drew _) HM.out)))
  have hd2 : (w'.drewN nq).cell? ⟨b', off', none⟩ = some (.int .u64 d) := hd
  have HCU2 := hid (HCU.out.drew nq)
  have HB0 : Hid (Below w'.heap.size w' (w'.drewN nq)) := below_drewN (Below.refl _ _) nq
  clear hd HCU
  generalize w'.drewN nq = wq at *
  go_wp2_with fail
  refine (divSmall_ok p N cap (Nm.trim zs) d _ HCU2.out HT.out hd0 hd1).mono ?_
  rintro e w2 ⟨r, os, rest, rfl, A1, ⟨s0, s1⟩, E, hb2⟩
  have HA1 := hid A1
  have HB2 := hid hb2
  have HE := hid (div_is s0 s1 E.out)
  have s2 : rest < 18446744073709551616 := by omega
  clear A1 hb2 E hd2
  go_wp2_with fail
  refine (fromUint_any rest _ s0 s2).mono ?_
  rintro e w3 ⟨r2, os2, rfl, A2, hb3⟩
  have F : Hid (Splits (Nm.val zs) (Nm.val ys) w' (.returned (.tuple #[.slice r (List.length os) (List.length os), .slice r2 (List.length os2) (List.length os2), .int .i64 0])) w3) := by
    have e1 := HE.out
    rw [Nm.val_trim, ← HV.out] at e1
    have z1 := HB0.out.size
    have z2 := HB2.out.size
    refine ⟨r, os, r2, os2, rfl, ?_, ?_, (chain (chain HB0.out HB2.out (Nat.le_refl _)) hb3 (Nat.le_refl _))⟩
    · rw [e1.1]; exact (HA1.out.below hb3 (Nat.le_refl _)).up z1
    · rw [e1.2]; exact A2.up (Nat.le_trans z1 z2)
  clear A2 hb3
  go_wp2_with fail
  go_ret3
  exact F.out

set_option maxRecDepth 100000 in
set_option maxHeartbeats 1000000 in
theorem divMod_less (p q : Option Addr) (n cap m cap' : Nat) (zs ys : List Int) (w : World) (ha : Arg w p n cap zs) (hb : Arg w q m cap' ys) (tz : Nm.tsize zs ≤ 4096) (ty : Nm.tsize ys ≤ 4096) (ty2 : 2 ≤ Nm.tsize ys) (hlt : Nm.val zs < Nm.val ys) :
    Calls Tryz.prog 166 #[.slice p n cap, .slice q m cap'] w fun e w' => Splits (Nm.val zs) (Nm.val ys) w e w' := by
  obtain ⟨N, HN⟩ : ∃ N, Hid (Nm.tsize zs = N) := ⟨_, rfl⟩
  obtain ⟨M, HM⟩ : ∃ M, Hid (Nm.tsize ys = M) := ⟨_, rfl⟩
  have h1' : (N : Int) ≤ 4096 := by have := HN.out; omega
  have h2' : (M : Int) ≤ 4096 := by have := HM.out; omega
  have h3' : ((M : Int) == 0) = false := by have := HM.out; simp; omega
  have h5' : ((M : Int) == 1) = false := by have := HM.out; rw [beq_eq_false_iff_ne]; omega
  have h2 : (N : Int) ≤ (cap : Int) := by have := ha.tl; have := ha.2.1; have := HN.out; omega
  have h4 : (M : Int) ≤ (cap' : Int) := by have := hb.tl; have := hb.2.1; have := HM.out; omega
  have CU := ha.cut
  rw [HN.out] at CU
  have CU' := hb.cut
  rw [HM.out] at CU'
  have HCU := hid CU
  have HCU' := hid CU'
  have HC : Hid (cmpI (Nm.val (Nm.trim zs)) (Nm.val (Nm.trim ys)) = -1) := by show _ = _; rw [Nm.val_trim, Nm.val_trim]; exact cmpI_lt hlt
  have HD : Hid (Nm.val zs / Nm.val ys = 0 ∧ Nm.val zs % Nm.val ys = Nm.val (Nm.trim zs)) := by
    have := (Nm.val_bd zs ha.2.2.2.2).1
    rw [Nm.val_trim]
    exact div_is this hlt (by omega)
  have HA := hid ha
  have HB := hid hb
  clear ha hb ty tz CU CU' ty2 hlt
  go_enter Tryz.func166, Tryz.ntmps166
  go_wp2_with fail
  refine (limbs_is p n cap zs N _ HA.out HN.out).mono ?_
  rintro e w' ⟨rfl, rfl⟩
  go_wp2_with fail
  refine (limbs_is _ m cap' ys M _ HB.out HM.out).mono ?_
  rintro e w' ⟨rfl, rfl⟩
  go_wp2_with fail
  go_quiet ((go_at_call 211; first | exact Calls.quiet_of_same (limbs_is p n cap zs N _ (HA.out.drew _) HN.out) | exact Calls.quiet_of_same (limbs_is _ m cap' ys M _ (HB.out.drew _) HM.out)))
  have HCU2 := hid (HCU.out.drew nq)
  have HCU2' := hid (HCU'.out.drew nq)
  have HB0 : Hid (Below w'.heap.size w' (w'.drewN nq)) := below_drewN (Below.refl _ _) nq
  clear HCU HCU'
  generalize w'.drewN nq = wq at *
  go_wp2_with fail
  refine (cmp_is (-1) p q N cap M cap' (Nm.trim zs) (Nm.trim ys) _ HCU2.out HCU2'.out HC.out).mono ?_
  rintro e w2 ⟨rfl, hb2⟩
  have HB2 := hid (chain HB0.out hb2 (Nat.le_refl _))
  have HCU3 := hid (HCU2.out.below hb2 (Nat.le_refl _))
  clear hb2
  go_wp2_with fail
  refine (trim_any p N cap (Nm.trim zs) _ HCU3.out).mono ?_
  rintro e w3 ⟨r, os, rfl, -, A1, hb3⟩
  have F : Hid (Splits (Nm.val zs) (Nm.val ys) w' (.returned (.tuple #[.slice none 0 0, .slice r (List.length os) (List.length os), .int .i64 0])) w3) := by
    have z1 := HB2.out.size
    refine ⟨none, [], r, os, rfl, ?_, ?_, chain HB2.out hb3 (Nat.le_refl _)⟩
    · rw [HD.out.1]; exact ans_none _ _ _ (fun a h => by cases h)
    · rw [HD.out.2]; exact A1.up z1
  clear A1 hb3
  go_wp2_with fail
  go_ret3
  exact F.out

/-- The quotient of a by b has so many limbs. -/
theorem first_room {zs ys : List Int} (hz : Nm.Limbs zs) (hy : Nm.Limbs ys) {N M K : Nat} (hN : Nm.tsize zs = N) (hM : Nm.tsize ys = M) (hM0 : 0 < M) (hK : N + 1 = K + M) : Nm.val zs < Nm.pw K * Nm.val ys := by
  have h1 := Nm.val_lt_tsize hz
  have h2 := Nm.val_ge_top hy (by omega)
  rw [hN] at h1
  rw [hM] at h2
  have h3 : Nm.pw K * Nm.pw (M - 1) ≤ Nm.pw K * Nm.val ys := Int.mul_le_mul_of_nonneg_left h2 (by have := Nm.pw_pos K; omega)
  rw [← Nm.pw_add, show K + (M - 1) = N by omega] at h3
  omega

set_option maxRecDepth 100000 in
set_option maxHeartbeats 1000000 in
theorem divMod_long (p q : Option Addr) (n cap m cap' : Nat) (zs ys : List Int) (w : World) (ha : Arg w p n cap zs) (hb : Arg w q m cap' ys) (tz : Nm.tsize zs ≤ 4096) (ty : Nm.tsize ys ≤ 4096) (ty2 : 2 ≤ Nm.tsize ys) (hge : Nm.val ys ≤ Nm.val zs) :
    Calls Tryz.prog 166 #[.slice p n cap, .slice q m cap'] w fun e w' => Splits (Nm.val zs) (Nm.val ys) w e w' := by
  obtain ⟨N, HN⟩ : ∃ N, Hid (Nm.tsize zs = N) := ⟨_, rfl⟩
  obtain ⟨M, HM⟩ : ∃ M, Hid (Nm.tsize ys = M) := ⟨_, rfl⟩
  have hNM : M ≤ N := by
    rcases Nat.lt_or_ge N M with h | h
    · have := val_lt_of_tsize ha.2.2.2.2 hb.2.2.2.2 (by rw [HN.out, HM.out]; exact h)
      omega
    · exact h
  obtain ⟨K, HK⟩ : ∃ K, Hid (N + 1 = K + M) := ⟨N + 1 - M, by show _ = _; omega⟩
  have RM := hid (first_room ha.2.2.2.2 hb.2.2.2.2 HN.out HM.out (by have := HM.out; omega) HK.out)
  have h1' : (N : Int) ≤ 4096 := by have := HN.out; omega
  have h2' : (M : Int) ≤ 4096 := by have := HM.out; omega
  have h3' : ((M : Int) == 0) = false := by have := HM.out; simp; omega
  have h5' : ((M : Int) == 1) = false := by have := HM.out; rw [beq_eq_false_iff_ne]; omega
  have h2 : (N : Int) ≤ (cap : Int) := by have := ha.tl; have := ha.2.1; have := HN.out; omega
  have h4 : (M : Int) ≤ (cap' : Int) := by have := hb.tl; have := hb.2.1; have := HM.out; omega
  have CU := ha.cut
  rw [HN.out] at CU
  have CU' := hb.cut
  rw [HM.out] at CU'
  have HCU := hid CU
  have HCU' := hid CU'
  obtain ⟨c, hc0, HC⟩ : ∃ c : Int, 0 ≤ c ∧ Hid (cmpI (Nm.val (Nm.trim zs)) (Nm.val (Nm.trim ys)) = c) := by
    rw [Nm.val_trim, Nm.val_trim]
    rcases (show Nm.val zs = Nm.val ys ∨ Nm.val ys < Nm.val zs by omega) with h | h
    · exact ⟨0, by omega, cmpI_eq h⟩
    · exact ⟨1, by omega, cmpI_gt h⟩
  have HA := hid ha
  have HB := hid hb
  have hM2 : 2 ≤ M := by have := HM.out; omega
  clear ha hb ty tz CU CU' ty2 hge
  go_enter Tryz.func166, Tryz.ntmps166
  go_wp2_with fail
  refine (limbs_is p n cap zs N _ HA.out HN.out).mono ?_
  rintro e w' ⟨rfl, rfl⟩
  go_wp2_with fail
  refine (limbs_is _ m cap' ys M _ HB.out HM.out).mono ?_
  rintro e w' ⟨rfl, rfl⟩
  go_wp2_with fail
  go_quiet ((go_at_call 211; first | exact Calls.quiet_of_same (limbs_is p n cap zs N _ (HA.out.drew _) HN.out) | exact Calls.quiet_of_same (limbs_is _ m cap' ys M _ (HB.out.drew _) HM.out)))
  have HCU2 := hid (HCU.out.drew nq)
  have HCU2' := hid (HCU'.out.drew nq)
  have HB0 : Hid (Below w'.heap.size w' (w'.drewN nq)) := below_drewN (Below.refl _ _) nq
  clear HCU HCU'
  generalize w'.drewN nq = wq at *
  go_wp2_with fail
  refine (cmp_is c p q N cap M cap' (Nm.trim zs) (Nm.trim ys) _ HCU2.out HCU2'.out HC.out).mono ?_
  rintro e w2 ⟨rfl, hb2⟩
  have HB2 := hid (chain HB0.out hb2 (Nat.le_refl _))
  have HCU3 := hid (HCU2.out.below hb2 (Nat.le_refl _))
  have HCU3' := hid (HCU2'.out.below hb2 (Nat.le_refl _))
  clear hb2 HCU2 HCU2' HB0
  have hmk := make64 (N + 1) (by omega) w2
  have em : ((N + 1 : Nat) : Int) = (N : Int) + 1 := by omega
  rw [em] at hmk
  clear em
  have hb0 : Below w2.heap.size w2 (w2.alloc (.cells (madeCells #[.int .u64 0] (N + 1)) 24)) := (Below.refl _ _).alloc (Nat.le_refl _) _
  have ho : Own (w2.alloc (.cells (madeCells #[.int .u64 0] (N + 1)) 24)) w2.heap.size (List.replicate (N + 1) 0) := by
    rw [made_zero]; exact Own.alloc w2 _
  obtain ⟨w3, hcp, ho1, hb1, hz1⟩ := copy64 w2.heap.size (N + 1) (List.replicate (N + 1) 0) p N cap (Nm.trim zs) 3 _ (by simp) (by rw [Nm.trim_length, HN.out]) (by omega) ho (HCU3.out.2.2.2.1.below hb0 (Nat.le_refl _))
  have e1 : List.drop N (List.replicate (N + 1) (0 : Int)) = [0] := by simp
  rw [e1] at ho1
  have HO := hid ho1
  have HB3 := hid (hb0.trans hb1)
  have HW3 : Hid (w2.heap.size < w3.heap.size) := ho1.lt
  clear e1 ho1 hb1 ho hb0 hz1
  have DV := divide_any w2.heap.size (N + 1) K (M - 2) M cap' (Nm.trim zs ++ [0]) q (Nm.trim ys) w3 HO.out (by simp [Nm.trim_length, HN.out]) (by omega) (Nm.Limbs.append HCU3.out.2.2.2.2 (limb_one (by omega))) (by omega) HK.out (by rw [Nm.trim_length, HM.out]) (by omega) (by have := HCU3'.out.2.2.1; omega)
    (HCU3'.out.2.2.2.1.below HB3.out (Nat.le_refl _)) HCU3'.out.2.2.2.2 (HCU3'.out.2.2.2.1.lt (by rw [Nm.trim_length, HM.out]; omega)) (by
      have := Nm.tsize_top (Nm.trim ys) (by rw [Nm.trim_trim, HM.out]; omega)
      rw [Nm.trim_trim, HM.out] at this
      rw [show M - 2 + 1 = M - 1 by omega]
      exact this) (by
      have e : Nm.val (Nm.trim zs ++ [0]) = Nm.val zs := by rw [Nm.val_append, Nm.val_trim]; simp [Nm.val]
      rw [e, Nm.val_trim]
      exact RM.out)
  have HDV := hid DV
  clear DV
  go_wp2_with fail
  refine HDV.out.mono ?_
  rintro e w4 ⟨os, rs, rfl, I⟩
  have bz := (Nm.val_bd rs I.out.lim).1
  have HE : Hid (Nm.val zs / Nm.val ys = Nm.val os ∧ Nm.val zs % Nm.val ys = Nm.val rs) := by
    have h1 := I.out.eq
    have h2 := I.out.lt
    have e : Nm.val (Nm.trim zs ++ [0]) = Nm.val zs := by rw [Nm.val_append, Nm.val_trim]; simp [Nm.val]
    rw [e, Nm.val_trim] at h1
    rw [Nm.val_trim] at h2
    simp only [Nm.pw, Int.one_mul] at h2
    exact div_is bz h2 h1
  have HB4 := hid ((HB2.out.trans (HB3.out.mono HB2.out.size)).trans (I.out.low.mono HB2.out.size))
  have hK64 : K ≤ 17592186044416 := by have := HK.out; omega
  have A1 : Hid (Arg w4 (some ⟨w3.heap.size, 0, none⟩) K K os) := ⟨I.out.len2, Nat.le_refl _, hK64, I.out.own2.lies, I.out.lim2⟩
  have HZ := hid HB2.out.size
  clear bz hmk hcp HDV
  go_wp2_with fail
  refine (trim_any _ K K os _ A1.out).mono ?_
  rintro e w5 ⟨r, os', rfl, -, A2, hb5⟩
  have HB5 := hid (chain HB4.out hb5 (Nat.le_refl _))
  have A3 : Hid (Arg w5 (some ⟨w2.heap.size, 0, none⟩) (N + 1) (N + 1) rs) := ⟨I.out.len, Nat.le_refl _, by omega, (I.out.own.below hb5 I.out.own.lt).lies, I.out.lim⟩
  have HA2 := hid (A2.up (B' := w'.heap.size) (HB4.out.size))
  clear A2 hb5
  go_wp2_with fail
  refine (trim_any _ (N + 1) (N + 1) rs _ A3.out).mono ?_
  rintro e w6 ⟨r2, os2, rfl, -, A4, hb6⟩
  have F : Hid (Splits (Nm.val zs) (Nm.val ys) w' (.returned (.tuple #[.slice r (List.length os') (List.length os'), .slice r2 (List.length os2) (List.length os2), .int .i64 0])) w6) := by
    refine ⟨r, os', r2, os2, rfl, ?_, ?_, chain HB5.out hb6 (Nat.le_refl _)⟩
    · rw [HE.out.1]; exact HA2.out.below hb6 (Nat.le_refl _)
    · rw [HE.out.2]; exact A4.up HB5.out.size
  clear A4 hb6
  go_wp2_with fail
  go_ret3
  exact F.out

/-- DivMod of two naturals that are not too big, the second not zero. -/
theorem divMod_ok (p q : Option Addr) (n cap m cap' : Nat) (zs ys : List Int) (w : World) (ha : Arg w p n cap zs) (hb : Arg w q m cap' ys) (tz : Nm.tsize zs ≤ 4096) (ty : Nm.tsize ys ≤ 4096) (hy : 0 < Nm.tsize ys) :
    Calls Tryz.prog 166 #[.slice p n cap, .slice q m cap'] w fun e w' => Splits (Nm.val zs) (Nm.val ys) w e w' := by
  by_cases h1 : Nm.tsize ys = 1
  · exact divMod_one p q n cap m cap' zs ys w ha hb tz h1
  by_cases h2 : Nm.val zs < Nm.val ys
  · exact divMod_less p q n cap m cap' zs ys w ha hb tz ty (by omega) h2
  · exact divMod_long p q n cap m cap' zs ys w ha hb tz ty (by omega) (by omega)
end Go.Proofs.YtdemopkdcnaibaaGreatDoor

namespace Go.Proofs.YtdemopkdcnaibaaGreatDoor
open Go Go.RowKit Go.Deep

theorem ans_small {B : Nat} {w : World} {r : Option Addr} {os : List Int} {v : Int} (h : Ans B w r os v) (k : Nat) (hv : v < Nm.pw k) : os.length ≤ k := by
  have := (Nm.tsize_le_iff h.2.1 k).2 (by rw [h.2.2.2.1]; exact hv)
  rw [h.2.2.1] at this
  exact this
end Go.Proofs.YtdemopkdcnaibaaGreatDoor

/-
  ieee: ratio (where the divisor leaves room), Round, RoundRatio.
-/
namespace Go.Proofs.YtdemopkdcnaibaaGreatDoor
open Go Go.RowKit Go.Deep

namespace Ie
/-- What is told of a fraction: the whole part of it moved, how far, and whether there is a rest. -/
def Quo (n d Q sh : Int) (rest : Bool) : Prop := ∀ e x, Rnd Q 1 (e - sh) rest x → Rnd n d e false x

theorem quo_up (V D : Int) (L M s : Nat) (hv : 2 ^ (L - 1) ≤ V) (hl : 1 ≤ L) (d0 : 0 < D) (hd : D < 2 ^ M) (hs : L + s = M + 64) : Quo V D (V * 2 ^ s / D) s (decide (V * 2 ^ s % D ≠ 0)) := by
  intro e x h
  refine Rnd.num s (rnd_floor (V * 2 ^ s) D (e - s) x d0 ?_ h)
  rw [Int.le_ediv_iff_mul_le d0]
  have g1 : (2 : Int) ^ (L - 1 + s) ≤ V * 2 ^ s := by rw [Nm.two_add]; exact Int.mul_le_mul_of_nonneg_right hv (by have := Nm.two_pos s; omega)
  rw [show L - 1 + s = 63 + M by omega, Nm.two_add] at g1
  have e63 : (2 : Int) ^ 63 = 9223372036854775808 := by decide
  rw [e63] at g1
  have := Nm.two_pos M
  omega

theorem quo_down (V D : Int) (L M s : Nat) (v0 : 0 < V) (hv : 2 ^ (L - 1) ≤ V) (hl : 1 ≤ L) (d0 : 0 < D) (hd : D < 2 ^ M) (hs : L = M + 64 + s) : Quo V D (V / 2 ^ s / D) (-(s : Int)) (decide (V % 2 ^ s ≠ 0) || decide (V / 2 ^ s % D ≠ 0)) := by
  have hp := Nm.two_pos s
  have hD : 0 < D * 2 ^ s := Int.mul_pos d0 hp
  have a1 := Int.mul_ediv_add_emod V (2 ^ s)
  have a2 := Int.emod_nonneg V (show (2 : Int) ^ s ≠ 0 by omega)
  have a3 := Int.emod_lt_of_pos V hp
  have b1 := Int.mul_ediv_add_emod (V / 2 ^ s) D
  have b2 := Int.emod_nonneg (V / 2 ^ s) (show D ≠ 0 by omega)
  have b3 := Int.emod_lt_of_pos (V / 2 ^ s) d0
  generalize V % 2 ^ s = r1 at *
  generalize V / 2 ^ s = q1 at *
  generalize q1 % D = r2 at *
  generalize q1 / D = q at *
  have c0 : 0 ≤ 2 ^ s * r2 := Int.mul_nonneg (by omega) b2
  have c1 : 2 ^ s * (r2 + 1) ≤ 2 ^ s * D := Int.mul_le_mul_of_nonneg_left (by omega) (by omega)
  rw [Int.mul_add, Int.mul_one, Int.mul_comm (2 ^ s) D] at c1
  have key : q * (D * 2 ^ s) + (2 ^ s * r2 + r1) = V := by
    rw [← a1, ← b1, Int.mul_add, ← Int.add_assoc]
    congr 2
    ac_rfl
  obtain ⟨k1, k2⟩ := div_is (A := V) (B := D * 2 ^ s) (q := q) (r := 2 ^ s * r2 + r1) (by omega) (by omega) key
  intro e x h
  refine Rnd.den s (rnd_floor V (D * 2 ^ s) (e + s) x hD ?_ ?_)
  · rw [Int.le_ediv_iff_mul_le hD]
    rw [show L - 1 = 63 + (M + s) by omega, Nm.two_add, Nm.two_add] at hv
    have e63 : (2 : Int) ^ 63 = 9223372036854775808 := by decide
    have g : D * 2 ^ s ≤ 2 ^ M * 2 ^ s := Int.mul_le_mul_of_nonneg_right (by omega) (by omega)
    rw [e63] at hv
    omega
  · rw [k1, k2]
    have e1 : decide (2 ^ s * r2 + r1 ≠ 0) = (decide (r1 ≠ 0) || decide (r2 ≠ 0)) := by
      rw [Bool.eq_iff_iff, Bool.or_eq_true, decide_eq_true_iff, decide_eq_true_iff, decide_eq_true_iff]
      rcases (show r2 = 0 ∨ 0 < r2 by omega) with h0 | h0
      · subst h0
        rw [Int.mul_zero]
        omega
      · have := Int.mul_pos hp h0
        omega
    rw [e1]
    rw [show e - -(s : Int) = e + s by omega] at h
    exact h
end Ie

/-- What ratio tells. -/
def RatioTold (V D : Int) (w : World) (e : Ending) (w' : World) : Prop :=
  ∃ r os Q sh rest, e = .returned (.tuple #[.slice r (List.length os) (List.length os), .int .i64 sh, .bool rest]) ∧ Ans w.heap.size w' r os Q ∧ Below w.heap.size w w' ∧ Nm.tsize os ≤ 4096 ∧ (-262144 ≤ sh ∧ sh ≤ 262208) ∧ Ie.Quo V D Q sh rest

theorem pos_len {B : Nat} {w : World} {r : Option Addr} {os : List Int} {v : Int} (h : Ans B w r os v) : decide (0 < os.length) = decide (v ≠ 0) := by
  have h1 := Nm.tsize_zero_iff h.2.1
  rw [h.2.2.1, h.2.2.2.1] at h1
  rw [decide_eq_decide]
  omega

set_option maxRecDepth 100000 in
set_option maxHeartbeats 2000000 in
theorem ratio_up (p q : Option Addr) (n cap m cap' : Nat) (zs ys : List Int) (w : World) (ha : Arg w p n cap zs) (hb : Arg w q m cap' ys) (tz : Nm.tsize zs ≤ 4096) (ty : Nm.tsize ys ≤ 4096) (V D : Int) (L M s : Nat) (hV : Nm.val zs = V) (hD : Nm.val ys = D) (hv : 0 < V) (hd : 0 < D)
    (hL : blen zs = (L : Int)) (hM : blen ys = (M : Int)) (BL : Nm.BLen V L) (BM : Nm.BLen D M) (hM2 : M + 64 ≤ 262144) (hs : L + s = M + 64) :
    Calls Tryz.prog 91 #[.slice p n cap, .slice q m cap'] w fun e w' => RatioTold V D w e w' := by
  have B1 := hid (bitLen_n L p n cap zs w ha hL)
  have B2 := hid (bitLen_n M q m cap' ys w hb hM)
  have hpw : V * 2 ^ s < Nm.pw 4096 := by
    have g1 : V * 2 ^ s < 2 ^ (L + s) := by rw [Nm.two_add]; exact Int.mul_lt_mul_of_pos_right BL.1 (Nm.two_pos s)
    have g2 := Nm.two_mono (show L + s ≤ 64 * 4096 by omega)
    rw [Nm.pw_two]
    omega
  have S := hid (fun (kk : Int) (hkk : kk = (s : Int)) => shl_any p n cap zs kk s w ha tz hkk (by rw [hV]; exact hpw))
  have Q := hid (Ie.quo_up V D L M s (BL.2.2 hv).2 (BL.2.2 hv).1 hd BM.1 hs)
  have HV := hid hV
  have HD := hid hD
  have HP := hid hpw
  have HB := hid hb
  have TY := hid ty
  have v1 : 0 < Nm.tsize ys := by
    rcases Nat.eq_zero_or_pos (Nm.tsize ys) with h | h
    · have := (Nm.tsize_zero_iff hb.2.2.2.2).1 h; omega
    · exact h
  have HY := hid v1
  have l1 : decide (262144 < (M : Int) + 64) = false := by simp; omega
  have l2 : decide ((M : Int) + 64 - (L : Int) < 0) = false := by simp; omega
  have l3 : (L : Int) ≤ 300000 := by omega
  have l4 : (M : Int) ≤ 300000 := by omega
  have ls := hid (show (M : Int) + 64 - (L : Int) = (s : Int) by omega)
  have HS := hid (show (s : Int) ≤ 262208 by omega)
  have vp := hid (show 0 ≤ V * 2 ^ s from Int.mul_nonneg (by omega) (by have := Nm.two_pos s; omega))
  have hdd := hid hd
  clear ha hb tz ty hV hD hv hd hL hM BL BM hM2 hs hpw v1
  go_enter Tryz.func91, Tryz.ntmps91
  go_wp2_with fail
  refine B2.out.mono ?_
  rintro e w' ⟨rfl, rfl⟩
  go_wp2_with fail
  refine B1.out.mono ?_
  rintro e w' ⟨rfl, rfl⟩
  go_wp2_with fail
  refine (S.out _ ls.out).mono ?_
  rintro e w1 ⟨r, os, rfl, A, hB⟩
  rw [HV.out] at A
  have A1 := ans_small A 4096 HP.out
  have hb1 := HB.out.below hB (Nat.le_refl _)
  have DM := divMod_ok r q _ _ m cap' os ys w1 (A.arg (by omega)) hb1 (by rw [A.2.2.1]; exact A1) TY.out HY.out
  rw [A.2.2.2.1, HD.out] at DM
  have DM := hid DM
  have HB1 := hid hB
  clear A A1 hb1 hB S B1 B2 HB
  go_wp2_with fail
  refine DM.out.mono ?_
  rintro e w2 ⟨r1, qs, r2, rs, rfl, A2, A3, hB2⟩
  have P3 := hid (pos_len A3)
  have vq : V * 2 ^ s / D < Nm.pw 4096 := by
    have := Int.ediv_le_self D vp.out
    have := HP.out
    omega
  have ch := HB1.out.trans (hB2.mono HB1.out.size)
  have K : Hid (∀ sh rest, sh = (s : Int) → rest = decide (V * 2 ^ s % D ≠ 0) → RatioTold V D w' (.returned (.tuple #[.slice r1 (List.length qs) (List.length qs), .int .i64 sh, .bool rest])) w2) := by
    intro sh rest hsh hrest
    subst hsh hrest
    have A2' : Ans w'.heap.size w2 r1 qs (V * 2 ^ s / D) := ⟨A2.1, A2.2.1, A2.2.2.1, A2.2.2.2.1, fun a h => by have := A2.2.2.2.2 a h; have := HB1.out.size; omega⟩
    exact ⟨r1, qs, _, _, _, rfl, A2', ch, by rw [A2.2.2.1]; exact ans_small A2 4096 vq, ⟨by have := HS.out; omega, by have := HS.out; omega⟩, Q.out⟩
  clear A2 A3 vq ch hB2 DM HB1 Q HV HD HP TY HY vp hdd
  go_wp2_with fail
  go_ret3
  exact K.out _ _ ls.out P3.out
set_option maxRecDepth 100000 in
set_option maxHeartbeats 2000000 in
theorem ratio_down (p q : Option Addr) (n cap m cap' : Nat) (zs ys : List Int) (w : World) (ha : Arg w p n cap zs) (hb : Arg w q m cap' ys) (tz : Nm.tsize zs ≤ 4096) (ty : Nm.tsize ys ≤ 4096) (V D : Int) (L M s : Nat) (hV : Nm.val zs = V) (hD : Nm.val ys = D) (hv : 0 < V) (hd : 0 < D)
    (hL : blen zs = (L : Int)) (hM : blen ys = (M : Int)) (BL : Nm.BLen V L) (BM : Nm.BLen D M) (hM2 : M + 64 ≤ 262144) (hL2 : L ≤ 262144) (hs : L = M + 64 + s) (hs0 : 0 < s) (hT : Tab w) :
    Calls Tryz.prog 91 #[.slice p n cap, .slice q m cap'] w fun e w' => RatioTold V D w e w' := by
  have B1 := hid (bitLen_n L p n cap zs w ha hL)
  have B2 := hid (bitLen_n M q m cap' ys w hb hM)
  have hp := Nm.two_pos s
  have hpw : V / 2 ^ s < Nm.pw 4096 := by
    have g1 := Int.ediv_le_self (2 ^ s) (show 0 ≤ V by omega)
    have g2 := Nm.two_mono (show L ≤ 64 * 4096 by omega)
    have := BL.1
    rw [Nm.pw_two]
    omega
  have S := hid (fun (kk : Int) (hkk : kk = (s : Int)) => shr_any p n cap zs kk s w ha hT tz hkk)
  have Q := hid (Ie.quo_down V D L M s hv (BL.2.2 hv).2 (BL.2.2 hv).1 hd BM.1 hs)
  have HV := hid hV
  have HD := hid hD
  have HP := hid hpw
  have HB := hid hb
  have TY := hid ty
  have v1 : 0 < Nm.tsize ys := by
    rcases Nat.eq_zero_or_pos (Nm.tsize ys) with h | h
    · have := (Nm.tsize_zero_iff hb.2.2.2.2).1 h; omega
    · exact h
  have HY := hid v1
  have l1 : decide (262144 < (M : Int) + 64) = false := by simp; omega
  have l2 : (M : Int) + 64 - (L : Int) < 0 := by omega
  have l3 : (L : Int) ≤ 300000 := by omega
  have l4 : (M : Int) ≤ 300000 := by omega
  have ls := hid (show (M : Int) + 64 - (L : Int) = -(s : Int) by omega)
  have HS := hid (show (s : Int) ≤ 262144 by omega)
  have vp := hid (show 0 ≤ V / 2 ^ s from Int.ediv_nonneg (by omega) (by omega))
  obtain ⟨lost, hlost⟩ : ∃ lost, decide (V % 2 ^ s ≠ 0) = lost := ⟨_, rfl⟩
  rw [hlost] at Q
  have HLO := hid hlost
  have hdd := hid hd
  clear ha hb tz ty hV hD hv hd hL hM BL BM hM2 hs hs0 hpw v1 hT hL2 hp hlost
  go_enter Tryz.func91, Tryz.ntmps91
  go_wp2_with fail
  refine B2.out.mono ?_
  rintro e w' ⟨rfl, rfl⟩
  go_wp2_with fail
  refine B1.out.mono ?_
  rintro e w' ⟨rfl, rfl⟩
  go_wp2_with fail
  refine (S.out _ (by have := ls.out; omega)).mono ?_
  rintro e w1 ⟨r, os, rfl, A, hB⟩
  rw [HV.out] at A ⊢
  rw [HLO.out]
  have A1 := ans_small A 4096 HP.out
  have hb1 := HB.out.below hB (Nat.le_refl _)
  have DM := divMod_ok r q _ _ m cap' os ys w1 (A.arg (by omega)) hb1 (by rw [A.2.2.1]; exact A1) TY.out HY.out
  rw [A.2.2.2.1, HD.out] at DM
  have DM := hid DM
  have HB1 := hid hB
  clear A A1 hb1 hB S B1 B2 HB
  go_wp2_with fail
  refine DM.out.mono ?_
  rintro e w2 ⟨r1, qs, r2, rs, rfl, A2, A3, hB2⟩
  have P3 := hid (pos_len A3)
  have vq : V / 2 ^ s / D < Nm.pw 4096 := by
    have := Int.ediv_le_self D vp.out
    have := HP.out
    omega
  have ch := HB1.out.trans (hB2.mono HB1.out.size)
  have K : Hid (∀ sh rest, sh = -(s : Int) → rest = (lost || decide (V / 2 ^ s % D ≠ 0)) → RatioTold V D w' (.returned (.tuple #[.slice r1 (List.length qs) (List.length qs), .int .i64 sh, .bool rest])) w2) := by
    intro sh rest hsh hrest
    subst hsh hrest
    have A2' : Ans w'.heap.size w2 r1 qs (V / 2 ^ s / D) := ⟨A2.1, A2.2.1, A2.2.2.1, A2.2.2.2.1, fun a h => by have := A2.2.2.2.2 a h; have := HB1.out.size; omega⟩
    exact ⟨r1, qs, _, _, _, rfl, A2', ch, by rw [A2.2.2.1]; exact ans_small A2 4096 vq, ⟨by have := HS.out; omega, by have := HS.out; omega⟩, Q.out⟩
  clear A2 A3 vq ch hB2 DM HB1 Q HV HD HP TY HY vp hdd
  cases lost
  · go_wp2_with fail
    go_ret3
    exact K.out _ _ ls.out (by rw [Bool.false_or]; exact P3.out)
  · go_wp2_with fail
    go_ret3
    exact K.out _ _ ls.out (by simp)

theorem ratio_any (p q : Option Addr) (n cap m cap' : Nat) (zs ys : List Int) (w : World) (ha : Arg w p n cap zs) (hb : Arg w q m cap' ys) (hT : Tab w) (tz : Nm.tsize zs ≤ 4096) (ty : Nm.tsize ys ≤ 4095) (V D : Int) (hV : Nm.val zs = V) (hD : Nm.val ys = D) (hv : 0 < V) (hd : 0 < D) :
    Calls Tryz.prog 91 #[.slice p n cap, .slice q m cap'] w fun e w' => RatioTold V D w e w' := by
  obtain ⟨L, hL, BL, hl, _⟩ := blen_is zs ha.2.2.2.2
  obtain ⟨M, hM, BM, hm, _⟩ := blen_is ys hb.2.2.2.2
  rw [hV] at BL
  rw [hD] at BM
  rcases Nat.lt_or_ge (M + 64) L with h | h
  · exact ratio_down p q n cap m cap' zs ys w ha hb tz (by omega) V D L M (L - (M + 64)) hV hD hv hd hL hM BL BM (by omega) (by omega) (by omega) (by omega) hT
  · exact ratio_up p q n cap m cap' zs ys w ha hb tz (by omega) V D L M (M + 64 - L) hV hD hv hd hL hM BL BM (by omega) (by omega)

set_option maxRecDepth 100000 in
set_option maxHeartbeats 2000000 in
theorem roundRatio_any (neg : Bool) (p q : Option Addr) (n cap m cap' : Nat) (zs ys : List Int) (w : World) (ha : Arg w p n cap zs) (hb : Arg w q m cap' ys) (hT : Tab w) (tz : Nm.tsize zs ≤ 4096) (ty : Nm.tsize ys ≤ 4095) (V D e : Int) (hV : Nm.val zs = V) (hD : Nm.val ys = D) (hd : 0 < D) :
    Calls Tryz.prog 23 #[.bool neg, .slice p n cap, .slice q m cap', .int .i64 e] w fun r w' => ∃ x, r = .returned (.tuple #[.int .u64 (Ie.sg neg x), .int .i64 0]) ∧ Ie.Rnd V D e false x ∧ Below w.heap.size w w' := by
  obtain ⟨L, hL, BL, hl, _⟩ := blen_is zs ha.2.2.2.2
  obtain ⟨M, hM, BM, hm, _⟩ := blen_is ys hb.2.2.2.2
  rw [hV] at BL
  rw [hD] at BM
  have B1 := hid (bitLen_n L p n cap zs w ha hL)
  have B2 := hid (bitLen_n M q m cap' ys w hb hM)
  have v0 : 0 ≤ V := by rw [← hV]; exact (Nm.val_bd zs ha.2.2.2.2).1
  have l1 : decide (262144 < (L : Int)) = false := by simp; omega
  have l2 : decide (262144 < (M : Int)) = false := by simp; omega
  have m0 : 0 < M := (BM.2.2 hd).1
  have l3 : ((M : Int) == 0) = false := by rw [beq_eq_false_iff_ne]; omega
  rcases (show V = 0 ∨ 0 < V by omega) with hv | hv
  · have hL0 : L = 0 := BL.2.1 hv
    subst hL0
    have R := hid (Ie.rnd_zero D e false hd)
    have SG := hid (signed_any neg 0 w (by omega) (by omega))
    subst hv
    clear ha hb hT tz ty hV hD hd hL hM BL BM hl hm v0 m0
    go_enter Tryz.func23, Tryz.ntmps23
    go_wp2_with fail
    refine B1.out.mono ?_
    rintro e' w' ⟨rfl, rfl⟩
    go_wp2_with fail
    refine B2.out.mono ?_
    rintro e' w' ⟨rfl, rfl⟩
    go_wp2_with fail
    refine B2.out.mono ?_
    rintro e' w' ⟨rfl, rfl⟩
    go_wp2_with fail
    refine B1.out.mono ?_
    rintro e' w' ⟨rfl, rfl⟩
    go_wp2_with fail
    refine SG.out.mono ?_
    rintro e' w' ⟨rfl, rfl⟩
    go_wp2_with fail
    go_ret2
    exact ⟨0, rfl, R.out, Below.refl _ _⟩
  · have RA := hid (ratio_any p q n cap m cap' zs ys w ha hb hT tz ty V D hV hD hv hd)
    have WI := hid (fun (x : Int) => Ie.win_ok (n := V) (d := D) (e := e) (x := x) (more := false) L M v0 BL.1 hd (by have := BM.1; omega) (by omega) (by omega))
    have W0 := hid (fun (wx : World) => within_any e wx)
    obtain ⟨we, hwe⟩ : ∃ we, Ie.win e = we := ⟨_, rfl⟩
    have wb := Ie.win_bd e
    rw [hwe] at wb W0 WI
    obtain ⟨wb1, wb2⟩ := wb
    have l0 : 0 < L := (BL.2.2 hv).1
    have l4 : ((L : Int) == 0) = false := by rw [beq_eq_false_iff_ne]; omega
    have HT := hid hT
    clear ha hb hT tz ty hV hD hd hL hM BL BM hl hm v0 m0 hwe l0 hv
    go_enter Tryz.func23, Tryz.ntmps23
    go_wp2_with fail
    refine B1.out.mono ?_
    rintro e' w' ⟨rfl, rfl⟩
    go_wp2_with fail
    refine B2.out.mono ?_
    rintro e' w' ⟨rfl, rfl⟩
    go_wp2_with fail
    refine B2.out.mono ?_
    rintro e' w' ⟨rfl, rfl⟩
    go_wp2_with fail
    refine B1.out.mono ?_
    rintro e' w' ⟨rfl, rfl⟩
    go_wp2_with fail
    refine RA.out.mono ?_
    rintro e' w1 ⟨r, os, Q, sh, rest, rfl, A, hB, to4, ⟨s1, s2⟩, QU⟩
    have lo : os.length ≤ 4096 := by rw [← A.2.2.1]; exact to4
    have NR := hid (nearest_any r _ _ os w1 (A.arg (by omega)) (HT.out.below hB) to4 Q (we - sh) rest A.2.2.2.1 (by omega) (by omega))
    have HB := hid hB
    have QQ := hid QU
    clear A hB to4 QU lo B1 B2 RA HT
    go_wp2_with fail
    refine (W0.out w1).mono ?_
    rintro e' w' ⟨rfl, rfl⟩
    go_wp2_with fail
    refine NR.out.mono ?_
    rintro e' w2 ⟨x, rfl, R, hB⟩
    have bd := R.bd
    have R1 := hid (WI.out x (QQ.out we x R))
    have SG := hid (signed_any neg x w2 bd.1 (by omega))
    have HB2 := hid (HB.out.trans (hB.mono HB.out.size))
    clear R bd hB
    go_wp2_with fail
    refine SG.out.mono ?_
    rintro e' w3 ⟨rfl, rfl⟩
    go_wp2_with fail
    go_ret2
    exact ⟨x, rfl, R1.out, HB2.out⟩
end Go.Proofs.YtdemopkdcnaibaaGreatDoor

/-
  Room for products and shifts.
-/
namespace Go.Proofs.YtdemopkdcnaibaaGreatDoor
open Go Go.RowKit Go.Deep

theorem alloc_below (w : World) (A : Obj) : Below w.heap.size w (w.alloc A) := Below.alloc (Below.refl _ _) (Nat.le_refl _) A

theorem lit_small {D m : Int} {L s : Nat} (hD : 0 ≤ D) (h1 : D < Nm.pw L) (m0 : 0 ≤ m) (h2 : m < 18446744073709551616) (hs : 64 * L + 64 + s ≤ 262144) : D * m * 2 ^ s < Nm.pw 4096 ∧ D * m < Nm.pw 4096 := by
  have e64 : (2 : Int) ^ 64 = 18446744073709551616 := by decide
  rw [Nm.pw_two] at h1
  have p0 := Nm.two_pos s
  have g1 : D * m ≤ D * 2 ^ 64 := Int.mul_le_mul_of_nonneg_left (by omega) hD
  have g2 : D * 2 ^ 64 < 2 ^ (64 * L) * 2 ^ 64 := Int.mul_lt_mul_of_pos_right h1 (by omega)
  rw [← Nm.two_add] at g2
  have g3 : D * m < 2 ^ (64 * L + 64) := by omega
  have g4 : D * m * 2 ^ s < 2 ^ (64 * L + 64) * 2 ^ s := Int.mul_lt_mul_of_pos_right g3 p0
  rw [← Nm.two_add] at g4
  rw [Nm.pw_two]
  have g5 := Nm.two_mono (show 64 * L + 64 + s ≤ 64 * 4096 by omega)
  have g6 := Nm.two_mono (show 64 * L + 64 ≤ 64 * 4096 by omega)
  omega

theorem shl_room {V : Int} {L t : Nat} (h1 : V < Nm.pw L) (ht : 64 * L + t ≤ 262144) : V * 2 ^ t < Nm.pw 4096 := by
  rw [Nm.pw_two] at h1
  have g1 : V * 2 ^ t < 2 ^ (64 * L) * 2 ^ t := Int.mul_lt_mul_of_pos_right h1 (Nm.two_pos t)
  rw [← Nm.two_add] at g1
  have g2 := Nm.two_mono (show 64 * L + t ≤ 64 * 4096 by omega)
  rw [Nm.pw_two]
  omega

end Go.Proofs.YtdemopkdcnaibaaGreatDoor

/-
  ieee: finite, FromUint.
-/
namespace Go.Proofs.YtdemopkdcnaibaaGreatDoor
open Go Go.RowKit Go.Deep

set_option maxRecDepth 100000 in
theorem finite_any (d : Int) (w : World) (h0 : 0 ≤ d) (h1 : d < 18446744073709551616) :
    Calls Tryz.prog 109 #[.int .u64 d] w fun e w' => e = .returned (.bool (decide (d % 9223372036854775808 < 9218868437227405312))) ∧ w' = w := by
  have F := hid (field_any d w h0 h1)
  have fe : Ie.fld d = d % 9223372036854775808 / 4503599627370496 := by simp only [Ie.fld]; omega
  obtain ⟨f, hf⟩ : ∃ f, Ie.fld d = f := ⟨_, rfl⟩
  rw [hf] at F
  by_cases hc : f = 2047
  · have E : Hid (decide (d % 9223372036854775808 < 9218868437227405312) = false) := by rw [Hid, decide_eq_false_iff_not]; omega
    subst hc
    clear hf fe
    go_enter Tryz.func109, Tryz.ntmps109
    go_wp2_with fail
    refine F.out.mono ?_
    rintro e w' ⟨rfl, rfl⟩
    go_wp2_with fail
    go_ret
    exact ⟨by rw [E.out]; rfl, rfl⟩
  · have E : Hid (decide (d % 9223372036854775808 < 9218868437227405312) = true) := by rw [Hid, decide_eq_true_iff]; omega
    have hc' : (f == 2047) = false := by rw [beq_eq_false_iff_ne]; exact hc
    clear hf fe
    go_enter Tryz.func109, Tryz.ntmps109
    go_wp2_with fail
    refine F.out.mono ?_
    rintro e w' ⟨rfl, rfl⟩
    go_wp2_with fail
    go_ret
    exact ⟨by rw [E.out]; simp [hc], rfl⟩

set_option maxRecDepth 100000 in
theorem fromU_any (u : Int) (w : World) (hT : Tab w) (h0 : 0 ≤ u) (h1 : u < 18446744073709551616) :
    Calls Tryz.prog 56 #[.int .u64 u] w fun e w' => ∃ x, e = .returned (.int .u64 x) ∧ Ie.Rnd u 1 0 false x ∧ Below w.heap.size w w' := by
  have F := hid (fromUint_any u w h0 h1)
  have HT := hid hT
  have hp : Hid (u < Nm.pw 1) := h1
  clear hT
  go_enter Tryz.func56, Tryz.ntmps56
  go_wp2_with fail
  refine F.out.mono ?_
  rintro e w1 ⟨r, os, rfl, A, hB⟩
  have l1 := ans_small A 1 hp.out
  have N := hid (nearest_any r _ _ os w1 (A.arg (by omega)) (HT.out.below hB) (by rw [A.2.2.1]; omega) u 0 false A.2.2.2.1 (by omega) (by omega))
  have HB := hid hB
  clear A l1 hB F HT
  go_wp2_with fail
  refine N.out.mono ?_
  rintro e w2 ⟨x, rfl, R, hB2⟩
  have RR := hid R
  have HB2 := hid (HB.out.trans (hB2.mono HB.out.size))
  clear R hB2
  go_wp2_with fail
  go_ret
  exact ⟨x, rfl, RR.out, HB2.out⟩

theorem below_drew1 {B : Nat} {w w' : World} (h : Below B w w') : Below B w w'.drew := ⟨h.os, h.tape, h.output, h.size, h.block⟩

end Go.Proofs.YtdemopkdcnaibaaGreatDoor

namespace Go.Proofs.YtdemopkdcnaibaaGreatDoor
theorem ctz_int (n q t : Nat) (h : n = 2 ^ t * (2 * q + 1)) : (n : Int) = 2 ^ t * (2 * (q : Int) + 1) := by
  have e : ((2 ^ t * (2 * q + 1) : Nat) : Int) = 2 ^ t * (2 * (q : Int) + 1) := by simp
  rw [← e, ← h]
namespace Ie
/-- Whether it is a whole number. -/
def intg (d : Int) : Bool := decide (d % 9223372036854775808 < 9218868437227405312 ∧ vl (d % 9223372036854775808) = whp (d % 9223372036854775808) * 2 ^ 1075)

theorem intg_iff (r m q : Int) (t : Nat) (hm : man r = m) (h : m = 2 ^ t * (2 * q + 1)) : (vl r = whp r * 2 ^ 1075) ↔ 0 ≤ (ex r : Int) - 1074 + t := by
  have e1 : vl r = (2 * q + 1) * 2 ^ (t + ex r + 1) := by
    rw [vl, hm, h, Nm.two_succ, Nm.two_add]; ac_rfl
  constructor
  · intro he
    rcases (show 0 ≤ (ex r : Int) - 1074 + t ∨ t + ex r + 1 < 1075 by omega) with g | g
    · exact g
    · exfalso
      obtain ⟨s, hs⟩ : ∃ s, 1075 = (s + 1) + (t + ex r + 1) := ⟨1075 - (t + ex r + 1) - 1, by omega⟩
      rw [e1, hs, Nm.two_add (s + 1), ← Int.mul_assoc] at he
      have := Int.eq_of_mul_eq_mul_right (by have := Nm.two_pos (t + ex r + 1); omega) he
      exact Nm.odd_unique (this.trans (Int.mul_comm _ _))
  · intro g
    obtain ⟨s, hs⟩ : ∃ s, t + ex r + 1 = s + 1075 := ⟨t + ex r + 1 - 1075, by omega⟩
    rw [hs, Nm.two_add, ← Int.mul_assoc] at e1
    rw [whp, e1, Int.mul_ediv_cancel _ (by have := Nm.two_pos 1075; omega)]
end Ie
end Go.Proofs.YtdemopkdcnaibaaGreatDoor

/-
  ieee: Integral.
-/
namespace Go.Proofs.YtdemopkdcnaibaaGreatDoor
open Go Go.RowKit Go.Deep

theorem tz_is (x : Int) (n : Nat) (w : World) (hx : x = (n : Int)) (h1 : x < 18446744073709551616) (hT : Tab w) :
    Calls Tryz.prog 110 #[.int .u64 x] w fun e w' => e = .returned (.int .i64 (Lib.ctz 64 n)) ∧ w' = w := by
  subst hx
  exact Any7.bits_TrailingZeros64 tzLays n (by omega) w (fun _ => hT)

theorem tab_drewN {w : World} (h : Tab w) (n : Nat) : Tab (w.drewN n) := h.below (below_drewN (Below.refl _ _) n)


set_option maxRecDepth 100000 in
set_option maxHeartbeats 4000000 in
theorem integral_inf (d : Int) (w : World) (h0 : 0 ≤ d) (h1 : d < 18446744073709551616) (hr : 9218868437227405312 ≤ d % 9223372036854775808) :
    Calls Tryz.prog 54 #[.int .u64 d] w fun e w' => e = .returned (.bool false) ∧ Below w.heap.size w w' := by
  have F : Hid (∀ wx : World, Calls Tryz.prog 109 #[.int .u64 d] wx fun e w' => e = .returned (.bool false) ∧ w' = wx) := by
    intro wx
    have := finite_any d wx h0 h1
    rw [decide_eq_false (by omega)] at this
    exact this
  have D := hid (decode_any d w h0 h1)
  generalize decide (9223372036854775808 ≤ d) = neg at D
  generalize Ie.cls d = c at D
  generalize Ie.dm d = m at D
  generalize Ie.de d = x at D
  simp only [partsOf] at D
  clear hr
  go_enter Tryz.func54, Tryz.ntmps54
  go_wp2_with fail
  refine D.out.mono ?_
  rintro e w1 ⟨rfl, hB⟩
  have HB := hid hB
  clear hB D
  go_wp2_with fail
  have HB1 := hid (Below.alloc HB.out HB.out.size (.cells #[.bool neg, .int .i64 c, .int .u64 m, .int .i64 x] 26))
  generalize w1.alloc (.cells #[.bool neg, .int .i64 c, .int .u64 m, .int .i64 x] 26) = wA at *
  go_quiet ((go_at_call 109; with_reducible exact Calls.quiet_of_same (F.out _)))
  go_wp2_with fail
  go_ret
  exact ⟨rfl, below_drewN HB1.out _⟩

set_option maxRecDepth 100000 in
set_option maxHeartbeats 4000000 in
theorem integral_fin (d : Int) (w : World) (hT : Tab w) (h0 : 0 ≤ d) (h1 : d < 18446744073709551616) (hr : d % 9223372036854775808 < 9218868437227405312) (t : Nat) (ht : t ≤ 64) (m x : Int) (hm : Ie.dm d = m) (hx : Ie.de d = x) (hxb : -1074 ≤ x ∧ x ≤ 971) (hmb : 0 ≤ m ∧ m < 18446744073709551616) (hct : Lib.ctz 64 m.toNat = t) :
    Calls Tryz.prog 54 #[.int .u64 d] w fun e w' => e = .returned (.bool (decide (0 ≤ x + t))) ∧ Below w.heap.size w w' := by
  have F : Hid (∀ wx : World, Calls Tryz.prog 109 #[.int .u64 d] wx fun e w' => e = .returned (.bool true) ∧ w' = wx) := by
    intro wx
    have := finite_any d wx h0 h1
    rw [decide_eq_true hr] at this
    exact this
  have Z : Hid (∀ wx : World, Tab wx → Calls Tryz.prog 110 #[.int .u64 m] wx fun e w' => e = .returned (.int .i64 (t : Int)) ∧ w' = wx) := by
    intro wx hx
    have := tz_is m m.toNat wx (by omega) hmb.2 hx
    rw [hct] at this
    exact this
  have D := hid (decode_any d w h0 h1)
  rw [hm, hx] at D
  generalize decide (9223372036854775808 ≤ d) = neg at D
  generalize Ie.cls d = c at D
  simp only [partsOf] at D
  obtain ⟨x0, x1⟩ := hxb
  have t1 : (t : Int) ≤ 64 := by omega
  have HT := hid hT
  clear hr hm hx hmb hct hT ht
  go_enter Tryz.func54, Tryz.ntmps54
  go_wp2_with fail
  refine D.out.mono ?_
  rintro e w1 ⟨rfl, hB⟩
  have HB := hid hB
  clear hB D
  go_wp2_with fail
  have HB1 := hid (Below.alloc HB.out HB.out.size (.cells #[.bool neg, .int .i64 c, .int .u64 m, .int .i64 x] 26))
  have hg := heap_alloc_new w1 (.cells #[.bool neg, .int .i64 c, .int .u64 m, .int .i64 x] 26)
  have p2 : (w1.alloc (.cells #[.bool neg, .int .i64 c, .int .u64 m, .int .i64 x] 26)).cell? ⟨w1.heap.size, 2, none⟩ = some (.int .u64 m) := by simp only [World.cell?, hg]; rfl
  have p3 : (w1.alloc (.cells #[.bool neg, .int .i64 c, .int .u64 m, .int .i64 x] 26)).cell? ⟨w1.heap.size, 3, none⟩ = some (.int .i64 x) := by simp only [World.cell?, hg]; rfl
  clear hg
  generalize w1.alloc (.cells #[.bool neg, .int .i64 c, .int .u64 m, .int .i64 x] 26) = wA at *
  have TA := HT.out.below HB1.out
  have ZZ := hid (fun (n : Nat) => Z.out (wA.drewN n) (tab_drewN TA n))
  clear TA
  go_quiet ((first | (go_at_call 109; with_reducible exact Calls.quiet_of_same (F.out _)) | (go_at_call 110; with_reducible exact Calls.quiet_of_same (ZZ.out _))))
  go_wp2_with fail
  go_ret
  exact ⟨by simp, below_drewN HB1.out _⟩

/-- Integral. -/
theorem integral_any (d : Int) (w : World) (hT : Tab w) (h0 : 0 ≤ d) (h1 : d < 18446744073709551616) :
    Calls Tryz.prog 54 #[.int .u64 d] w fun e w' => e = .returned (.bool (Ie.intg d)) ∧ Below w.heap.size w w' := by
  by_cases hf : d % 9223372036854775808 < 9218868437227405312
  · have key : ∀ b : Bool, (b = true ↔ Ie.vl (d % 9223372036854775808) = Ie.whp (d % 9223372036854775808) * 2 ^ 1075) → Ie.intg d = b := by
      intro b hb
      rw [Ie.intg]
      cases b
      · rw [decide_eq_false_iff_not]; intro hh; have := hb.2 hh.2; cases this
      · rw [decide_eq_true_iff]; exact ⟨hf, hb.1 rfl⟩
    rcases Ie.dec_kinds d _ rfl with ⟨c, m, x, k1⟩ | ⟨c, m, x, k1, k2⟩ | ⟨c, m, x, k1, k2⟩ | ⟨c, m, x, k1⟩ | ⟨c, m, x, k1, k2⟩
    · have := integral_fin d w hT h0 h1 hf 64 (by omega) 0 0 m x (by omega) (by omega) rfl
      rw [key true ⟨fun _ => by rw [k1, Ie.vl_zero, Ie.whp_zero, Int.zero_mul], fun _ => rfl⟩]
      exact this
    · have e0 : Ie.ex (d % 9223372036854775808) = 0 := by rw [Ie.ex]; omega
      have m0 : Ie.man (d % 9223372036854775808) = d % 9223372036854775808 := by rw [Ie.man, if_pos k2]
      obtain ⟨n, hn⟩ := Int.eq_ofNat_of_zero_le (show 0 ≤ d % 9223372036854775808 by omega)
      obtain ⟨q, hq, hlt⟩ := Lib.ctzFrom_spec 64 n (by omega) (by simpa using (show n < 18446744073709551616 by omega))
      have hc : Lib.ctz 64 (d % 9223372036854775808).toNat = Lib.ctzFrom 64 n := by rw [hn, Int.toNat_natCast, Lib.ctz, if_neg (by omega)]
      have hi := Ie.intg_iff (d % 9223372036854775808) (d % 9223372036854775808) (q : Int) (Lib.ctzFrom 64 n) m0 (by rw [hn]; exact ctz_int n q _ hq)
      have := integral_fin d w hT h0 h1 hf _ (by omega) _ _ m x (by omega) (by omega) hc
      rw [key (decide (0 ≤ (-1074 : Int) + (Lib.ctzFrom 64 n : Int))) (by rw [hi, e0, decide_eq_true_iff]; omega)]
      exact this
    · have mb := Ie.man_nn (d % 9223372036854775808) (by omega)
      have mp : 0 < Ie.man (d % 9223372036854775808) := by rw [Ie.man, if_neg (by omega)]; omega
      have eb : (Ie.ex (d % 9223372036854775808) : Int) ≤ 2045 := by simp only [Ie.ex]; omega
      obtain ⟨n, hn⟩ := Int.eq_ofNat_of_zero_le mb.1
      obtain ⟨q, hq, hlt⟩ := Lib.ctzFrom_spec 64 n (by omega) (by simpa using (show n < 18446744073709551616 by omega))
      have hc : Lib.ctz 64 (Ie.man (d % 9223372036854775808)).toNat = Lib.ctzFrom 64 n := by rw [hn, Int.toNat_natCast, Lib.ctz, if_neg (by omega)]
      have hi := Ie.intg_iff (d % 9223372036854775808) _ (q : Int) (Lib.ctzFrom 64 n) hn (ctz_int n q _ hq)
      have := integral_fin d w hT h0 h1 hf _ (by omega) _ _ m x (by omega) (by omega) hc
      rw [key (decide (0 ≤ (Ie.ex (d % 9223372036854775808) : Int) - 1074 + (Lib.ctzFrom 64 n : Int))) (by rw [hi, decide_eq_true_iff])]
      exact this
    · omega
    · omega
  · have : Ie.intg d = false := by rw [Ie.intg, decide_eq_false_iff_not]; intro h; exact hf h.1
    rw [this]
    exact integral_inf d w h0 h1 (by omega)
end Go.Proofs.YtdemopkdcnaibaaGreatDoor

/-
  cmp.Compare of two uint64; masks.
-/
namespace Go.Proofs.YtdemopkdcnaibaaGreatDoor
open Go Go.RowKit Go.Deep

set_option maxRecDepth 100000 in
theorem uNaN_any (x : Int) (w : World) : Calls Tryz.prog 238 #[.int .u64 x] w fun e w' => e = .returned (.bool false) ∧ w' = w := by
  go_enter Tryz.func238, Tryz.ntmps238
  go_wp2
  go_ret
  exact ⟨by simp, rfl⟩

set_option maxRecDepth 100000 in
theorem ucmp_any (x y : Int) (w : World) : Calls Tryz.prog 225 #[.int .u64 x, .int .u64 y] w fun e w' => e = .returned (.int .i64 (cmpI x y)) ∧ w' = w := by
  by_cases h1 : x < y
  · have E : Hid (cmpI x y = -1) := by exact cmpI_lt h1
    go_enter Tryz.func225, Tryz.ntmps225
    go_wp2_with fail
    refine (uNaN_any x w).mono ?_
    rintro e w' ⟨rfl, rfl⟩
    go_wp2_with fail
    refine (uNaN_any y _).mono ?_
    rintro e w' ⟨rfl, rfl⟩
    go_wp2_with fail
    go_ret
    exact ⟨i_retI E.out.symm, rfl⟩
  · by_cases h2 : y < x
    · have E : Hid (cmpI x y = 1) := by exact cmpI_gt h2
      go_enter Tryz.func225, Tryz.ntmps225
      go_wp2_with fail
      refine (uNaN_any x w).mono ?_
      rintro e w' ⟨rfl, rfl⟩
      go_wp2_with fail
      refine (uNaN_any y _).mono ?_
      rintro e w' ⟨rfl, rfl⟩
      go_wp2_with fail
      go_ret
      exact ⟨i_retI E.out.symm, rfl⟩
    · have E : Hid (cmpI x y = 0) := by exact cmpI_eq (by omega)
      go_enter Tryz.func225, Tryz.ntmps225
      go_wp2_with fail
      refine (uNaN_any x w).mono ?_
      rintro e w' ⟨rfl, rfl⟩
      go_wp2_with fail
      refine (uNaN_any y _).mono ?_
      rintro e w' ⟨rfl, rfl⟩
      go_wp2_with fail
      go_ret
      exact ⟨i_retI E.out.symm, rfl⟩

namespace Ib
theorem mask_and (d : Int) (j : Nat) (h0 : 0 ≤ d) (h1 : d < 18446744073709551616) (hj : j ≤ 63) : bits .and .u64 d (2 ^ j - 1) = d % 2 ^ j := by
  obtain ⟨a, rfl⟩ := Int.eq_ofNat_of_zero_le h0
  have hp : (2 : Nat) ^ j ≤ 2 ^ 63 := Nat.pow_le_pow_right (by omega) hj
  have hq : 0 < (2 : Nat) ^ j := Nat.pow_pos (by omega)
  have e63 : (2 : Nat) ^ 63 = 9223372036854775808 := by decide
  have h := u64_and_nat a (2 ^ j - 1) (by omega) (by omega)
  have e : (((2 ^ j - 1 : Nat)) : Int) = 2 ^ j - 1 := by
    rw [Int.ofNat_sub (by omega)]; simp
  rw [e] at h
  rw [h, Nat.and_two_pow_sub_one_eq_mod]
  simp

theorem or_zero (d : Int) (h0 : 0 ≤ d) (h1 : d < 18446744073709551616) : bits .or .u64 d 0 = d := by
  obtain ⟨a, rfl⟩ := Int.eq_ofNat_of_zero_le h0
  have h := u64_or_nat a 0 (by omega) (by omega)
  rw [show ((0 : Nat) : Int) = 0 from rfl] at h
  rw [h, Nat.or_zero]
end Ib
end Go.Proofs.YtdemopkdcnaibaaGreatDoor

/-
  remain: rounded.
-/
namespace Go.Proofs.YtdemopkdcnaibaaGreatDoor
open Go Go.RowKit Go.Deep

/-- What a number between two whole ones goes to: W or W + 1. -/
def Ie.wup (W : Int) (up : Bool) : Int := if up = true then W + 1 else W

set_option maxRecDepth 100000 in
set_option maxHeartbeats 4000000 in
theorem rounded_T (up : Bool) (d : Int) (k s : Nat) (w : World) (hT : Tab w) (h0 : 0 ≤ d) (h1 : d < 18446744073709551616) (hf : Ie.fin d) (hi : Ie.intg d = false) (hx : Ie.de d = -(k : Int)) (k1 : 1 ≤ k) (k2 : k ≤ 1074) (hs : min k 63 = s + 1)
    (AW : ∀ wx : World, Below w.heap.size w wx → Calls Tryz.prog 192 #[.bool (Ie.dm d / 2 ^ (s + 1) % 2 == 1), .int .i64 (cmpI (Ie.dm d % 2 ^ (s + 1)) (2 ^ s))] wx fun e w' => e = .returned (.bool up) ∧ w' = wx) :
    Calls Tryz.prog 191 #[.int .u64 d, .func (Fn.func 192) #[] #[]] w fun e w' => ∃ y, e = .returned (.int .u64 (Ie.sg (Ie.ngd d) y)) ∧ Hid (Ie.Rnd (Ie.wup (Ie.dm d / 2 ^ (s + 1)) up) 1 0 false y) ∧ Below w.heap.size w w' := by
  have NN := hid (fun (wx : World) => mnan_any d wx h0 h1)
  have NI := hid (fun (wx : World) => minfinite_any d wx h0 h1)
  rw [(Ie.fin_kinds hf).1] at NN
  rw [(Ie.fin_kinds hf).2] at NI
  have IG := hid (fun (wx : World) (hx : Tab wx) => integral_any d wx hx h0 h1)
  rw [hi] at IG
  have D := hid (fun (wx : World) => decode_any d wx h0 h1)
  rw [← Ie.ngd, hx] at D
  obtain ⟨⟨m0, m1⟩, ⟨e0, e1⟩, -, -⟩ := Ie.dec_f d hf
  have HT := hid hT
  have WK : IntKind.i64.wrap (k : Int) = (k : Int) := by rw [IntKind.wrap_i64]; omega
  have hd : min (k : Int) 63 = ((s + 1 : Nat) : Int) := by omega
  obtain ⟨H, hH⟩ : ∃ H, IntKind.u64.wrap (2 ^ s) = H := ⟨_, rfl⟩
  have HB0 : 1 ≤ H ∧ H ≤ 4611686018427387904 ∧ H = 2 ^ s := by
    have g1 := Nm.two_mono (show s ≤ 62 by omega)
    have g2 := Nm.two_pos s
    have e62 : (2 : Int) ^ 62 = 4611686018427387904 := by decide
    rw [IntKind.wrap_u64, Int.emod_eq_of_lt (by omega) (by omega)] at hH
    exact ⟨by omega, by omega, hH.symm⟩
  obtain ⟨H0, H1, H2⟩ := HB0
  have HH2 := hid H2
  have hR : bits .and .u64 (Ie.dm d) (2 * H - 1) = Ie.dm d % 2 ^ (s + 1) := by
    have e : 2 * H - 1 = 2 ^ (s + 1) - 1 := by rw [H2, Nm.two_succ]
    rw [e]
    exact Ib.mask_and _ (s + 1) m0 (by omega) (by omega)
  rw [← H2] at AW
  obtain ⟨W, hW⟩ : ∃ W, Ie.dm d / 2 ^ (s + 1) = W := ⟨_, rfl⟩
  obtain ⟨R, hR2⟩ : ∃ R, Ie.dm d % 2 ^ (s + 1) = R := ⟨_, rfl⟩
  rw [hW, hR2] at AW
  rw [hR2] at hR
  rw [hW]
  have W0 : 0 ≤ W ∧ W < 9007199254740992 := by
    rw [← hW]
    have := Nm.two_pos (s + 1)
    exact ⟨Int.ediv_nonneg m0 (by omega), by have := Int.ediv_le_self (2 ^ (s + 1)) m0; omega⟩
  obtain ⟨W0, W1⟩ := W0
  have OA := Ib.one_and W W0 (by omega)
  have UC := hid (fun (wx : World) => ucmp_any R H wx)
  have AW := hid AW
  have SA := Ib.sign_and d h0 h1
  have FU : Hid (∀ wx : World, Tab wx → Calls Tryz.prog 56 #[.int .u64 (Ie.wup W up)] wx fun e w' => ∃ x, e = .returned (.int .u64 x) ∧ Ie.Rnd (Ie.wup W up) 1 0 false x ∧ Below wx.heap.size wx w') := by
    intro wx hx
    exact fromU_any _ wx hx (by rw [Ie.wup]; split <;> omega) (by rw [Ie.wup]; split <;> omega)
  have OR : Hid (∀ y : Int, Ie.Rnd (Ie.wup W up) 1 0 false y → bits .or .u64 y (d / 9223372036854775808 * 9223372036854775808) = Ie.sg (Ie.ngd d) y) := by
    intro y hy
    have b := hy.bd
    rcases (show d < 9223372036854775808 ∨ 9223372036854775808 ≤ d by omega) with g | g
    · rw [show d / 9223372036854775808 * 9223372036854775808 = 0 by omega, Ib.or_zero y b.1 (by omega), Ie.ngd, decide_eq_false (by omega)]; rfl
    · rw [show d / 9223372036854775808 * 9223372036854775808 = 9223372036854775808 by omega, Ib.sign_or y b.1 (by omega), Ie.ngd, decide_eq_true (by omega)]; rfl
  clear H2
  clear hT hf e0 e1 hi hx hs hR2
  simp only [partsOf] at D
  generalize Ie.ngd d = neg at *
  generalize Ie.dm d = m at *
  generalize d / 9223372036854775808 * 9223372036854775808 = sv at *
  generalize Ie.cls d = c at *
  go_enter Tryz.func191, Tryz.ntmps191
  go_wp2_with fail
  refine (NN.out _).mono ?_
  rintro e wz ⟨rfl, hz⟩
  replace hz := hz.symm
  subst hz
  go_wp2_with fail
  refine (NI.out _).mono ?_
  rintro e wz ⟨rfl, hz⟩
  replace hz := hz.symm
  subst hz
  go_wp2_with fail
  refine (IG.out _ HT.out).mono ?_
  rintro e w0 ⟨rfl, hB0⟩
  go_wp2_with fail
  refine (D.out _).mono ?_
  rintro e w1 ⟨rfl, hB1⟩
  have HB1 := hid (hB0.trans (hB1.mono hB0.size))
  clear hB0 hB1 NN NI D IG
  go_upto_region 6 with fail
  have hb := HB1.out.trans ((alloc_b w1 (.cells #[.bool neg, .int .i64 c, .int .u64 m, .int .i64 (-(k : Int))] 26)).mono HB1.out.size)
  have P := Row4.new w1 26 (.bool neg) (.int .i64 c) (.int .u64 m) (.int .i64 (-(k : Int)))
  have HT1 := hid (HT.out.below hb)
  have HB2 := hid hb
  obtain ⟨⟨-, -, p2, p3⟩, -⟩ := P.cells
  clear P hb HT HB1
  generalize w1.alloc (.cells #[.bool neg, .int .i64 c, .int .u64 m, .int .i64 (-(k : Int))] 26) = wA at *
  generalize w1.heap.size = b at *
  go_upto_region 8 with fail
  go_region
  have HT2 := hid (HT1.out.below (drew_nil wA))
  have HB3 := hid (HB2.out.trans ((drew_nil wA).mono HB2.out.size))
  clear HT1 HB2 p2 p3 hR hW
  generalize wA.drew = wB at *
  go_wp2_with fail
  refine (UC.out _).mono ?_
  rintro e wz ⟨rfl, hz⟩
  replace hz := hz.symm
  subst hz
  go_wp2_with fail
  refine (AW.out _ HB3.out).mono ?_
  rintro e wz ⟨rfl, hz⟩
  replace hz := hz.symm
  subst hz
  clear AW UC
  cases up
  · simp only [Ie.wup, Bool.false_eq_true, if_false] at FU OR ⊢
    go_wp2_with fail
    refine (FU.out _ HT2.out).mono ?_
    rintro e w5 ⟨y, rfl, hy, hB⟩
    have E := OR.out y hy
    have HY := hid hy
    have HB4 := hid (HB3.out.trans (hB.mono HB3.out.size))
    clear hy hB FU OR HB3
    go_wp2_with fail
    go_ret
    exact ⟨_, rfl, HY.out, HB4.out⟩
  · simp only [Ie.wup, if_true] at FU OR ⊢
    go_wp2_with fail
    refine (FU.out _ HT2.out).mono ?_
    rintro e w5 ⟨y, rfl, hy, hB⟩
    have E := OR.out y hy
    have HY := hid hy
    have HB4 := hid (HB3.out.trans (hB.mono HB3.out.size))
    clear hy hB FU OR HB3
    go_wp2_with fail
    go_ret
    exact ⟨_, rfl, HY.out, HB4.out⟩
end Go.Proofs.YtdemopkdcnaibaaGreatDoor

/-
  remain: rounded where nothing is to be rounded; Trunc.
-/
namespace Go.Proofs.YtdemopkdcnaibaaGreatDoor
open Go Go.RowKit Go.Deep

namespace Ie
theorem intg_iff_un {d : Int} (hf : fin d) : intg d = true ↔ un (ab d) % 2 ^ 1074 = 0 := by
  rw [intg, decide_eq_true_iff, ← intg_un, whp, ab]
  exact ⟨fun h => h.2, fun h => ⟨hf, h⟩⟩

theorem cmpI_iff {a b c d : Int} (h1 : a < b ↔ c < d) (h2 : a = b ↔ c = d) : cmpI a b = cmpI c d := by
  by_cases g1 : a < b
  · rw [cmpI_lt g1, cmpI_lt (h1.1 g1)]
  · by_cases g2 : a = b
    · rw [cmpI_eq g2, cmpI_eq (h2.1 g2)]
    · have k1 : ¬ c < d := fun h => g1 (h1.2 h)
      have k2 : ¬ c = d := fun h => g2 (h2.2 h)
      rw [cmpI_gt (by omega), cmpI_gt (by omega)]

/-- A number that isn't whole has bits behind the point. -/
theorem frac_k {d : Int} (hf : fin d) (hi : intg d = false) : ∃ k s : Nat, de d = -(k : Int) ∧ 1 ≤ k ∧ k ≤ 1074 ∧ min k 63 = s + 1 ∧ dm d / 2 ^ (s + 1) = un (ab d) / 2 ^ 1074 ∧ cmpI (dm d % 2 ^ (s + 1)) (2 ^ s) = cmpI (un (ab d) % 2 ^ 1074) (2 ^ 1073) := by
  obtain ⟨⟨m0, m1⟩, ⟨e0, e1⟩, g, -⟩ := dec_f d hf
  have hn : ¬ un (ab d) % 2 ^ 1074 = 0 := fun h => by rw [(intg_iff_un hf).2 h] at hi; cases hi
  have neg : de d < 0 := by
    rcases (show de d < 0 ∨ 0 ≤ de d by omega) with h | h
    · exact h
    · exfalso
      obtain ⟨j, hj⟩ : ∃ j : Nat, (j : Int) = de d := ⟨(de d).toNat, by omega⟩
      apply hn
      rw [← g (j + 1074) (by omega), Nm.two_add, ← Int.mul_assoc]
      exact Int.mul_emod_left _ _
  obtain ⟨k, hk⟩ : ∃ k : Nat, de d = -(k : Int) := ⟨(-de d).toNat, by omega⟩
  obtain ⟨s, hs⟩ : ∃ s : Nat, min k 63 = s + 1 := ⟨min k 63 - 1, by omega⟩
  obtain ⟨q1, q2, q3⟩ := whole_cut (U := un (ab d)) (k := k) (dr := s + 1) m0 m1 (by omega) (by omega) hs.symm (g (1074 - k) (by omega)).symm
  exact ⟨k, s, hk, by omega, by omega, hs, q1, cmpI_iff q2 q3⟩

/-- One of the two whole numbers beside d. -/
def WIs (d : Int) (up : Bool) (r : Int) : Prop :=
  (isn d = true → r = 9221120237041090560) ∧ (isi d = true → r = d) ∧
  (fin d → ∃ y, r = sg (ngd d) y ∧ 0 ≤ y ∧ y < 9218868437227405312 ∧ (intg d = true → y = ab d) ∧ (intg d = false → un y = wup (un (ab d) / 2 ^ 1074) up * 2 ^ 1074))

theorem sg_ab (d : Int) (h0 : 0 ≤ d) (h1 : d < 18446744073709551616) : d = sg (ngd d) (ab d) := by
  have := sb_ab d h0 h1
  exact this

theorem un_half {d : Int} (hf : fin d) (hi : intg d = false) : 0 ≤ un (ab d) / 2 ^ 1074 ∧ un (ab d) / 2 ^ 1074 + 1 < 9007199254740992 := by
  obtain ⟨⟨m0, m1⟩, -, -, -⟩ := dec_f d hf
  obtain ⟨k, s, -, -, -, -, q, -⟩ := frac_k hf hi
  rw [← q]
  have hp := Nm.two_pos (s + 1)
  refine ⟨Int.ediv_nonneg m0 (by omega), ?_⟩
  have h2 : (2 : Int) ^ (s + 1) = 2 ^ s * 2 := by rw [Nm.two_succ, Int.mul_comm]
  have hs := Nm.two_pos s
  have : dm d / 2 ^ (s + 1) < 4503599627370496 := by
    refine Int.ediv_lt_of_lt_mul hp ?_
    generalize (2 : Int) ^ (s + 1) = A at *
    generalize (2 : Int) ^ s = B at *
    omega
  omega

theorem wup_bd {W : Int} (up : Bool) (h0 : 0 ≤ W) (h1 : W + 1 < 9007199254740992) : 0 ≤ wup W up ∧ wup W up < 9007199254740992 := by
  rw [wup]; split <;> omega

theorem wis_fin {d y : Int} {up : Bool} (hf : fin d) (hi : intg d = false) (h : Rnd (wup (un (ab d) / 2 ^ 1074) up) 1 0 false y) : WIs d up (sg (ngd d) y) := by
  have b := un_half hf hi
  obtain ⟨q, q0, q1⟩ := rnd_rep (c := 1074) (by omega) (wup_bd up b.1 b.2).1 (wup_bd up b.1 b.2).2 (by omega) h
  refine ⟨fun g => ?_, fun g => ?_, fun _ => ⟨y, rfl, q0, q1, fun g => ?_, fun _ => q⟩⟩
  · rw [(fin_kinds hf).1] at g; cases g
  · rw [(fin_kinds hf).2] at g; cases g
  · rw [hi] at g; cases g

theorem wis_stay {d : Int} (up : Bool) (h0 : 0 ≤ d) (h1 : d < 18446744073709551616) (h : isi d = true ∨ (fin d ∧ intg d = true)) : WIs d up d := by
  refine ⟨fun g => ?_, fun _ => rfl, fun hf => ?_⟩
  · rcases h with h | h
    · simp only [isn, isi, decide_eq_true_iff] at h g; omega
    · rw [(fin_kinds h.1).1] at g; cases g
  · rcases h with h | h
    · rw [(fin_kinds hf).2] at h; cases h
    · exact ⟨ab d, sg_ab d h0 h1, (ab_bd d).1, hf, fun _ => rfl, fun g => by rw [h.2] at g; cases g⟩
end Ie

set_option maxRecDepth 100000 in
theorem rounded_stay (fv : Value) (up : Bool) (d : Int) (w : World) (hT : Tab w) (h0 : 0 ≤ d) (h1 : d < 18446744073709551616) (h : Ie.fin d → Ie.intg d = true) :
    Calls Tryz.prog 191 #[.int .u64 d, fv] w fun e w' => ∃ r, e = .returned (.int .u64 r) ∧ Ie.WIs d up r ∧ Below w.heap.size w w' := by
  have NN := hid (fun (wx : World) => mnan_any d wx h0 h1)
  have NI := hid (fun (wx : World) => minfinite_any d wx h0 h1)
  have IG := hid (fun (wx : World) (hx : Tab wx) => integral_any d wx hx h0 h1)
  have HT := hid hT
  rcases Ie.kinds d with g | ⟨g, g', g''⟩ | ⟨g, g', g''⟩
  · have E : Hid (Ie.WIs d up 9221120237041090560) := ⟨fun _ => rfl, fun k => (by simp only [Ie.isn, Ie.isi, decide_eq_true_iff] at g k; omega), fun k => (by simp only [Ie.isn, Ie.fin, decide_eq_true_iff] at g k; omega)⟩
    rw [g] at NN
    clear g h
    go_enter Tryz.func191, Tryz.ntmps191
    go_wp2_with fail
    refine (NN.out _).mono ?_
    rintro e wz ⟨rfl, hz⟩
    replace hz := hz.symm
    subst hz
    go_wp2_with fail
    go_ret
    exact ⟨_, rfl, E.out, Below.refl _ _⟩
  · have E := hid (Ie.wis_stay up h0 h1 (.inl g'))
    rw [g] at NN
    rw [g'] at NI
    clear g g' g'' h
    go_enter Tryz.func191, Tryz.ntmps191
    go_wp2_with fail
    refine (NN.out _).mono ?_
    rintro e wz ⟨rfl, hz⟩
    replace hz := hz.symm
    subst hz
    go_wp2_with fail
    refine (NI.out _).mono ?_
    rintro e wz ⟨rfl, hz⟩
    replace hz := hz.symm
    subst hz
    go_wp2_with fail
    go_ret
    exact ⟨_, rfl, E.out, Below.refl _ _⟩
  · have E := hid (Ie.wis_stay up h0 h1 (.inr ⟨g'', h g''⟩))
    rw [g] at NN
    rw [g'] at NI
    rw [h g''] at IG
    clear g g' g'' h
    go_enter Tryz.func191, Tryz.ntmps191
    go_wp2_with fail
    refine (NN.out _).mono ?_
    rintro e wz ⟨rfl, hz⟩
    replace hz := hz.symm
    subst hz
    go_wp2_with fail
    refine (NI.out _).mono ?_
    rintro e wz ⟨rfl, hz⟩
    replace hz := hz.symm
    subst hz
    go_wp2_with fail
    refine (IG.out _ HT.out).mono ?_
    rintro e w1 ⟨rfl, hB⟩
    have HB := hid hB
    clear hB
    go_wp2_with fail
    go_ret
    exact ⟨_, rfl, E.out, HB.out⟩

set_option maxRecDepth 100000 in
theorem truncRule_any (a b : Value) (w : World) : Calls Tryz.prog 192 #[a, b] w fun e w' => e = .returned (.bool false) ∧ w' = w := by
  go_enter Tryz.func192, Tryz.ntmps192
  go_wp2_with fail
  go_ret
  exact ⟨rfl, rfl⟩

theorem roundedT_any (d : Int) (w : World) (hT : Tab w) (h0 : 0 ≤ d) (h1 : d < 18446744073709551616) :
    Calls Tryz.prog 191 #[.int .u64 d, .func (Fn.func 192) #[] #[]] w fun e w' => ∃ r, e = .returned (.int .u64 r) ∧ Ie.WIs d false r ∧ Below w.heap.size w w' := by
  by_cases hi : Ie.fin d ∧ Ie.intg d = false
  · obtain ⟨hf, hi⟩ := hi
    obtain ⟨k, s, q1, q2, q3, q4, q5, q6⟩ := Ie.frac_k hf hi
    refine (rounded_T false d k s w hT h0 h1 hf hi q1 q2 q3 q4 (fun wx _ => truncRule_any _ _ wx)).mono ?_
    rintro e w' ⟨y, rfl, hy, hB⟩
    rw [q5] at hy
    exact ⟨_, rfl, Ie.wis_fin hf hi hy.out, hB⟩
  · refine rounded_stay _ false d w hT h0 h1 (fun hf => ?_)
    cases g : Ie.intg d
    · exact absurd ⟨hf, g⟩ hi
    · rfl

set_option maxRecDepth 100000 in
theorem trunc_any (d : Int) (w : World) (hT : Tab w) (h0 : 0 ≤ d) (h1 : d < 18446744073709551616) :
    Calls Tryz.prog 139 #[.int .u64 d] w fun e w' => ∃ r, e = .returned (.int .u64 r) ∧ Ie.WIs d false r ∧ Below w.heap.size w w' := by
  have R := hid (roundedT_any d w hT h0 h1)
  clear hT
  go_enter Tryz.func139, Tryz.ntmps139
  go_wp2_with fail
  refine R.out.mono ?_
  rintro e w' ⟨r, rfl, h⟩
  have H := hid h
  clear h
  go_wp2_with fail
  go_ret
  exact ⟨_, rfl, H.out⟩
end Go.Proofs.YtdemopkdcnaibaaGreatDoor

/-
  Two exacts in boxes of their own, and room for the answer.
-/
namespace Go.Proofs.YtdemopkdcnaibaaGreatDoor
open Go Go.RowKit Go.Deep

/-- Two exacts in boxes of their own, and room for the answer. -/
def Box (w wx : World) (x0 x1 x2 x3 y0 y1 y2 y3 : Value) : Prop :=
  (Row4 wx w.heap.size 114 x0 x1 x2 x3 ∧ Row4 wx (w.heap.size + 1) 114 y0 y1 y2 y3 ∧ Row4 wx (w.heap.size + 2) 114 (.bool false) (.slice none 0 0) (.int .i64 0) (.bool false)) ∧ Below w.heap.size w wx ∧ w.heap.size + 3 ≤ wx.heap.size

theorem Box.new (w : World) (x0 x1 x2 x3 y0 y1 y2 y3 : Value) :
    Box w (((w.alloc (.cells #[x0, x1, x2, x3] 114)).alloc (.cells #[y0, y1, y2, y3] 114)).alloc (.cells #[.bool false, .slice none 0 0, .int .i64 0, .bool false] 114)) x0 x1 x2 x3 y0 y1 y2 y3 := by
  have s1 : (w.alloc (.cells #[x0, x1, x2, x3] 114)).heap.size = w.heap.size + 1 := by simp
  have s2 : ((w.alloc (.cells #[x0, x1, x2, x3] 114)).alloc (.cells #[y0, y1, y2, y3] 114)).heap.size = w.heap.size + 2 := by simp
  have r0 := Row4.new w 114 x0 x1 x2 x3
  have r1 := Row4.new (w.alloc (.cells #[x0, x1, x2, x3] 114)) 114 y0 y1 y2 y3
  have r2 := Row4.new ((w.alloc (.cells #[x0, x1, x2, x3] 114)).alloc (.cells #[y0, y1, y2, y3] 114)) 114 (.bool false) (.slice none 0 0) (.int .i64 0) (.bool false)
  rw [s1] at r1
  rw [s2] at r2
  refine ⟨⟨?_, ?_, r2⟩, ?_, ?_⟩
  · exact (r0.below (alloc_b _ _) (by omega)).below (alloc_b _ _) (by omega)
  · exact r1.below (alloc_b _ _) (by omega)
  · have h1 := alloc_b w (.cells #[x0, x1, x2, x3] 114)
    have h2 := Below.alloc h1 h1.size (.cells #[y0, y1, y2, y3] 114)
    exact Below.alloc h2 h2.size _
  · simp

theorem Box.on {w wx w' : World} {x0 x1 x2 x3 y0 y1 y2 y3 : Value} (h : Box w wx x0 x1 x2 x3 y0 y1 y2 y3) (hB : Below wx.heap.size wx w') : Box w w' x0 x1 x2 x3 y0 y1 y2 y3 := by
  obtain ⟨⟨a, b, c⟩, d, e⟩ := h
  exact ⟨⟨a.below hB a.lt, b.below hB b.lt, c.below hB c.lt⟩, d.trans (hB.mono d.size), by have := hB.size; omega⟩

theorem Box.cells {w wx : World} {x0 x1 x2 x3 y0 y1 y2 y3 : Value} (h : Box w wx x0 x1 x2 x3 y0 y1 y2 y3) :
    (wx.cell? ⟨w.heap.size, 0, none⟩ = some x0 ∧ wx.cell? ⟨w.heap.size, 1, none⟩ = some x1 ∧ wx.cell? ⟨w.heap.size, 2, none⟩ = some x2) ∧
    (wx.cell? ⟨w.heap.size + 1, 0, none⟩ = some y0 ∧ wx.cell? ⟨w.heap.size + 1, 1, none⟩ = some y1 ∧ wx.cell? ⟨w.heap.size + 1, 2, none⟩ = some y2) ∧
    ((wx.cell? ⟨w.heap.size + 2, 0, none⟩ = some (.bool false) ∧ wx.cell? ⟨w.heap.size + 2, 1, none⟩ = some (.slice none 0 0) ∧ wx.cell? ⟨w.heap.size + 2, 2, none⟩ = some (.int .i64 0) ∧ wx.cell? ⟨w.heap.size + 2, 3, none⟩ = some (.bool false)) ∧
      (wx.frozen? ⟨w.heap.size + 2, 0, none⟩ = false ∧ wx.frozen? ⟨w.heap.size + 2, 1, none⟩ = false ∧ wx.frozen? ⟨w.heap.size + 2, 2, none⟩ = false ∧ wx.frozen? ⟨w.heap.size + 2, 3, none⟩ = false)) := by
  obtain ⟨⟨a, b, c⟩, -, -⟩ := h
  exact ⟨⟨a.cells.1.1, a.cells.1.2.1, a.cells.1.2.2.1⟩, ⟨b.cells.1.1, b.cells.1.2.1, b.cells.1.2.2.1⟩, c.cells⟩
end Go.Proofs.YtdemopkdcnaibaaGreatDoor

/-
  soft: plus (made by mkplus.py).
-/
namespace Go.Proofs.YtdemopkdcnaibaaGreatDoor
open Go Go.RowKit Go.Deep

namespace Ie
/-- What plus tells: the sum of both, at the lower exponent (or nothing at 0). -/
def SumIs (n1 : Bool) (V1 e1 : Int) (n2 : Bool) (V2 e2 : Int) (neg : Bool) (V x : Int) : Prop :=
  (x = min e1 e2 ∨ (V = 0 ∧ x = 0)) ∧ (V = 0 → neg = (n1 && n2)) ∧ (0 ≤ V ∧ V < 2 ^ 5000) ∧
  ∀ B a b c : Nat, (a : Int) = e1 + B → (b : Int) = e2 + B → (c : Int) = x + B → sn neg V * 2 ^ c = sn n1 V1 * 2 ^ a + sn n2 V2 * 2 ^ b

theorem sum_at {n1 n2 neg : Bool} {V1 V2 V e1 e2 m : Int} {k1 k2 : Nat} (hm : min e1 e2 = m) (hk1 : (k1 : Int) = e1 - m) (hk2 : (k2 : Int) = e2 - m) (h : sn neg V = sn n1 (V1 * 2 ^ k1) + sn n2 (V2 * 2 ^ k2)) (h0 : V = 0 → neg = (n1 && n2)) (v0 : 0 ≤ V) (v1 : V < 2 ^ 5000) : SumIs n1 V1 e1 n2 V2 e2 neg V m := by
  refine ⟨.inl hm.symm, h0, ⟨v0, v1⟩, fun B a b c ha hb hc => ?_⟩
  rw [h, ← sn_mul_right, ← sn_mul_right, Int.add_mul, Int.mul_assoc, Int.mul_assoc, ← Nm.two_add, ← Nm.two_add, show k1 + c = a by omega, show k2 + c = b by omega]

theorem sum_none {n1 n2 : Bool} {V1 V2 e1 e2 m : Int} {k1 k2 : Nat} (hm : min e1 e2 = m) (hk1 : (k1 : Int) = e1 - m) (hk2 : (k2 : Int) = e2 - m) (hn : n1 ≠ n2) (h : V1 * 2 ^ k1 = V2 * 2 ^ k2) : SumIs n1 V1 e1 n2 V2 e2 false 0 0 := by
  refine ⟨.inr ⟨rfl, rfl⟩, fun _ => ?_, ⟨by omega, Nm.two_pos _⟩, fun B a b c ha hb hc => ?_⟩
  · cases n1 <;> cases n2 <;> first | rfl | exact absurd rfl hn
  · have key : V1 * 2 ^ a = V2 * 2 ^ b := by
      have q : (a : Int) = k1 + (m + B) ∧ (b : Int) = k2 + (m + B) := by omega
      obtain ⟨j, hj⟩ : ∃ j : Nat, (j : Int) = m + B := ⟨(m + B).toNat, by omega⟩
      rw [show a = k1 + j by omega, show b = k2 + j by omega, Nm.two_add, Nm.two_add, ← Int.mul_assoc, ← Int.mul_assoc, h]
    rw [sn_zero, Int.zero_mul, sn_mul_right, sn_mul_right, key]
    cases n1 <;> cases n2 <;> simp only [sn, Bool.false_eq_true, if_true, if_false] <;> first | exact absurd rfl hn | omega

theorem up_lt {V : Int} {k K : Nat} (v1 : V < 2 ^ 200) (hk : k ≤ K) : V * 2 ^ k < 2 ^ (200 + K) := by
  have h1 : V * 2 ^ k < 2 ^ 200 * 2 ^ k := Int.mul_lt_mul_of_pos_right v1 (Nm.two_pos k)
  rw [← Nm.two_add] at h1
  have := Nm.two_mono (show 200 + k ≤ 200 + K by omega)
  omega
end Ie

/-- What plus answers. -/
def PlusTold (n1 : Bool) (V1 e1 : Int) (n2 : Bool) (V2 e2 : Int) (w : World) (e : Ending) (w' : World) : Prop :=
  ∃ neg p os V x, e = .returned (exactOf neg p (List.length os) (List.length os) x false) ∧ Ans w.heap.size w' p os V ∧ Below w.heap.size w w' ∧ Ie.SumIs n1 V1 e1 n2 V2 e2 neg V x

theorem Ans.tl {B : Nat} {w : World} {p : Option Addr} {ys : List Int} {n : Int} (h : Ans B w p ys n) {K : Nat} (hn : n < 2 ^ K) (hK : K ≤ 262144) : Nm.tsize ys ≤ 4096 ∧ ys.length ≤ 4096 ∧ n < Nm.pw 4096 := by
  have e := pw_4096
  have := Nm.two_mono hK
  have h1 : n < Nm.pw 4096 := by omega
  have h2 := (Nm.tsize_le_iff h.2.1 4096).2 (by rw [h.2.2.2.1]; exact h1)
  exact ⟨h2, by rw [← h.2.2.1]; exact h2, h1⟩
end Go.Proofs.YtdemopkdcnaibaaGreatDoor

/-
  soft: nan, infinite, zero, number.
-/
namespace Go.Proofs.YtdemopkdcnaibaaGreatDoor
open Go Go.RowKit Go.Deep

set_option maxRecDepth 100000 in
theorem nan_any (d : Int) (w : World) (h0 : 0 ≤ d) (h1 : d < 18446744073709551616) :
    Calls Tryz.prog 114 #[.int .u64 d] w fun e w' => e = .returned (.bool (Ie.isn d)) ∧ w' = w := by
  have CL := hid (class_any d w h0 h1)
  have E := hid (Ie.isn_cls d)
  generalize Ie.cls d = c at CL E
  go_enter Tryz.func114, Tryz.ntmps114
  go_wp2_with fail
  refine CL.out.mono ?_
  rintro e w' ⟨rfl, rfl⟩
  go_wp2_with fail
  go_ret
  exact ⟨by rw [E.out]; rfl, rfl⟩

set_option maxRecDepth 100000 in
theorem infinite_any (d : Int) (w : World) (h0 : 0 ≤ d) (h1 : d < 18446744073709551616) :
    Calls Tryz.prog 115 #[.int .u64 d] w fun e w' => e = .returned (.bool (Ie.isi d)) ∧ w' = w := by
  have CL := hid (class_any d w h0 h1)
  have E := hid (Ie.isi_cls d)
  generalize Ie.cls d = c at CL E
  go_enter Tryz.func115, Tryz.ntmps115
  go_wp2_with fail
  refine CL.out.mono ?_
  rintro e w' ⟨rfl, rfl⟩
  go_wp2_with fail
  go_ret
  exact ⟨by rw [E.out]; rfl, rfl⟩

/-- What number answers. -/
def NumTold (d : Int) (w : World) (e : Ending) (w' : World) : Prop :=
  ∃ p os, e = .returned (exactOf (Ie.ngd d) p (List.length os) (List.length os) (Ie.de d) false) ∧ Ans w.heap.size w' p os (Ie.dm d) ∧ Below w.heap.size w w'

set_option maxRecDepth 100000 in
set_option maxHeartbeats 2000000 in
theorem number_any (d : Int) (w : World) (h0 : 0 ≤ d) (h1 : d < 18446744073709551616) (hf : Ie.fin d) :
    Calls Tryz.prog 118 #[.int .u64 d] w fun e w' => NumTold d w e w' := by
  have D := hid (fun (wx : World) => decode_any d wx h0 h1)
  rw [← Ie.ngd] at D
  obtain ⟨⟨m0, m1⟩, -, -, -⟩ := Ie.dec_f d hf
  have FU := hid (fun (wx : World) => fromUint_any (Ie.dm d) wx m0 (by omega))
  have WT : Hid (∀ (w2 : World) (p : Option Addr) (os : List Int), Ans (w.heap.size + 1) w2 p os (Ie.dm d) → Row4 w2 w.heap.size 114 (.bool false) (.slice none 0 0) (.int .i64 0) (.bool false) → Below w.heap.size w w2 →
      NumTold d w (.returned (exactOf (Ie.ngd d) p (List.length os) (List.length os) (Ie.de d) false)) ((((w2.setCell ⟨w.heap.size, 0, none⟩ (.bool (Ie.ngd d))).setCell ⟨w.heap.size, 1, none⟩ (.slice p os.length os.length)).setCell ⟨w.heap.size, 2, none⟩ (.int .i64 (Ie.de d))).setCell ⟨w.heap.size, 3, none⟩ (.bool false))) := by
    intro w2 p os A R hB
    have A' := A.set4 (b := w.heap.size) (u0 := .bool (Ie.ngd d)) (u1 := .slice p os.length os.length) (u2 := .int .i64 (Ie.de d)) (u3 := .bool false) (by omega)
    exact ⟨p, os, rfl, ⟨A'.1, A'.2.1, A'.2.2.1, A'.2.2.2.1, fun a h => by have := A'.2.2.2.2 a h; omega⟩, set4_below hB (Nat.le_refl _)⟩
  simp only [partsOf] at D
  generalize Ie.ngd d = neg at *
  generalize Ie.dm d = m at *
  generalize Ie.de d = x at *
  generalize Ie.cls d = c at *
  clear hf
  go_enter Tryz.func118, Tryz.ntmps118
  go_wp2_with fail
  refine (D.out _).mono ?_
  rintro e w1 ⟨rfl, hB⟩
  have R0 := Row4.new w 114 (.bool false) (.slice none 0 0) (.int .i64 0) (.bool false)
  have sz : (w.alloc (Obj.cells #[Value.bool false, Value.slice none 0 0, Value.int IntKind.i64 0, Value.bool false] 114)).heap.size = w.heap.size + 1 := by simp
  have R1 := R0.below hB (by omega)
  have HB := (alloc_b w _).trans (hB.mono (alloc_b w _).size)
  have s1 : w.heap.size + 1 ≤ w1.heap.size := by have := hB.size; omega
  clear hB R0 sz D
  go_wp2_with fail
  have HB1 := hid (Below.alloc HB HB.size (.cells #[.bool neg, .int .i64 c, .int .u64 m, .int .i64 x] 26))
  have R2 := R1.below (Below.alloc (w := w1) (Below.refl w1.heap.size w1) (Nat.le_refl _) (.cells #[.bool neg, .int .i64 c, .int .u64 m, .int .i64 x] 26)) R1.lt
  have P := Row4.new w1 26 (.bool neg) (.int .i64 c) (.int .u64 m) (.int .i64 x)
  clear R1 HB
  generalize w1.alloc (.cells #[.bool neg, .int .i64 c, .int .u64 m, .int .i64 x] 26) = wA at *
  obtain ⟨⟨p0, p1, p2, p3⟩, -⟩ := P.cells
  have HS := hid s1
  have CA : Hid (∀ w2 : World, Below wA.drew.heap.size wA.drew w2 → (Below w.heap.size w w2 ∧ Row4 w2 w.heap.size 114 (.bool false) (.slice none 0 0) (.int .i64 0) (.bool false)) ∧ Row4 w2 w1.heap.size 26 (.bool neg) (.int .i64 c) (.int .u64 m) (.int .i64 x)) := by
    intro w2 hB2
    have d := drew_b HB1.out
    exact ⟨⟨d.trans (hB2.mono d.size), (R2.heap (w' := wA.drew) rfl).below hB2 R2.lt⟩, (P.heap (w' := wA.drew) rfl).below hB2 P.lt⟩
  have LE := hid (show w.heap.size + 1 ≤ wA.drew.heap.size from Nat.le_trans s1 (Nat.le_of_lt P.lt))
  clear R2 P s1
  go_region_with (go_at_call 111; refine (FU.out _).mono ?_; rintro e w2 ⟨p, os, rfl, A, hB2⟩; obtain ⟨⟨c1, c2⟩, c3⟩ := CA.out w2 hB2; have KK := hid (WT.out w2 p os ⟨A.1, A.2.1, A.2.2.1, A.2.2.2.1, fun a h => Nat.le_trans LE.out (A.2.2.2.2 a h)⟩ c2 c1); obtain ⟨⟨r0, r1, r2, r3⟩, ⟨f0, f1, f2, f3⟩⟩ := c2.cells; obtain ⟨⟨q0, q1, q2, q3⟩, -⟩ := c3.cells; have RR := hid c2; clear A hB2 c1 c2 c3)
  all_goals (go_wp2_with fail; (try simp only [Exit.inBlock, Exit.then]); refine bodyPost_ret (results_cell_row rfl _ _ w.heap.size 114 _ (0, 0) _ rfl (Row4.set RR.out) Tryz.underlying114 rfl (by kernel_rfl)) rfl ?_; exact KK.out)
end Go.Proofs.YtdemopkdcnaibaaGreatDoor
