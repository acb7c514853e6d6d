/-
  Texts put together: QDiv, QLimbs, FromW, TrimW, Walk6, QDivMod, QDivOk, NSpread, QRows, QGives, NSquares, NGroup, NWritten, NInBase.
-/
import Derived.Test.YtjkefcikepnbpaaGreatDoorRA
import Derived.WalkMore
import Derived.Deep.LoopGhost
import Derived.Test.YtjkefcikepnbpaaGreatDoorWalk1
import Derived.Test.YtjkefcikepnbpaaGreatDoorDiv1
import Derived.Deep.RegionWith
import Derived.Deep.CutRange
import Derived.Deep.DeepFit
import Derived.Test.YtjkefcikepnbpaaGreatDoorMem
import Derived.Laws.AppendOwn
import Derived.Laws.OwnMore
import Derived.Test.YtjkefcikepnbpaaGreatDoorNums
import Derived.Test.YtjkefcikepnbpaaGreatDoorMulOver
import Derived.OwnWalk
import Derived.Test.YtjkefcikepnbpaaGreatDoorNBTrim
namespace Go.Proofs.YtjkefcikepnbpaaGreatDoor
open Go.RowKit Go.Deep

theorem Lies.low {g : Nat} {w w' : World} {p : Option Addr} {zs : List Int} (h : Lies w p zs) (hb : Below g w w') (hp : ∀ a, p = some a → a.block < g) : Lies w' p zs := by
  rcases h with rfl | ⟨b, off, e, h⟩
  · exact .inl rfl
  · refine .inr ⟨b, off, e, fun i hi => ?_⟩
    rw [hb.cell (p := ⟨b, off + i, none⟩) (hp ⟨b, off, none⟩ e)]
    exact h i hi

theorem Own.other {w : World} {g g' : Nat} {zs : List Int} (h : Own w g zs) (hg : g' ≠ g) (i : Nat) (v : Value) : Own (w.setCell ⟨g', i, none⟩ v) g zs := by
  simp only [Own] at h ⊢
  simp only [World.setCell, Array.getElem?_modify]
  rw [if_neg hg]
  exact h

namespace Qd
open Go.Proofs.YtjkefcikepnbpaaGreatDoor.Nm

/-- The part that a digit is told from. -/
def part (rs : List Int) (t n1 : Nat) : List Int := (rs.drop t).take n1

theorem part_length {rs : List Int} {t n1 : Nat} (h : t + n1 ≤ rs.length) : (part rs t n1).length = n1 := by
  simp [part]; omega

theorem part_lies {w : World} {g : Nat} {rs : List Int} (h : Own w g rs) {t n1 : Nat} (hl : t + n1 ≤ rs.length) : Lies w (some ⟨g, t, none⟩) (part rs t n1) := by
  refine .inr ⟨g, t, rfl, fun i hi => ?_⟩
  rw [part_length hl] at hi
  rw [h.cell (t + i) (by omega)]
  have e : (part rs t n1).getD i 0 = rs.getD (t + i) 0 := by
    rw [part, getD_take, if_pos hi]
    simp [List.getD, List.getElem?_drop]
  rw [e]

theorem part_val {rs : List Int} (hr : Limbs rs) {t n1 : Nat} (hl : t + n1 ≤ rs.length) (hv : val rs < pw (t + n1)) : val rs = val (rs.take t) + pw t * val (part rs t n1) := by
  have h1 := val_drop rs t (by omega)
  have h2 : val (part rs t n1) = val (rs.drop t) := by
    refine val_take_of_zero _ _ (fun j hj => ?_)
    have := zero_of_lt hr hv (t + j) (by omega)
    simpa [List.getD, List.getElem?_drop] using this
  rw [h2]
  exact h1

theorem part_facts {rs : List Int} (hr : Limbs rs) {t m : Nat} (hl : t + (m + 1) ≤ rs.length) {b : Int} (hb : b < pw m) (hv : val rs < pw (t + 1) * b) :
    val (part rs t (m + 1)) < b * 18446744073709551616 ∧ val rs < pw (t + m + 1) ∧ ∀ x, 0 ≤ x → x * (pw t * b) ≤ val rs → x * b ≤ val (part rs t (m + 1)) := by
  have hp := pw_pos t
  have hq := pw_pos (t + 1)
  have h0 : val rs < pw (t + m + 1) := by
    have : pw (t + 1) * b ≤ pw (t + 1) * pw m := Int.mul_le_mul_of_nonneg_left (by omega) (by omega)
    rw [← pw_add, show t + 1 + m = t + m + 1 by omega] at this
    omega
  have h1 := part_val hr hl h0
  have h2 := val_bd _ (hr.take t)
  rw [List.length_take, Nat.min_eq_left (by omega)] at h2
  refine ⟨?_, h0, fun x x0 hx => ?_⟩
  · rcases (show val (part rs t (m + 1)) < b * 18446744073709551616 ∨ b * 18446744073709551616 ≤ val (part rs t (m + 1)) by omega) with c | c
    · exact c
    · exfalso
      have := Int.mul_le_mul_of_nonneg_left c (show 0 ≤ pw t by omega)
      rw [pw_succ] at hv
      have e : pw t * (b * 18446744073709551616) = 18446744073709551616 * pw t * b := by rw [Int.mul_left_comm, Int.mul_comm b, Int.mul_comm (pw t)]
      omega
  · rcases (show x * b ≤ val (part rs t (m + 1)) ∨ val (part rs t (m + 1)) + 1 ≤ x * b by omega) with c | c
    · exact c
    · exfalso
      have := Int.mul_le_mul_of_nonneg_left c (show 0 ≤ pw t by omega)
      rw [Int.mul_add, Int.mul_one] at this
      have e : x * (pw t * b) = pw t * (x * b) := Int.mul_left_comm _ _ _
      omega
end Qd

/-- Ahead of limb j - 1 of the quotient. -/
structure DivI (w : World) (g g2 R K : Nat) (A b : Int) (j : Nat) (os rs : List Int) (wr : World) : Prop where
  own : Own wr g rs
  len : rs.length = R
  lim : Nm.Limbs rs
  own2 : Own wr g2 os
  len2 : os.length = K
  lim2 : Nm.Limbs os
  zero : ∀ i, i < j → os.getD i 0 = 0
  eq : Nm.val os * b + Nm.val rs = A
  lt : Nm.val rs < Nm.pw j * b
  low : Below g w wr

/-- A digit d at limb t, which may be too great: what is owed is beyond limb 'top'. -/
structure Digit (w : World) (g g2 R t top : Nat) (os : List Int) (R0 b d owed : Int) (rs : List Int) (wr : World) : Prop where
  own : Own wr g rs
  len : rs.length = R
  lim : Nm.Limbs rs
  own2 : Own wr g2 (os.set t d)
  dbd : 0 ≤ d ∧ d < 18446744073709551616
  obd : 0 ≤ owed ∧ owed ≤ 1
  eq : Nm.val rs + Nm.pw t * (b * d) = R0 + Nm.pw top * owed
  high : ∀ i, top ≤ i → rs.getD i 0 = 0
  least : ∀ x, 0 ≤ x → x * (Nm.pw t * b) ≤ R0 → x ≤ d
  low : Below g w wr

theorem Digit.lt {w : World} {g g2 R t top : Nat} {os : List Int} {R0 b d owed : Int} {rs : List Int} {wr : World} (h : Digit w g g2 R t top os R0 b d owed rs wr) : Nm.val rs < Nm.pw top := by
  have h1 := Nm.val_take_of_zero rs top h.high
  have h2 := (Nm.val_bd _ (h.lim.take top)).2
  have h3 : (rs.take top).length ≤ top := by simp; omega
  have h4 := Nm.pw_mono h3
  omega

/-- The digit is too great. -/
theorem Digit.great {w : World} {g g2 R t top : Nat} {os : List Int} {R0 b d : Int} {rs : List Int} {wr : World} (h : Digit w g g2 R t top os R0 b d 1 rs wr) (hR : 0 ≤ R0) (hb : 0 ≤ b) : 1 ≤ d ∧ ∀ x, 0 ≤ x → x * (Nm.pw t * b) ≤ R0 → x ≤ d - 1 := by
  have h1 := h.lt
  have h2 := h.eq
  rw [Int.mul_one] at h2
  have hd := h.dbd
  have hp := Nm.pw_pos t
  have h3 : 1 ≤ d := by
    rcases (show d = 0 ∨ 1 ≤ d by omega) with c | c
    · rw [c, Int.mul_zero, Int.mul_zero] at h2; omega
    · exact c
  refine ⟨h3, fun x x0 hx => ?_⟩
  rcases (show x ≤ d - 1 ∨ d ≤ x by omega) with c | c
  · exact c
  · exfalso
    have e1 : d * (Nm.pw t * b) ≤ x * (Nm.pw t * b) := Int.mul_le_mul_of_nonneg_right c (Int.mul_nonneg (by omega) hb)
    have e2 : d * (Nm.pw t * b) = Nm.pw t * (b * d) := by rw [Int.mul_left_comm, Int.mul_comm d b]
    omega

/-- The digit is right: the next one. -/
theorem Digit.done {w : World} {g g2 R K t top : Nat} {os rs0 : List Int} {A b d : Int} {rs : List Int} {wr wr0 : World} (h : Digit w g g2 R t top os (Nm.val rs0) b d 0 rs wr) (I : DivI w g g2 R K A b (t + 1) os rs0 wr0) (ht : t < K) :
    DivI w g g2 R K A b t (os.set t d) rs wr := by
  have h2 := h.eq
  rw [Int.mul_zero, Int.add_zero] at h2
  refine ⟨h.own, h.len, h.lim, h.own2, by simpa using I.len2, I.lim2.set t h.dbd.1 h.dbd.2, fun i hi => ?_, ?_, ?_, h.low⟩
  · rw [Nm.getD_set _ _ _ _ (by have := I.len2; omega), if_neg (by omega)]
    exact I.zero i (by omega)
  · rw [Nm.val_set _ _ _ (by have := I.len2; omega), I.zero t (by omega), Int.sub_zero, Int.add_mul, Int.mul_assoc, Int.mul_comm d b]
    have := I.eq
    omega
  · rcases (show Nm.val rs < Nm.pw t * b ∨ Nm.pw t * b ≤ Nm.val rs by omega) with c | c
    · exact c
    · exfalso
      have := h.least (d + 1) (by have := h.dbd; omega) (by rw [Int.add_mul, Int.one_mul, Int.mul_left_comm, Int.mul_comm d b]; omega)
      omega

/-- Behind takeTimes. -/
theorem digit_first {w wr0 w2 w' : World} {g g2 R K t m : Nat} {os rs0 rs : List Int} {A b d c : Int} (I : DivI w g g2 R K A b (t + 1) os rs0 wr0) (hg : g2 ≠ g) (h2 : Own w2 g2 (os.set t d)) (hb2 : Below g w w2) (hd : 0 ≤ d ∧ d < 18446744073709551616) (hc : 0 ≤ c ∧ c ≤ 1)
    (hlt : Nm.val rs0 < Nm.pw (t + m + 1)) (hle : ∀ x, 0 ≤ x → x * (Nm.pw t * b) ≤ Nm.val rs0 → x ≤ d)
    (P : PartInv g R (t + m + 1) w2 rs0 (Nm.val rs0 + Nm.pw t * (-(b * d))) (t + m + 1) (-c) rs w') : Digit w g g2 R t (t + m + 1) os (Nm.val rs0) b d c rs w' := by
  have hP := P
  obtain ⟨⟨p1, p2, p3, p4, p5, p6⟩, p7, p8⟩ := P
  refine ⟨p1, p2, p3, hP.own h2 hg, hd, hc, ?_, fun i hi => ?_, hle, hb2.trans p5⟩
  · rw [Int.mul_neg, Int.mul_neg] at p4
    omega
  · rw [p7 i hi]
    exact Nm.zero_of_lt I.lim hlt i hi

/-- Behind giveBack. -/
theorem digit_next {w wr w2 w' : World} {g g2 R t top : Nat} {os rs rs' : List Int} {R0 b d c : Int} (D : Digit w g g2 R t top os R0 b d 1 rs wr) (hR : 0 ≤ R0) (hb : 0 ≤ b) (hg : g2 ≠ g) (h2 : Own w2 g2 (os.set t (d - 1))) (hb2 : Below g w w2) (hc : 0 ≤ c ∧ c ≤ 1)
    (P : PartInv g R top w2 rs (Nm.val rs + Nm.pw t * b) top c rs' w') : Digit w g g2 R t top os R0 b (d - 1) (1 - c) rs' w' := by
  have hP := P
  obtain ⟨⟨p1, p2, p3, p4, p5, p6⟩, p7, p8⟩ := P
  have hgr := D.great hR hb
  have hd := D.dbd
  have he := D.eq
  refine ⟨p1, p2, p3, hP.own h2 hg, by omega, by omega, ?_, fun i hi => by rw [p7 i hi]; exact D.high i hi, hgr.2, hb2.trans p5⟩
  rw [Int.mul_sub, Int.mul_one, Int.mul_sub, Int.mul_sub, Int.mul_one]
  rw [Int.mul_one] at he
  omega

set_option maxRecDepth 100000 in
set_option maxHeartbeats 2000000 in
theorem divide_any (g R K k m cap' : Nat) (rs0 : List Int) (q : Option Addr) (bs : List Int) (w : World) (ho : Own w g rs0) (hR : rs0.length = R) (hRm : R ≤ 35184372088832) (hl : Nm.Limbs rs0) (hm : m = k + 2) (hK : R = K + m) (lb : bs.length = m) (hc' : m ≤ cap') (hm' : cap' ≤ 140737488355328)
    (hy : Lies w q bs) (hlb : Nm.Limbs bs) (hq : ∀ a, q = some a → a.block < g) (htop : bs.getD (k + 1) 0 ≠ 0) (hlt : Nm.val rs0 < Nm.pw K * Nm.val bs) :
    Calls Tryz.prog 165 #[.slice (some ⟨g, 0, none⟩) R R, .slice q m cap'] w fun e w' => ∃ os rs, e = .returned (.slice (some ⟨w.heap.size, 0, none⟩) K K) ∧ Hid (DivI w g w.heap.size R K (Nm.val rs0) (Nm.val bs) 0 os rs w') := by
  have hgw := ho.lt
  have r1 : (R : Int) - (m : Int) = (K : Int) := by omega
  have hmk := make64 K (by omega) w
  have hb0 : Below g w (w.alloc (.cells (madeCells #[.int .u64 0] K) 22)) := (Below.refl _ _).alloc (by omega) _
  have hbw : Below w.heap.size w (w.alloc (.cells (madeCells #[.int .u64 0] K) 22)) := (Below.refl _ _).alloc (Nat.le_refl _) _
  have ho2 : Own (w.alloc (.cells (madeCells #[.int .u64 0] K) 22)) w.heap.size (List.replicate K 0) := by
    rw [made_zero]; exact Own.alloc w _
  obtain ⟨W0, hW0⟩ : ∃ W0, w.alloc (.cells (madeCells #[.int .u64 0] K) 22) = W0 := ⟨_, rfl⟩
  rw [hW0] at hmk hb0 hbw ho2
  clear hW0
  have I0 : DivI w g w.heap.size R K (Nm.val rs0) (Nm.val bs) K (List.replicate K 0) rs0 W0 :=
    ⟨ho.below hbw hgw, hR, hl, ho2, by simp, Nm.Limbs.replicate _, fun i _ => getD_replicate _ _, by rw [Nm.val_replicate, Int.zero_mul, Int.zero_add], hlt, hb0⟩
  have B0 := (Nm.val_bd bs hlb).1
  have B1 := (Nm.val_bd bs hlb).2
  rw [lb] at B1
  have HI0 := hid I0
  have HB0 := hid B0
  have HB1 := hid B1
  have HY := hid hy
  have HLB := hid hlb
  have HQ := hid hq
  have HT := hid htop
  have HM := hid hm
  have HKK := hid hK
  have HL := hid lb
  obtain ⟨g2, hg2⟩ : ∃ g2, w.heap.size = g2 := ⟨_, rfl⟩
  rw [hg2] at HI0 hmk hgw ⊢
  have hgg : g2 ≠ g := by omega
  clear I0 B0 B1 hy hlb hq htop hm hK lb ho hR hl hlt hb0 hbw ho2 hg2
  go_enter Tryz.func165, Tryz.ntmps165
  go_wp2_with fail
  go_step3
  go_wp2_with fail
  go_step3
  go_wp2_with fail
  go_loopg [6] K (fun j i wr => ∃ (os rs : List Int), j ≤ K ∧ i = .int .i64 ((j : Int) - 1) ∧ Hid (DivI w g g2 R K (Nm.val rs0) (Nm.val bs) j os rs wr))
  case atStart => exact ⟨_, _, Nat.le_refl _, rfl, HI0.out⟩
  case round =>
    clear HI0 hmk
    obtain ⟨os, rs, hj, rfl, I⟩ := hrel
    cases gk with
    | zero =>
      go_wp2
      try rw [Exit.noGoto_ret]
      go_ret
      exact ⟨os, rs, rfl, I.out⟩
    | succ t =>
      have LR : Hid (t + (m + 1) ≤ rs.length) := by show _ ≤ _; have := I.out.len; have := HKK.out; omega
      obtain ⟨f1, f2, f3⟩ := Qd.part_facts I.out.lim LR.out HB1.out I.out.lt
      have htK : (t : Int) < (K : Int) := by omega
      have htR : t + m + 1 ≤ R := by have := HKK.out; omega
      have GU := guess_any (some ⟨g, t, none⟩) q k m (m + 1) (R - t) cap' (Qd.part rs t (m + 1)) bs wr HM.out (by rw [HM.out]) HL.out (Qd.part_length LR.out) (by omega) hc' (by omega) hm' (Qd.part_lies I.out.own LR.out) (HY.out.low I.out.low HQ.out) ((I.out.lim.drop t).take _) HLB.out HT.out f1
      have F2 := hid f2
      have F3 := hid f3
      have HGU := hid GU
      clear f1 f2 f3 GU
      go_wp2_with fail
      rw [show t + m + 1 - t = m + 1 by omega]
      refine HGU.out.mono ?_
      rintro e w1 ⟨d, rfl, ⟨d0, d1⟩, DL, hb1⟩
      have o1 := I.out.own.below hb1 I.out.own.lt
      have o2 := I.out.own2.below hb1 I.out.own2.lt
      have HB2 := hid (I.out.low.trans (hb1.mono (Nat.le_of_lt I.out.own.lt)))
      obtain ⟨y, hyc⟩ : ∃ y, w1.cell? ⟨g2, t, none⟩ = some (.int .u64 y) := ⟨_, o2.cell t (by have := I.out.len2; omega)⟩
      have hfr := o2.free t
      have O1 := hid (o1.other hgg t (.int .u64 d))
      have O2 := hid (o2.set t d)
      have HB3 := hid (HB2.out.setCell (p := ⟨g2, t, none⟩) (by show g ≤ g2; omega) (.int .u64 d))
      have LEAST : Hid (∀ x, 0 ≤ x → x * (Nm.pw t * Nm.val bs) ≤ Nm.val rs → x ≤ d) := fun x x0 hx => DL.out x x0 (F3.out x x0 hx)
      have hcell : (w1.setCell ⟨g2, t, none⟩ (.int .u64 d)).cell? ⟨g2, t, none⟩ = some (.int .u64 d) := by
        rw [O2.out.cell t (by have := I.out.len2; simp; omega), Nm.getD_set _ _ _ _ (by have := I.out.len2; omega), if_pos rfl]
      clear hb1 o1 o2 HGU DL
      go_wp2_with fail
      refine (takeTimes_any g R t m (m + 1) _ rs q _ bs d _ I.out.len hRm O1.out I.out.lim HL.out (by have := HM.out; omega) (by omega) (by omega) (HY.out.low HB3.out HQ.out) HLB.out HQ.out d0 d1).mono ?_
      rintro e w2 ⟨c, rs1, rfl, ⟨c0, c1⟩, P⟩
      have DG := hid (digit_first I.out hgg O2.out HB3.out ⟨d0, d1⟩ ⟨c0, c1⟩ F2.out LEAST.out P.out)
      clear P hcell hyc hfr O1 O2 HB2 HB3 LEAST
      go_wp2_with fail
      go_loopg [8] d.toNat (fun x c wr => ∃ (d owed : Int) (rs1 : List Int), c = .int .u64 owed ∧ Hid (x = d.toNat) ∧ Hid (Digit w g g2 R t (t + m + 1) os (Nm.val rs) (Nm.val bs) d owed rs1 wr))
      case atStart => exact ⟨d, c, rs1, rfl, rfl, DG.out⟩
      case round =>
        clear DG c0 c1 d0 d1
        obtain ⟨d, owed, rs1, rfl, GK, D⟩ := hrel
        have ob := D.out.obd
        rcases (show owed = 0 ∨ owed = 1 by omega) with rfl | rfl
        · have DN := hid (D.out.done I.out (by omega))
          clear ob
          go_wp2
          go_roundg t
          case measure => omega
          case rel => exact ⟨_, _, by omega, by go_num, DN.out⟩
        · clear ob
          have hV := (Nm.val_bd rs I.out.lim).1
          obtain ⟨g1, _⟩ := D.out.great hV HB0.out
          have db := D.out.dbd.2
          have hlen : t < (os.set t d).length := by have := I.out.len2; simp; omega
          obtain ⟨y, hyc, Y⟩ : ∃ y, wr.cell? ⟨g2, t, none⟩ = some (.int .u64 y) ∧ Hid (y = d) := ⟨_, D.out.own2.cell t hlen, by show _ = _; rw [Nm.getD_set _ _ _ _ (by simpa using hlen), if_pos rfl]⟩
          have hyd := Y.out
          subst hyd
          have hfr := D.out.own2.free t
          have o2 := D.out.own2.set t (y - 1)
          rw [List.set_set] at o2
          have O1 := hid (D.out.own.other hgg t (.int .u64 (y - 1)))
          have O2 := hid o2
          have HB3 := hid (D.out.low.setCell (p := ⟨g2, t, none⟩) (by show g ≤ g2; omega) (.int .u64 (y - 1)))
          have HV := hid hV
          clear o2 hlen hV
          go_wp2_with fail
          refine (giveBack_any g R t m (m + 1) _ rs1 q _ bs _ D.out.len hRm O1.out D.out.lim HL.out (by have := HM.out; omega) (by omega) (by omega) (HY.out.low HB3.out HQ.out) HLB.out HQ.out).mono ?_
          rintro e w2 ⟨c, rs2, rfl, ⟨c0, c1⟩, P⟩
          have DN := hid (digit_next D.out HV.out HB0.out hgg O2.out HB3.out ⟨c0, c1⟩ P.out)
          clear P hyc hfr O1 O2 HB3
          go_wp2_with fail
          go_roundg (y - 1).toNat
          case measure => have := GK.out; omega
          case rel => exact ⟨y - 1, 1 - c, rs2, rfl, rfl, DN.out⟩
end Go.Proofs.YtjkefcikepnbpaaGreatDoor

namespace Go.Proofs.YtjkefcikepnbpaaGreatDoor
open Go.RowKit Go.Deep

theorem limbs_any (p : Option Addr) (n cap : Nat) (zs : List Int) (w : World) (ha : Arg w p n cap zs) :
    Calls Tryz.prog 117 #[.slice p n cap] w fun e w' => e = .returned (.int .i64 (Nm.tsize zs : Int)) ∧ w' = w := by
  obtain ⟨L, h1, _, h3, h4⟩ := blen_is zs ha.2.2.2.2
  have tl := Nm.tsize_le zs
  have hn := ha.1
  have hc := ha.2.2.1
  have hc' := ha.2.1
  have H := bitLen_any p n cap zs w ha
  rw [h1] at H
  have HB := hid H
  obtain ⟨N, HN⟩ : ∃ N, Hid (Nm.tsize zs = N) := ⟨_, rfl⟩
  rw [HN.out] at h3 h4 ⊢
  have hL : (L : Int) ≤ 1125899906842624000 := by have := HN.out; omega
  have hL0 : (0 : Int) ≤ (L : Int) := by omega
  have E : Hid (((L : Int) + 64 - 1) / 64 = (N : Int)) := by show _ = _; omega
  have E2 : Hid (((L : Int) + 64 - 1).tdiv 64 = (N : Int)) := by show _ = _; rw [Int.tdiv_eq_ediv_of_nonneg (by omega)]; exact E.out
  clear h1 h3 h4 H hn hc hc' tl ha
  go_enter Tryz.func117, Tryz.ntmps117
  go_wp2_with fail
  refine HB.out.mono ?_
  rintro e w' ⟨rfl, rfl⟩
  go_wp2_with fail
  go_ret
  exact ⟨ret_i64 (by first | exact E.out | exact E2.out), rfl⟩
end Go.Proofs.YtjkefcikepnbpaaGreatDoor

namespace Go.Proofs.YtjkefcikepnbpaaGreatDoor
open Go.RowKit Go.Deep

theorem ans_none (B : Nat) (w : World) (p : Option Addr) (h : ∀ a, p = some a → B ≤ a.block) : Ans B w p [] 0 :=
  ⟨Lies.nil _ _, Nm.Limbs.nil, rfl, rfl, h⟩

theorem limb_one {x : Int} (h : 0 ≤ x ∧ x < 18446744073709551616) : Nm.Limbs [x] := Nm.Limbs.mk h.1 h.2 Nm.Limbs.nil

theorem fromUint_any (x : Int) (w : World) (h0 : 0 ≤ x) (h1 : x < 18446744073709551616) :
    Calls Tryz.prog 56 #[.int .u64 x] w fun e w' => ∃ r os, e = .returned (.slice r (List.length os) (List.length os)) ∧ Ans w.heap.size w' r os x ∧ Below w.heap.size w w' := by
  by_cases hx : x = 0
  · subst hx
    go_enter Tryz.func56, Tryz.ntmps56
    go_wp2
    go_ret
    exact ⟨none, [], rfl, ans_none _ _ _ (fun a h => by cases h), Below.refl _ _⟩
  · have hx' : (x == 0) = false := by rw [beq_eq_false_iff_ne]; exact hx
    have D : Hid (Below w.heap.size w (w.alloc (.cells #[.int .u64 x] 22))) := (Below.refl _ _).alloc (Nat.le_refl _) _
    have A : Hid (Ans w.heap.size (w.alloc (.cells #[.int .u64 x] 22)) (some ⟨w.heap.size, 0, none⟩) [x] x) := ⟨(Own.alloc w [x]).lies, limb_one ⟨h0, h1⟩, by simp [Nm.tsize, hx], by simp [Nm.val], fun a h => by cases h; exact Nat.le_refl _⟩
    go_enter Tryz.func56, Tryz.ntmps56
    go_wp2
    go_ret
    exact ⟨some ⟨w.heap.size, 0, none⟩, [x], rfl, A.out, D.out⟩
end Go.Proofs.YtjkefcikepnbpaaGreatDoor

namespace Go.Proofs.YtjkefcikepnbpaaGreatDoor
open Go.RowKit Go.Deep

/-- Trim: the trimmed list, in new memory. -/
theorem trim_any (p : Option Addr) (n cap : Nat) (zs : List Int) (w : World) (ha : Arg w p n cap zs) :
    Calls Tryz.prog 118 #[.slice p n cap] w fun e w' => ∃ r os, e = .returned (.slice r (List.length os) (List.length os)) ∧ os = Nm.trim zs ∧ Ans w.heap.size w' r os (Nm.val zs) ∧ Below w.heap.size w w' := by
  obtain ⟨a1, a2, a3, a4, a5⟩ := ha
  have tl := Nm.tsize_le zs
  go_enter Tryz.func118, Tryz.ntmps118
  go_wp2_with fail
  refine (trimmed_any p n cap zs _ a1 a2 (by omega) a4).mono ?_
  rintro e w' ⟨rfl, rfl⟩
  go_wp2_with fail
  refine (widened_any p (Nm.tsize zs) (Nm.tsize zs) 0 0 (Nm.trim zs) _ rfl (Nm.trim_length zs) (by omega) a4.trim).mono ?_
  rintro e w1 ⟨rfl, ho, hb1, hz1⟩
  have HO := hid ho
  have HB := hid hb1
  clear ho hb1 hz1 tl
  go_wp2
  go_ret
  refine ⟨some ⟨w'.heap.size, 0, none⟩, Nm.trim zs, ?_, rfl, ⟨?_, a5.trim, ?_, Nm.val_trim zs, ?_⟩, HB.out⟩
  · rw [Nm.trim_length]; rfl
  · have := HO.out
    simp only [List.replicate_zero, List.append_nil] at this
    exact this.lies
  · rw [Nm.trim_trim, Nm.trim_length]
  · intro a h
    cases h
    exact Nat.le_refl _
end Go.Proofs.YtjkefcikepnbpaaGreatDoor

namespace Go.Proofs.YtjkefcikepnbpaaGreatDoor
open Go.RowKit Go.Deep

theorem ret_div {p : Option Addr} {a b : Nat} {r : Int} (h : a = b) : Ending.returned (.tuple #[.slice p a a, .int .u64 r, .int .i64 0]) = .returned (.tuple #[.slice p b b, .int .u64 r, .int .i64 0]) := by rw [h]

/-- Behind the limbs from k on: quotient digits are in, below k the block is 0. -/
def DivInv (g n : Nat) (w : World) (xs : List Int) (d : Int) (k : Nat) (r : Int) (os : List Int) (wr : World) : Prop :=
  Own wr g os ∧ os.length = n ∧ Nm.Limbs os ∧ Nm.val os * d + Nm.pw k * r + Nm.val (xs.take k) = Nm.val xs ∧ (∀ i, i < k → os.getD i 0 = 0) ∧ (0 ≤ r ∧ r < d) ∧ Below g w wr

theorem DivInv.step {g n : Nat} {w : World} {xs : List Int} {d : Int} {t : Nat} {r : Int} {os : List Int} {wr w' : World} (h : DivInv g n w xs d (t + 1) r os wr) (hx : t < xs.length) (ht : t < n) (hb : Below wr.heap.size wr w') {q r' x : Int}
    (hxe : x = xs.getD t 0) (hq : q * d + r' = r * 18446744073709551616 + x) (hq0 : 0 ≤ q ∧ q < 18446744073709551616) (hr : 0 ≤ r' ∧ r' < d) :
    DivInv g n w xs d t r' (os.set t q) (w'.setCell ⟨g, t, none⟩ (.int .u64 q)) := by
  obtain ⟨h1, h2, h3, h4, h5, h6, h7⟩ := h
  have hlt := h1.lt
  refine ⟨(h1.below hb hlt).set t q, by simpa using h2, h3.set t hq0.1 hq0.2, ?_, ?_, hr, ?_⟩
  · rw [Nm.val_set _ _ _ (by omega), h5 t (by omega), Int.sub_zero, Int.add_mul, Int.mul_assoc]
    rw [Nm.val_take_succ xs t hx, ← hxe, Nm.pw_succ] at h4
    have e : Nm.pw t * (q * d + r') = Nm.pw t * (r * 18446744073709551616 + x) := by rw [hq]
    rw [Int.mul_add, Int.mul_add] at e
    have e2 : 18446744073709551616 * Nm.pw t * r = Nm.pw t * (r * 18446744073709551616) := by rw [Int.mul_assoc, Int.mul_left_comm, Int.mul_comm 18446744073709551616 r]
    omega
  · intro i hi
    rw [Nm.getD_set _ _ _ _ (by omega), if_neg (by omega)]
    exact h5 i (by omega)
  · exact h7.trans ((hb.mono (Nat.le_of_lt hlt)).setCell (p := ⟨g, t, none⟩) (Nat.le_refl _) _)

set_option maxRecDepth 100000 in
set_option maxHeartbeats 1000000 in
theorem divSmall_ok (p : Option Addr) (n cap : Nat) (zs : List Int) (d : Int) (w : World) (ha : Arg w p n cap zs) (tz : Nm.tsize zs ≤ 4096) (hd0 : 0 < d) (hd1 : d < 18446744073709551616) :
    Calls Tryz.prog 164 #[.slice p n cap, .int .u64 d] w fun e w' =>
      ∃ r os rest, e = .returned (.tuple #[.slice r (List.length os) (List.length os), .int .u64 rest, .int .i64 0]) ∧ Ans w.heap.size w' r os (Nm.val os) ∧ (0 ≤ rest ∧ rest < d) ∧ Hid (Nm.val os * d + rest = Nm.val zs) ∧ Below w.heap.size w w' := by
  obtain ⟨a1, a2, a3, a4, a5⟩ := ha
  obtain ⟨N, HN⟩ : ∃ N, Hid (Nm.tsize zs = N) := ⟨_, rfl⟩
  have T1 := limited_ok p n cap zs w a1 a2 (by omega) a4 tz
  rw [HN.out] at T1
  have hN : N ≤ 4096 := by rw [← HN.out]; exact tz
  have L1 := hid ((Nm.trim_length zs).trans HN.out)
  have hmk := make64 N (by omega) w
  have ho : Own (w.alloc (.cells (madeCells #[.int .u64 0] N) 22)) w.heap.size (List.replicate N 0) := by
    rw [made_zero]; exact Own.alloc w _
  have hb0 : Below w.heap.size w (w.alloc (.cells (madeCells #[.int .u64 0] N) 22)) := (Below.refl _ _).alloc (Nat.le_refl _) _
  obtain ⟨W0, hW0⟩ : ∃ W0, w.alloc (.cells (madeCells #[.int .u64 0] N) 22) = W0 := ⟨_, rfl⟩
  have HB0 : Hid (Below w.heap.size w W0) := by rw [← hW0]; exact hb0
  have I0 : DivInv w.heap.size N w (Nm.trim zs) d N 0 (List.replicate N 0) W0 := by
    rw [← hW0]
    exact ⟨ho, by simp, Nm.Limbs.replicate _, by rw [Nm.val_replicate, Int.zero_mul, Int.mul_zero, List.take_of_length_le (by rw [L1.out]; omega)]; omega, fun i _ => getD_replicate _ _, ⟨by omega, hd0⟩, hb0⟩
  have hd : (d == 0) = false := by rw [beq_eq_false_iff_ne]; omega
  have A5 := hid a5.trim
  have A4 := hid a4.trim
  have V := hid (Nm.val_trim zs)
  have HT := hid T1
  clear T1 tz ho hb0 a4 a5
  rw [hW0] at hmk
  clear hW0
  have fin : ∀ (os : List Int) (r : Int) (wr : World), DivInv w.heap.size N w (Nm.trim zs) d 0 r os wr →
      Ans w.heap.size wr (some ⟨w.heap.size, 0, none⟩) (Nm.trim os) (Nm.val (Nm.trim os)) ∧ (0 ≤ r ∧ r < d) ∧ Hid (Nm.val (Nm.trim os) * d + r = Nm.val zs) ∧ Below w.heap.size w wr ∧ (Nm.trim os).length = Nm.tsize os := by
    intro os r wr I
    obtain ⟨i1, i2, i3, i4, i5, i6, i7⟩ := I
    refine ⟨⟨i1.lies.trim, i3.trim, by rw [Nm.trim_trim, Nm.trim_length], rfl, fun a h => by cases h; exact Nat.le_refl _⟩, i6, ?_, i7, Nm.trim_length os⟩
    show _ = _
    rw [Nm.val_trim, ← V.out, ← i4]
    simp [Nm.pw, Nm.val]
  have FIN := hid fin
  clear fin
  by_cases h0 : N = 0
  · subst h0
    have hmk1 : (Instr.makeSlice 96 (.int .i64 0) (.int .i64 0)).run Tryz.prog w = .ok (.slice (some ⟨w.heap.size, 0, none⟩) 0 0) W0 := hmk
    clear hmk
    go_enter Tryz.func164, Tryz.ntmps164
    go_wp2_with fail
    refine HT.out.mono ?_
    rintro e w' ⟨rfl, rfl⟩
    go_wp2_with fail
    refine wp_loop_rounds 1 ?_
    rw [rounds_succ]
    go_wp2_with fail
    refine (trimmed_any (some ⟨w'.heap.size, 0, none⟩) 0 0 (List.replicate 0 0) _ rfl (Nat.le_refl _) (by omega) (Lies.nil _ _)).mono ?_
    rintro e w3 ⟨rfl, rfl⟩
    have F := FIN.out _ _ _ I0
    have HF := hid F
    clear F I0
    go_wp2_with fail
    go_ret3
    exact ⟨_, _, _, rfl, HF.out.1, HF.out.2.1, HF.out.2.2.1, HF.out.2.2.2.1⟩
  · obtain ⟨b, off, rfl, hbw, HC⟩ := A4.out.at (by rw [L1.out]; omega)
    go_enter Tryz.func164, Tryz.ntmps164
    go_wp2_with fail
    refine HT.out.mono ?_
    rintro e w' ⟨rfl, rfl⟩
    go_wp2_with fail
    go_loopw [9, 10] (fun a i wr => ∃ (j : Nat) (rr : Int) (os : List Int), j ≤ N ∧ i = .int .i64 ((j : Int) - 1) ∧ a = .int .u64 rr ∧ DivInv w'.heap.size N w' (Nm.trim zs) d j rr os wr) (fun _ i _ => (intOf i + 1).toNat)
    case atStart => exact ⟨N, 0, _, Nat.le_refl _, rfl, rfl, I0⟩
    case round =>
      clear I0 hmk
      obtain ⟨j, rr, os, hj, rfl, rfl, I⟩ := hrel
      by_cases hj0 : j = 0
      · subst hj0
        have F := FIN.out _ _ _ I
        have HF := hid F
        have TR := hid (trimmed_any (some ⟨w'.heap.size, 0, none⟩) N N os wr I.2.1 (Nat.le_refl _) (by omega) I.1.lies)
        clear F I
        go_wp2_with fail
        refine TR.out.mono ?_
        rintro e w3 ⟨rfl, rfl⟩
        go_wp2_with fail
        go_ret3
        exact ⟨some ⟨w'.heap.size, 0, none⟩, Nm.trim os, rr, ret_div HF.out.2.2.2.2.symm, HF.out.1, HF.out.2.1, HF.out.2.2.1, HF.out.2.2.2.1⟩
      · obtain ⟨t, rfl⟩ : ∃ t, j = t + 1 := ⟨j - 1, by omega⟩
        obtain ⟨x, hx, X⟩ : ∃ x, wr.cell? ⟨b, off + t, none⟩ = some (.int .u64 x) ∧ Hid (x = (Nm.trim zs).getD t 0) := ⟨_, (I.2.2.2.2.2.2.cell (p := ⟨b, off + t, none⟩) hbw).trans (HC.out t (by rw [L1.out]; omega)), rfl⟩
        have hx0 := A5.out.at t
        rw [← X.out] at hx0
        obtain ⟨hx0, hx1⟩ := hx0
        obtain ⟨hr0, hr1⟩ := I.2.2.2.2.2.1
        have htN : (t : Int) < (N : Int) := by omega
        go_wp2_with fail
        refine (div64 rr x d _ hr0 hr1 hx0 hx1 hd1).mono ?_
        rintro e w2 ⟨q, r', rfl, ⟨q0, q1, s0, s1⟩, E, hb⟩
        have I2 := I.step (by rw [L1.out]; omega) (by omega) hb X.out E.out ⟨q0, q1⟩ ⟨s0, s1⟩
        have ho2 := I.1.below hb I.1.lt
        obtain ⟨y, hyc⟩ : ∃ y, w2.cell? ⟨w'.heap.size, t, none⟩ = some (.int .u64 y) := ⟨_, ho2.cell t (by have := I.2.1; omega)⟩
        have hfr := ho2.free t
        clear I hx hb ho2
        go_wp2
        go_roundw
        case rel => exact ⟨t, r', _, by omega, by go_num, rfl, I2⟩
        case measure => simp [intOf]

/-- By nothing. -/
theorem divSmall_zero (p : Option Addr) (n cap : Nat) (zs : List Int) (w : World) (ha : Arg w p n cap zs) (tz : Nm.tsize zs ≤ 4096) :
    Calls Tryz.prog 164 #[.slice p n cap, .int .u64 0] w fun e w' => e = .returned (.tuple #[.slice none 0 0, .int .u64 0, .int .i64 4]) ∧ w' = w := by
  obtain ⟨a1, a2, a3, a4, a5⟩ := ha
  have HT := hid (limited_ok p n cap zs w a1 a2 (by omega) a4 tz)
  go_enter Tryz.func164, Tryz.ntmps164
  go_wp2_with fail
  refine HT.out.mono ?_
  rintro e w' ⟨rfl, rfl⟩
  go_wp2_with fail
  go_ret3
  exact ⟨rfl, rfl⟩

/-- Of an operand that is too big. -/
theorem divSmall_big (p : Option Addr) (n cap : Nat) (zs : List Int) (d : Int) (w : World) (ha : Arg w p n cap zs) (tz : 4096 < Nm.tsize zs) :
    Calls Tryz.prog 164 #[.slice p n cap, .int .u64 d] w fun e w' => e = .returned (.tuple #[.slice none 0 0, .int .u64 0, .int .i64 2]) ∧ w' = w := by
  obtain ⟨a1, a2, a3, a4, a5⟩ := ha
  have HT := hid (limited_big p n cap zs w a1 a2 (by omega) a4 tz)
  go_enter Tryz.func164, Tryz.ntmps164
  go_wp2_with fail
  refine HT.out.mono ?_
  rintro e w' ⟨rfl, rfl⟩
  go_wp2_with fail
  go_ret3
  exact ⟨rfl, rfl⟩
end Go.Proofs.YtjkefcikepnbpaaGreatDoor

namespace Go.Proofs.YtjkefcikepnbpaaGreatDoor
open Go.RowKit Go.Deep

theorem Arg.drew {w : World} {p : Option Addr} {n cap : Nat} {zs : List Int} (h : Arg w p n cap zs) (k : Nat) : Arg (w.drewN k) p n cap zs := h

theorem Arg.cut {w : World} {p : Option Addr} {n cap : Nat} {zs : List Int} (h : Arg w p n cap zs) : Arg w p (Nm.tsize zs) cap (Nm.trim zs) :=
  ⟨Nm.trim_length zs, by have := h.tl; have := h.2.1; omega, h.2.2.1, h.2.2.2.1.trim, h.2.2.2.2.trim⟩

/-- Quotient and rest, each trimmed and in new memory. -/
def Splits (A B : Int) (w : World) (e : Ending) (w' : World) : Prop :=
  ∃ r1 os r2 rs, e = .returned (.tuple #[.slice r1 (List.length os) (List.length os), .slice r2 (List.length rs) (List.length rs), .int .i64 0]) ∧ Ans w.heap.size w' r1 os (A / B) ∧ Ans w.heap.size w' r2 rs (A % B) ∧ Below w.heap.size w w'

theorem div_is {A B q r : Int} (h0 : 0 ≤ r) (h1 : r < B) (h : q * B + r = A) : A / B = q ∧ A % B = r := by
  have hB : 0 < B := by omega
  have h2 : A / B = q := by
    rw [← h, Int.add_comm, Int.add_mul_ediv_right _ _ (by omega), Int.ediv_eq_zero_of_lt h0 h1, Int.zero_add]
  refine ⟨h2, ?_⟩
  have := Int.emod_add_mul_ediv A B
  rw [h2, Int.mul_comm] at this
  omega

theorem ret_three {p q : Option Addr} {a b c d : Nat} {e : Int} (h : a = b) (k : c = d) : Ending.returned (.tuple #[.slice p a a, .slice q c c, .int .i64 e]) = .returned (.tuple #[.slice p b b, .slice q d d, .int .i64 e]) := by rw [h, k]

theorem divMod_big (p q : Option Addr) (n cap m cap' : Nat) (zs ys : List Int) (w : World) (ha : Arg w p n cap zs) (hb : Arg w q m cap' ys) (h : 4096 < Nm.tsize zs ∨ 4096 < Nm.tsize ys) :
    Calls Tryz.prog 151 #[.slice p n cap, .slice q m cap'] w fun e w' => e = .returned (.tuple #[.slice none 0 0, .slice none 0 0, .int .i64 2]) ∧ w' = w := by
  have L1 := hid (limbs_any p n cap zs w ha)
  have L2 := hid (limbs_any q m cap' ys w hb)
  by_cases h1 : 4096 < Nm.tsize zs
  · have h1' : (4096 : Int) < (Nm.tsize zs : Int) := by omega
    go_enter Tryz.func151, Tryz.ntmps151
    go_wp2_with fail
    refine L1.out.mono ?_
    rintro e w' ⟨rfl, rfl⟩
    go_wp2_with fail
    go_ret3
    exact ⟨rfl, rfl⟩
  · have h1' : (Nm.tsize zs : Int) ≤ 4096 := by omega
    have h2' : (4096 : Int) < (Nm.tsize ys : Int) := by omega
    go_enter Tryz.func151, Tryz.ntmps151
    go_wp2_with fail
    refine L1.out.mono ?_
    rintro e w' ⟨rfl, rfl⟩
    go_wp2_with fail
    refine L2.out.mono ?_
    rintro e w' ⟨rfl, rfl⟩
    go_wp2_with fail
    go_ret3
    exact ⟨rfl, rfl⟩

theorem limbs_is (p : Option Addr) (n cap : Nat) (zs : List Int) (N : Nat) (w : World) (ha : Arg w p n cap zs) (hN : Nm.tsize zs = N) :
    Calls Tryz.prog 117 #[.slice p n cap] w fun e w' => e = .returned (.int .i64 (N : Int)) ∧ w' = w := by
  rw [← hN]
  exact limbs_any p n cap zs w ha

set_option maxRecDepth 100000 in
set_option maxHeartbeats 1000000 in
theorem divMod_zero (p q : Option Addr) (n cap m cap' : Nat) (zs ys : List Int) (w : World) (ha : Arg w p n cap zs) (hb : Arg w q m cap' ys) (tz : Nm.tsize zs ≤ 4096) (ty : Nm.tsize ys = 0) :
    Calls Tryz.prog 151 #[.slice p n cap, .slice q m cap'] w fun e w' => e = .returned (.tuple #[.slice none 0 0, .slice none 0 0, .int .i64 4]) ∧ Below w.heap.size w w' := by
  obtain ⟨N, HN⟩ : ∃ N, Hid (Nm.tsize zs = N) := ⟨_, rfl⟩
  obtain ⟨M, HM⟩ : ∃ M, Hid (Nm.tsize ys = M) := ⟨_, rfl⟩
  have h1' : (N : Int) ≤ 4096 := by have := HN.out; omega
  have h2' : (M : Int) ≤ 4096 := by have := HM.out; omega
  have h3' : ((M : Int) == 0) = true := by have := HM.out; simp; omega
  have h2 : (N : Int) ≤ (cap : Int) := by have := ha.tl; have := ha.2.1; have := HN.out; omega
  have h4 : (M : Int) ≤ (cap' : Int) := by have := hb.tl; have := hb.2.1; have := HM.out; omega
  have HA := hid ha
  have HB := hid hb
  clear ha hb ty tz
  go_enter Tryz.func151, Tryz.ntmps151
  go_wp2_with fail
  refine (limbs_is p n cap zs N _ HA.out HN.out).mono ?_
  rintro e w' ⟨rfl, rfl⟩
  go_wp2_with fail
  refine (limbs_is q m cap' ys M _ HB.out HM.out).mono ?_
  rintro e w' ⟨rfl, rfl⟩
  go_wp2_with fail
  go_quiet ((go_at_call 117; first | exact Calls.quiet_of_same (limbs_is p n cap zs N _ (HA.out.drew _) HN.out) | exact Calls.quiet_of_same (limbs_is q m cap' ys M _ (HB.out.drew _) HM.out)))
  go_wp2_with fail
  go_ret3
  exact ⟨rfl, below_drewN (Below.refl _ _) _⟩
end Go.Proofs.YtjkefcikepnbpaaGreatDoor

namespace Go.Proofs.YtjkefcikepnbpaaGreatDoor
open Go.RowKit Go.Deep

theorem Ans.up {B B' : Nat} {w : World} {p : Option Addr} {ys : List Int} {n : Int} (h : Ans B w p ys n) (hB : B' ≤ B) : Ans B' w p ys n :=
  ⟨h.1, h.2.1, h.2.2.1, h.2.2.2.1, fun a ha => Nat.le_trans hB (h.2.2.2.2 a ha)⟩

set_option maxRecDepth 100000 in
set_option maxHeartbeats 1000000 in
theorem divMod_one (p q : Option Addr) (n cap m cap' : Nat) (zs ys : List Int) (w : World) (ha : Arg w p n cap zs) (hb : Arg w q m cap' ys) (tz : Nm.tsize zs ≤ 4096) (ty : Nm.tsize ys = 1) :
    Calls Tryz.prog 151 #[.slice p n cap, .slice q m cap'] w fun e w' => Splits (Nm.val zs) (Nm.val ys) w e w' := by
  obtain ⟨b', off', rfl, hbw', HC'⟩ := hb.2.2.2.1.trim.at (by rw [Nm.trim_length]; omega)
  obtain ⟨d, hd, D⟩ : ∃ d, w.cell? ⟨b', off', none⟩ = some (.int .u64 d) ∧ Hid (d = (Nm.trim ys).getD 0 0) := ⟨_, HC'.out 0 (by rw [Nm.trim_length]; omega), rfl⟩
  have hdb := hb.2.2.2.2.trim.at 0
  rw [← D.out] at hdb
  have hdv : Nm.val ys = d := by
    have h1 := Nm.val_trim ys
    have h2 := Nm.trim_length ys
    rw [ty] at h2
    obtain ⟨y, hy⟩ := List.length_eq_one_iff.1 h2
    have h3 := D.out
    rw [hy] at h1 h3
    simp [Nm.val] at h1 h3
    omega
  have hd0 : 0 < d := by
    have := Nm.val_ge_top hb.2.2.2.2 (by omega)
    rw [ty] at this
    simp [Nm.pw] at this
    omega
  obtain ⟨_, hd1⟩ := hdb
  obtain ⟨N, HN⟩ : ∃ N, Hid (Nm.tsize zs = N) := ⟨_, rfl⟩
  obtain ⟨M, HM⟩ : ∃ M, Hid (Nm.tsize ys = M) := ⟨_, rfl⟩
  have h1' : (N : Int) ≤ 4096 := by have := HN.out; omega
  have h2' : (M : Int) ≤ 4096 := by have := HM.out; omega
  have h3' : ((M : Int) == 0) = false := by have := HM.out; simp; omega
  have h5' : ((M : Int) == 1) = true := by have := HM.out; simp; omega
  have h6' : (0 : Int) < (M : Int) := by have := HM.out; omega
  have h2 : (N : Int) ≤ (cap : Int) := by have := ha.tl; have := ha.2.1; have := HN.out; omega
  have h4 : (M : Int) ≤ (cap' : Int) := by have := hb.tl; have := hb.2.1; have := HM.out; omega
  have CU := ha.cut
  rw [HN.out] at CU
  have HCU := hid CU
  have HT : Hid (Nm.tsize (Nm.trim zs) ≤ 4096) := by show _ ≤ _; rw [Nm.trim_trim]; exact tz
  have HA := hid ha
  have HB := hid hb
  have HV := hid hdv
  clear ha hb ty tz CU hbw' HC' D hdv
  go_enter Tryz.func151, Tryz.ntmps151
  go_wp2_with fail
  refine (limbs_is p n cap zs N _ HA.out HN.out).mono ?_
  rintro e w' ⟨rfl, rfl⟩
  go_wp2_with fail
  refine (limbs_is _ m cap' ys M _ HB.out HM.out).mono ?_
  rintro e w' ⟨rfl, rfl⟩
  go_wp2_with fail
  go_quiet ((go_at_call 117; first | exact Calls.quiet_of_same (limbs_is p n cap zs N _ (HA.out.drew _) HN.out) | exact Calls.quiet_of_same (limbs_is _ m cap' ys M _ (HB.out.drew _) HM.out)))
  have hd2 : (w'.drewN nq).cell? ⟨b', off', none⟩ = some (.int .u64 d) := hd
  have HCU2 := hid (HCU.out.drew nq)
  have HB0 : Hid (Below w'.heap.size w' (w'.drewN nq)) := below_drewN (Below.refl _ _) nq
  clear hd HCU
  generalize w'.drewN nq = wq at *
  go_wp2_with fail
  refine (divSmall_ok p N cap (Nm.trim zs) d _ HCU2.out HT.out hd0 hd1).mono ?_
  rintro e w2 ⟨r, os, rest, rfl, A1, ⟨s0, s1⟩, E, hb2⟩
  have HA1 := hid A1
  have HB2 := hid hb2
  have HE := hid (div_is s0 s1 E.out)
  have s2 : rest < 18446744073709551616 := by omega
  clear A1 hb2 E hd2
  go_wp2_with fail
  refine (fromUint_any rest _ s0 s2).mono ?_
  rintro e w3 ⟨r2, os2, rfl, A2, hb3⟩
  have F : Hid (Splits (Nm.val zs) (Nm.val ys) w' (.returned (.tuple #[.slice r (List.length os) (List.length os), .slice r2 (List.length os2) (List.length os2), .int .i64 0])) w3) := by
    have e1 := HE.out
    rw [Nm.val_trim, ← HV.out] at e1
    have z1 := HB0.out.size
    have z2 := HB2.out.size
    refine ⟨r, os, r2, os2, rfl, ?_, ?_, (chain (chain HB0.out HB2.out (Nat.le_refl _)) hb3 (Nat.le_refl _))⟩
    · rw [e1.1]; exact (HA1.out.below hb3 (Nat.le_refl _)).up z1
    · rw [e1.2]; exact A2.up (Nat.le_trans z1 z2)
  clear A2 hb3
  go_wp2_with fail
  go_ret3
  exact F.out

set_option maxRecDepth 100000 in
set_option maxHeartbeats 1000000 in
theorem divMod_less (p q : Option Addr) (n cap m cap' : Nat) (zs ys : List Int) (w : World) (ha : Arg w p n cap zs) (hb : Arg w q m cap' ys) (tz : Nm.tsize zs ≤ 4096) (ty : Nm.tsize ys ≤ 4096) (ty2 : 2 ≤ Nm.tsize ys) (hlt : Nm.val zs < Nm.val ys) :
    Calls Tryz.prog 151 #[.slice p n cap, .slice q m cap'] w fun e w' => Splits (Nm.val zs) (Nm.val ys) w e w' := by
  obtain ⟨N, HN⟩ : ∃ N, Hid (Nm.tsize zs = N) := ⟨_, rfl⟩
  obtain ⟨M, HM⟩ : ∃ M, Hid (Nm.tsize ys = M) := ⟨_, rfl⟩
  have h1' : (N : Int) ≤ 4096 := by have := HN.out; omega
  have h2' : (M : Int) ≤ 4096 := by have := HM.out; omega
  have h3' : ((M : Int) == 0) = false := by have := HM.out; simp; omega
  have h5' : ((M : Int) == 1) = false := by have := HM.out; rw [beq_eq_false_iff_ne]; omega
  have h2 : (N : Int) ≤ (cap : Int) := by have := ha.tl; have := ha.2.1; have := HN.out; omega
  have h4 : (M : Int) ≤ (cap' : Int) := by have := hb.tl; have := hb.2.1; have := HM.out; omega
  have CU := ha.cut
  rw [HN.out] at CU
  have CU' := hb.cut
  rw [HM.out] at CU'
  have HCU := hid CU
  have HCU' := hid CU'
  have HC : Hid (cmpI (Nm.val (Nm.trim zs)) (Nm.val (Nm.trim ys)) = -1) := by show _ = _; rw [Nm.val_trim, Nm.val_trim]; exact cmpI_lt hlt
  have HD : Hid (Nm.val zs / Nm.val ys = 0 ∧ Nm.val zs % Nm.val ys = Nm.val (Nm.trim zs)) := by
    have := (Nm.val_bd zs ha.2.2.2.2).1
    rw [Nm.val_trim]
    exact div_is this hlt (by omega)
  have HA := hid ha
  have HB := hid hb
  clear ha hb ty tz CU CU' ty2 hlt
  go_enter Tryz.func151, Tryz.ntmps151
  go_wp2_with fail
  refine (limbs_is p n cap zs N _ HA.out HN.out).mono ?_
  rintro e w' ⟨rfl, rfl⟩
  go_wp2_with fail
  refine (limbs_is _ m cap' ys M _ HB.out HM.out).mono ?_
  rintro e w' ⟨rfl, rfl⟩
  go_wp2_with fail
  go_quiet ((go_at_call 117; first | exact Calls.quiet_of_same (limbs_is p n cap zs N _ (HA.out.drew _) HN.out) | exact Calls.quiet_of_same (limbs_is _ m cap' ys M _ (HB.out.drew _) HM.out)))
  have HCU2 := hid (HCU.out.drew nq)
  have HCU2' := hid (HCU'.out.drew nq)
  have HB0 : Hid (Below w'.heap.size w' (w'.drewN nq)) := below_drewN (Below.refl _ _) nq
  clear HCU HCU'
  generalize w'.drewN nq = wq at *
  go_wp2_with fail
  refine (cmp_is (-1) p q N cap M cap' (Nm.trim zs) (Nm.trim ys) _ HCU2.out HCU2'.out HC.out).mono ?_
  rintro e w2 ⟨rfl, hb2⟩
  have HB2 := hid (chain HB0.out hb2 (Nat.le_refl _))
  have HCU3 := hid (HCU2.out.below hb2 (Nat.le_refl _))
  clear hb2
  go_wp2_with fail
  refine (trim_any p N cap (Nm.trim zs) _ HCU3.out).mono ?_
  rintro e w3 ⟨r, os, rfl, -, A1, hb3⟩
  have F : Hid (Splits (Nm.val zs) (Nm.val ys) w' (.returned (.tuple #[.slice none 0 0, .slice r (List.length os) (List.length os), .int .i64 0])) w3) := by
    have z1 := HB2.out.size
    refine ⟨none, [], r, os, rfl, ?_, ?_, chain HB2.out hb3 (Nat.le_refl _)⟩
    · rw [HD.out.1]; exact ans_none _ _ _ (fun a h => by cases h)
    · rw [HD.out.2]; exact A1.up z1
  clear A1 hb3
  go_wp2_with fail
  go_ret3
  exact F.out

/-- The quotient of a by b has so many limbs. -/
theorem first_room {zs ys : List Int} (hz : Nm.Limbs zs) (hy : Nm.Limbs ys) {N M K : Nat} (hN : Nm.tsize zs = N) (hM : Nm.tsize ys = M) (hM0 : 0 < M) (hK : N + 1 = K + M) : Nm.val zs < Nm.pw K * Nm.val ys := by
  have h1 := Nm.val_lt_tsize hz
  have h2 := Nm.val_ge_top hy (by omega)
  rw [hN] at h1
  rw [hM] at h2
  have h3 : Nm.pw K * Nm.pw (M - 1) ≤ Nm.pw K * Nm.val ys := Int.mul_le_mul_of_nonneg_left h2 (by have := Nm.pw_pos K; omega)
  rw [← Nm.pw_add, show K + (M - 1) = N by omega] at h3
  omega

set_option maxRecDepth 100000 in
set_option maxHeartbeats 1000000 in
theorem divMod_long (p q : Option Addr) (n cap m cap' : Nat) (zs ys : List Int) (w : World) (ha : Arg w p n cap zs) (hb : Arg w q m cap' ys) (tz : Nm.tsize zs ≤ 4096) (ty : Nm.tsize ys ≤ 4096) (ty2 : 2 ≤ Nm.tsize ys) (hge : Nm.val ys ≤ Nm.val zs) :
    Calls Tryz.prog 151 #[.slice p n cap, .slice q m cap'] w fun e w' => Splits (Nm.val zs) (Nm.val ys) w e w' := by
  obtain ⟨N, HN⟩ : ∃ N, Hid (Nm.tsize zs = N) := ⟨_, rfl⟩
  obtain ⟨M, HM⟩ : ∃ M, Hid (Nm.tsize ys = M) := ⟨_, rfl⟩
  have hNM : M ≤ N := by
    rcases Nat.lt_or_ge N M with h | h
    · have := val_lt_of_tsize ha.2.2.2.2 hb.2.2.2.2 (by rw [HN.out, HM.out]; exact h)
      omega
    · exact h
  obtain ⟨K, HK⟩ : ∃ K, Hid (N + 1 = K + M) := ⟨N + 1 - M, by show _ = _; omega⟩
  have RM := hid (first_room ha.2.2.2.2 hb.2.2.2.2 HN.out HM.out (by have := HM.out; omega) HK.out)
  have h1' : (N : Int) ≤ 4096 := by have := HN.out; omega
  have h2' : (M : Int) ≤ 4096 := by have := HM.out; omega
  have h3' : ((M : Int) == 0) = false := by have := HM.out; simp; omega
  have h5' : ((M : Int) == 1) = false := by have := HM.out; rw [beq_eq_false_iff_ne]; omega
  have h2 : (N : Int) ≤ (cap : Int) := by have := ha.tl; have := ha.2.1; have := HN.out; omega
  have h4 : (M : Int) ≤ (cap' : Int) := by have := hb.tl; have := hb.2.1; have := HM.out; omega
  have CU := ha.cut
  rw [HN.out] at CU
  have CU' := hb.cut
  rw [HM.out] at CU'
  have HCU := hid CU
  have HCU' := hid CU'
  obtain ⟨c, hc0, HC⟩ : ∃ c : Int, 0 ≤ c ∧ Hid (cmpI (Nm.val (Nm.trim zs)) (Nm.val (Nm.trim ys)) = c) := by
    rw [Nm.val_trim, Nm.val_trim]
    rcases (show Nm.val zs = Nm.val ys ∨ Nm.val ys < Nm.val zs by omega) with h | h
    · exact ⟨0, by omega, cmpI_eq h⟩
    · exact ⟨1, by omega, cmpI_gt h⟩
  have HA := hid ha
  have HB := hid hb
  have hM2 : 2 ≤ M := by have := HM.out; omega
  clear ha hb ty tz CU CU' ty2 hge
  go_enter Tryz.func151, Tryz.ntmps151
  go_wp2_with fail
  refine (limbs_is p n cap zs N _ HA.out HN.out).mono ?_
  rintro e w' ⟨rfl, rfl⟩
  go_wp2_with fail
  refine (limbs_is _ m cap' ys M _ HB.out HM.out).mono ?_
  rintro e w' ⟨rfl, rfl⟩
  go_wp2_with fail
  go_quiet ((go_at_call 117; first | exact Calls.quiet_of_same (limbs_is p n cap zs N _ (HA.out.drew _) HN.out) | exact Calls.quiet_of_same (limbs_is _ m cap' ys M _ (HB.out.drew _) HM.out)))
  have HCU2 := hid (HCU.out.drew nq)
  have HCU2' := hid (HCU'.out.drew nq)
  have HB0 : Hid (Below w'.heap.size w' (w'.drewN nq)) := below_drewN (Below.refl _ _) nq
  clear HCU HCU'
  generalize w'.drewN nq = wq at *
  go_wp2_with fail
  refine (cmp_is c p q N cap M cap' (Nm.trim zs) (Nm.trim ys) _ HCU2.out HCU2'.out HC.out).mono ?_
  rintro e w2 ⟨rfl, hb2⟩
  have HB2 := hid (chain HB0.out hb2 (Nat.le_refl _))
  have HCU3 := hid (HCU2.out.below hb2 (Nat.le_refl _))
  have HCU3' := hid (HCU2'.out.below hb2 (Nat.le_refl _))
  clear hb2 HCU2 HCU2' HB0
  have hmk := make64 (N + 1) (by omega) w2
  have em : ((N + 1 : Nat) : Int) = (N : Int) + 1 := by omega
  rw [em] at hmk
  clear em
  have hb0 : Below w2.heap.size w2 (w2.alloc (.cells (madeCells #[.int .u64 0] (N + 1)) 22)) := (Below.refl _ _).alloc (Nat.le_refl _) _
  have ho : Own (w2.alloc (.cells (madeCells #[.int .u64 0] (N + 1)) 22)) w2.heap.size (List.replicate (N + 1) 0) := by
    rw [made_zero]; exact Own.alloc w2 _
  obtain ⟨w3, hcp, ho1, hb1, hz1⟩ := copy64 w2.heap.size (N + 1) (List.replicate (N + 1) 0) p N cap (Nm.trim zs) 3 _ (by simp) (by rw [Nm.trim_length, HN.out]) (by omega) ho (HCU3.out.2.2.2.1.below hb0 (Nat.le_refl _))
  have e1 : List.drop N (List.replicate (N + 1) (0 : Int)) = [0] := by simp
  rw [e1] at ho1
  have HO := hid ho1
  have HB3 := hid (hb0.trans hb1)
  have HW3 : Hid (w2.heap.size < w3.heap.size) := ho1.lt
  clear e1 ho1 hb1 ho hb0 hz1
  have DV := divide_any w2.heap.size (N + 1) K (M - 2) M cap' (Nm.trim zs ++ [0]) q (Nm.trim ys) w3 HO.out (by simp [Nm.trim_length, HN.out]) (by omega) (Nm.Limbs.append HCU3.out.2.2.2.2 (limb_one (by omega))) (by omega) HK.out (by rw [Nm.trim_length, HM.out]) (by omega) (by have := HCU3'.out.2.2.1; omega)
    (HCU3'.out.2.2.2.1.below HB3.out (Nat.le_refl _)) HCU3'.out.2.2.2.2 (HCU3'.out.2.2.2.1.lt (by rw [Nm.trim_length, HM.out]; omega)) (by
      have := Nm.tsize_top (Nm.trim ys) (by rw [Nm.trim_trim, HM.out]; omega)
      rw [Nm.trim_trim, HM.out] at this
      rw [show M - 2 + 1 = M - 1 by omega]
      exact this) (by
      have e : Nm.val (Nm.trim zs ++ [0]) = Nm.val zs := by rw [Nm.val_append, Nm.val_trim]; simp [Nm.val]
      rw [e, Nm.val_trim]
      exact RM.out)
  have HDV := hid DV
  clear DV
  go_wp2_with fail
  refine HDV.out.mono ?_
  rintro e w4 ⟨os, rs, rfl, I⟩
  have bz := (Nm.val_bd rs I.out.lim).1
  have HE : Hid (Nm.val zs / Nm.val ys = Nm.val os ∧ Nm.val zs % Nm.val ys = Nm.val rs) := by
    have h1 := I.out.eq
    have h2 := I.out.lt
    have e : Nm.val (Nm.trim zs ++ [0]) = Nm.val zs := by rw [Nm.val_append, Nm.val_trim]; simp [Nm.val]
    rw [e, Nm.val_trim] at h1
    rw [Nm.val_trim] at h2
    simp only [Nm.pw, Int.one_mul] at h2
    exact div_is bz h2 h1
  have HB4 := hid ((HB2.out.trans (HB3.out.mono HB2.out.size)).trans (I.out.low.mono HB2.out.size))
  have hK64 : K ≤ 17592186044416 := by have := HK.out; omega
  have A1 : Hid (Arg w4 (some ⟨w3.heap.size, 0, none⟩) K K os) := ⟨I.out.len2, Nat.le_refl _, hK64, I.out.own2.lies, I.out.lim2⟩
  have HZ := hid HB2.out.size
  clear bz hmk hcp HDV
  go_wp2_with fail
  refine (trim_any _ K K os _ A1.out).mono ?_
  rintro e w5 ⟨r, os', rfl, -, A2, hb5⟩
  have HB5 := hid (chain HB4.out hb5 (Nat.le_refl _))
  have A3 : Hid (Arg w5 (some ⟨w2.heap.size, 0, none⟩) (N + 1) (N + 1) rs) := ⟨I.out.len, Nat.le_refl _, by omega, (I.out.own.below hb5 I.out.own.lt).lies, I.out.lim⟩
  have HA2 := hid (A2.up (B' := w'.heap.size) (HB4.out.size))
  clear A2 hb5
  go_wp2_with fail
  refine (trim_any _ (N + 1) (N + 1) rs _ A3.out).mono ?_
  rintro e w6 ⟨r2, os2, rfl, -, A4, hb6⟩
  have F : Hid (Splits (Nm.val zs) (Nm.val ys) w' (.returned (.tuple #[.slice r (List.length os') (List.length os'), .slice r2 (List.length os2) (List.length os2), .int .i64 0])) w6) := by
    refine ⟨r, os', r2, os2, rfl, ?_, ?_, chain HB5.out hb6 (Nat.le_refl _)⟩
    · rw [HE.out.1]; exact HA2.out.below hb6 (Nat.le_refl _)
    · rw [HE.out.2]; exact A4.up HB5.out.size
  clear A4 hb6
  go_wp2_with fail
  go_ret3
  exact F.out

/-- DivMod of two naturals that are not too big, the second not zero. -/
theorem divMod_ok (p q : Option Addr) (n cap m cap' : Nat) (zs ys : List Int) (w : World) (ha : Arg w p n cap zs) (hb : Arg w q m cap' ys) (tz : Nm.tsize zs ≤ 4096) (ty : Nm.tsize ys ≤ 4096) (hy : 0 < Nm.tsize ys) :
    Calls Tryz.prog 151 #[.slice p n cap, .slice q m cap'] w fun e w' => Splits (Nm.val zs) (Nm.val ys) w e w' := by
  by_cases h1 : Nm.tsize ys = 1
  · exact divMod_one p q n cap m cap' zs ys w ha hb tz h1
  by_cases h2 : Nm.val zs < Nm.val ys
  · exact divMod_less p q n cap m cap' zs ys w ha hb tz ty (by omega) h2
  · exact divMod_long p q n cap m cap' zs ys w ha hb tz ty (by omega) (by omega)
end Go.Proofs.YtjkefcikepnbpaaGreatDoor

namespace Go.Proofs.YtjkefcikepnbpaaGreatDoor
open Go.RowKit Go.Deep

/-- The powers b, b^2, b^4 .., in blocks below g. -/
def Pows (g : Nat) (b : Int) (pm : Option Addr) (K : Nat) (w : World) : Prop :=
  ∀ s, s < K → ∃ gm r us, pm = some ⟨gm, 0, none⟩ ∧ gm < g ∧ w.cell? ⟨gm, s, none⟩ = some (.slice r (List.length us) (List.length us)) ∧ Arg w r us.length us.length us ∧ Nm.val us = b ^ (2 ^ s) ∧ Nm.tsize us ≤ 4096 ∧ ∀ a, r = some a → a.block < g

theorem Pows.only {g : Nat} {b : Int} {pm : Option Addr} {K : Nat} {w w' : World} (h : Pows g b pm K w) (k : Only g w w') : Pows g b pm K w' := by
  intro s hs
  obtain ⟨gm, r, us, h1, h2, h3, h4, h5, h6, h7⟩ := h s hs
  exact ⟨gm, r, us, h1, h2, k.cell h3 (Nat.ne_of_lt h2), h4.only k (fun a ha => Nat.ne_of_lt (h7 a ha)), h5, h6, h7⟩

/-- What spread leaves behind. -/
def Spread (B : Int) (g o L : Nat) (ds : List Int) (V : Int) (w w' : World) : Prop := OwnB w' g (put ds o (Dn.dg B L V)) ∧ Only g w w'

structure ShutN (p : Prop) : Prop where
  out : p

theorem Ans.smallT {B : Nat} {w : World} {p : Option Addr} {ys : List Int} {n : Int} (h : Ans B w p ys n) (hn : n < Nm.pw 4096) : ys.length ≤ 4096 := by
  have h1 := (Nm.tsize_le_iff h.2.1 4096).2 (by rw [h.2.2.2.1]; exact hn)
  have h2 := h.2.2.1
  omega

theorem Ans.tsN {B : Nat} {w : World} {p : Option Addr} {ys : List Int} {n : Int} (h : Ans B w p ys n) (hn : n < Nm.pw 4096) : Nm.tsize ys ≤ 4096 := (Nm.tsize_le_iff h.2.1 4096).2 (by rw [h.2.2.2.1]; exact hn)

theorem below_drew (w : World) : Below w.heap.size w w.drew := (Below.refl _ _).drew

set_option maxRecDepth 100000 in
set_option maxHeartbeats 4000000 in
theorem spread_any (B : Int) (W g K cp : Nat) (pm : Option Addr) (h2 : 2 ≤ B) (h36 : B ≤ 36) (hW1 : 1 ≤ W) (hW : W ≤ 63) (hBW : B ^ W < 18446744073709551616) (hK : K ≤ 18) : ∀ (k : Nat), k ≤ K → k ≤ cp → ∀ (o L cap n c : Nat) (p : Option Addr) (za ds : List Int) (V : Int) (w : World),
    L = W * 2 ^ k → OwnB w g ds → o + L ≤ ds.length → L ≤ cap → cap ≤ 35184372088832 → Arg w p n c za → (∀ a, p = some a → a.block ≠ g) → Nm.val za = V → V < B ^ L → Nm.tsize za ≤ 4096 → Pows g (B ^ W) pm K w →
    Calls Tryz.prog 137 #[.slice (some ⟨g, o, none⟩) L cap, .slice p n c, .slice pm k cp, .int .u64 B] w fun e w' => e = .returned (.tuple #[]) ∧ Spread B g o L ds V w w' := by
  intro k
  induction k with
  | zero =>
    intro _ _ o L cap n c p za ds V w hL hd hol hc hcm ha hp hV hV1 ht hP
    rw [Nat.pow_zero, Nat.mul_one] at hL
    subst hL
    exact spread_zero B L g o cap cp n c p pm za ds V w h2 h36 hW hd hol ha hV (by omega)
  | succ k ih =>
    intro hkK hkc o L cap n c p za ds V w hL hd hol hc hcm ha hp hV hV1 ht hP
    obtain ⟨H, hH⟩ : ∃ H, W * 2 ^ k = H := ⟨_, rfl⟩
    have hLH : L = H + H := by rw [hL, Nat.pow_succ, ← Nat.mul_assoc, hH]; omega
    subst hLH
    have hB1 : 0 < B := by omega
    have hV0 : 0 ≤ V := by rw [← hV]; exact (Nm.val_bd za ha.2.2.2.2).1
    obtain ⟨gm, r, us, e1, e2, hcell, hr, hus, htu, hrb⟩ := hP k (by omega)
    subst e1
    have ePk : Nm.val us = B ^ H := by rw [hus, ← Int.pow_mul, hH]
    have hPk : 0 < B ^ H := Int.pow_pos hB1
    have htu0 : 0 < Nm.tsize us := by
      rcases Nat.eq_zero_or_pos (Nm.tsize us) with c | c
      · have := (Nm.tsize_zero_iff hr.2.2.2.2).1 c
        omega
      · exact c
    have DM := hid (divMod_ok p r n c _ _ za us w ha hr ht htu htu0)
    rw [hV, ePk] at DM
    have vh0 : 0 ≤ V / B ^ H := Int.ediv_nonneg hV0 (Int.le_of_lt hPk)
    have vh : V / B ^ H < B ^ H := Int.ediv_lt_of_lt_mul hPk (by rw [← Int.pow_add]; exact hV1)
    have vl : V % B ^ H < B ^ H := Int.emod_lt_of_pos _ hPk
    have vV : V < Nm.pw 4096 := by rw [← hV]; exact (Nm.tsize_le_iff ha.2.2.2.2 4096).1 ht
    have vhp : V / B ^ H < Nm.pw 4096 := Int.lt_of_le_of_lt (Int.ediv_le_self _ hV0) vV
    have vlp : V % B ^ H < Nm.pw 4096 := by
      have h1 := Int.emod_add_mul_ediv V (B ^ H)
      have h2 := Int.mul_nonneg (Int.le_of_lt hPk) vh0
      exact Int.lt_of_le_of_lt (by omega) vV
    have I1 : ShutN (∀ (w1 : World) (q : Option Addr) (os : List Int), OwnB w1 g ds → Ans w.heap.size w1 q os (V / B ^ H) → Pows g (B ^ W) (some ⟨gm, 0, none⟩) K w1 →
        Calls Tryz.prog 137 #[.slice (some ⟨g, o, none⟩) H cap, .slice q (List.length os) (List.length os), .slice (some ⟨gm, 0, none⟩) k cp, .int .u64 B] w1 fun e w' => e = .returned (.tuple #[]) ∧ Spread B g o H ds (V / B ^ H) w1 w') :=
      ⟨fun w1 q os a1 a2 a3 => ih (by omega) (by omega) o H cap _ _ q os ds _ w1 hH.symm a1 (by omega) (by omega) hcm (a2.arg (by have := a2.smallT vhp; omega)) (fun a ha => by have := a2.2.2.2.2 a ha; have := hd.lt; omega) a2.2.2.2.1 vh (a2.tsN vhp) a3⟩
    have I2 : ShutN (∀ (H2 : Nat) (w1 : World) (q : Option Addr) (os ds1 : List Int), H2 = H → OwnB w1 g ds1 → ds1.length = ds.length → Ans w.heap.size w1 q os (V % B ^ H) → Pows g (B ^ W) (some ⟨gm, 0, none⟩) K w1 →
        Calls Tryz.prog 137 #[.slice (some ⟨g, o + H, none⟩) H2 (cap - H), .slice q (List.length os) (List.length os), .slice (some ⟨gm, 0, none⟩) k cp, .int .u64 B] w1 fun e w' => e = .returned (.tuple #[]) ∧ Spread B g (o + H) H ds1 (V % B ^ H) w1 w') :=
      ⟨fun H2 w1 q os ds1 a0 a1 al a2 a3 => by subst a0; exact ih (by omega) (by omega) (o + H2) H2 (cap - H2) _ _ q os ds1 _ w1 hH.symm a1 (by omega) (by omega) (by omega) (a2.arg (by have := a2.smallT vlp; omega)) (fun a ha => by have := a2.2.2.2.2 a ha; have := hd.lt; omega) a2.2.2.2.1 vl (a2.tsN vlp) a3⟩
    have FIN : ShutN (∀ w1 w2 w3 w4 : World, Below w.heap.size w w1 → Spread B g o H ds (V / B ^ H) w1 w2 → Only g w2 w3 → Spread B g (o + H) H (put ds o (Dn.dg B H (V / B ^ H))) (V % B ^ H) w3 w4 → Spread B g o (H + H) ds V w w4) := by
      refine ⟨fun w1 w2 w3 w4 b1 s1 b2 s2 => ?_⟩
      have e1 := s2.1
      have hl := Dn.dg_length B H (V / B ^ H)
      have hl2 := Dn.dg_length B H (V % B ^ H)
      have e2 := put_two ds o (Dn.dg B H (V / B ^ H)) (Dn.dg B H (V % B ^ H)) (by rw [hl, hl2]; omega)
      rw [hl] at e2
      rw [e2, ← Dn.dg_split hB1] at e1
      exact ⟨e1, ((Only.of_below b1).trans s1.2).trans (b2.trans s2.2)⟩
    have PL : Hid ((put ds o (Dn.dg B H (V / B ^ H))).length = ds.length) := put_length _ _ _ (by rw [Dn.dg_length]; omega)
    obtain ⟨L, HL⟩ : ∃ L, Hid (H + H = L) := ⟨_, rfl⟩
    obtain ⟨K1, HK1⟩ : ∃ K1, Hid (k + 1 = K1) := ⟨_, rfl⟩
    have r1 : ((K1 : Int) == 0) = false := by rw [beq_eq_false_iff_ne]; have := HK1.out; omega
    have r2 : (K1 : Int) - 1 = (k : Int) := by have := HK1.out; omega
    have r3 : (L : Int) / 2 = (H : Int) := by have := HL.out; omega
    have r4 : (L : Int).tdiv 2 = (H : Int) := by have := HL.out; rw [Int.tdiv_eq_ediv_of_nonneg (by omega)]; omega
    have hk1 : (k : Int) < (K1 : Int) := by have := HK1.out; omega
    have hk18 : (k : Int) ≤ 18 := by omega
    have hH1 : 1 ≤ H := by rw [← hH]; exact Nat.mul_pos (by omega) (Nat.pow_pos (by omega))
    have hHc : H ≤ cap := by omega
    have hne : ¬ cap = H := by omega
    have hne2 : ¬ L = H := by have := HL.out; omega
    have hHL : H ≤ L := by have := HL.out; omega
    have hkc2 : k ≤ cp := by omega
    have hLc : L ≤ cap := by have := HL.out; omega
    have OB := hid hd
    have HG := hid hd.lt
    have PW := hid hP
    rw [HL.out] at FIN
    rw [HL.out, HK1.out]
    clear ih hL hd hol hc ha hp hV hV1 ht hP hus hr htu hrb ePk htu0 vh0 vh vl vV vhp vlp e2 hkK hkc hH hBW hV0 hPk
    go_enter Tryz.func137, Tryz.ntmps137
    go_wp2_with fail
    refine DM.out.mono ?_
    rintro e w1 ⟨q1, os1, q2, os2, rfl, A1, A2, d1⟩
    have SA1 := hid A1
    have SA2 := hid A2
    have D1 := hid d1
    have OB1 := hid (OB.out.below d1 OB.out.lt)
    have PW1 := hid (PW.out.only (Only.of_below d1))
    clear A1 A2 d1 DM OB PW hcell
    have C1 := hid (I1.out w1.drew q1 os1 OB1.out (SA1.out.below (below_drew w1) (Nat.le_refl _)) (PW1.out.only (Only.of_below (below_drew w1))))
    go_upto_region 8 with fail
    go_cut [] from 57 to 65 (fun wx => Hid (Spread B g o H ds (V / B ^ H) w1 wx))
    case first =>
      go_region_with (go_at_call 137; refine C1.out.mono ?_; rintro e w2 ⟨rfl, s2⟩; have F : Hid (Spread B g o H ds (V / B ^ H) w1 w2) := ⟨s2.1, (Only.of_below (below_drew w1)).trans s2.2⟩; clear s2)
      all_goals (go_wp2_with fail; go_meet; exact F)
    case rest =>
      have SA3 : Hid (Ans w.heap.size wc q2 os2 (V % B ^ H)) := ⟨SA2.out.1.only hcut.out.2 (fun a ha => by have := SA2.out.2.2.2.2 a ha; have := HG.out; omega), SA2.out.2⟩
      have PW2 := hid (PW1.out.only hcut.out.2)
      have C2 := hid (I2.out (L - H) wc.drew q2 os2 _ (by have := HL.out; omega) hcut.out.1 PL.out (SA3.out.below (below_drew wc) (Nat.le_refl _)) (PW2.out.only (Only.of_below (below_drew wc))))
      clear C1 SA1 SA2 PW1 OB1 SA3 PW2 I1 I2
      go_upto_region 9 with fail
      go_region_with (go_at_call 137; go_must (go_fit C2.out); rintro e w3 ⟨rfl, s3⟩; have F : Hid (Spread B g o L ds V w w3) := FIN.out w1 wc wc.drew w3 D1.out hcut.out (Only.of_below (below_drew wc)) s3; clear s3)
      all_goals (go_wp2_with fail; go_end0; exact ⟨rfl, F.out⟩)
end Go.Proofs.YtjkefcikepnbpaaGreatDoor

namespace Go.Proofs.YtjkefcikepnbpaaGreatDoor
open Go.RowKit Go.Deep

theorem info64r : (Tryz.prog.info? 96).map (fun i => (i.zero, i.size, i.bytes)) = some (some (.slice none 0 0), 1, 24) := by kernel_rfl

/-- The list of headers, behind another one is appended: in its block, or in a new one at the heap's end. -/
theorem pushRow (base n : Nat) (mv : Value) (xs : List Value) (v : Value) (w : World) (hn : n ≤ 1000) (hv : v.oneCell' = true) (hb : base ≤ w.heap.size) (ho : w.ownsRow base 96 1 mv n xs) :
    ∃ mv' w', (Builtin.append_ #[174, 174] 174 #[mv, .slice (some ⟨w.heap.size, 0, none⟩) 1 1]).run Tryz.prog (w.alloc (.cells #[v] 96)) = .ok mv' w' ∧ w'.ownsRow base 96 1 mv' (n + 1) (xs ++ [v]) ∧ Below base w w' ∧ w.heap.size ≤ w'.heap.size ∧
      (∀ j, j < w.heap.size → some j ≠ mv.ownBlock → w'.heap[j]? = w.heap[j]?) ∧ (∀ k, mv'.ownBlock = some k → mv.ownBlock = some k ∨ w.heap.size ≤ k) := by
  obtain ⟨i, hi, hz⟩ := Option.map_eq_some_iff.1 info64r
  simp only [Prod.mk.injEq] at hz
  obtain ⟨z1, z2, z3⟩ := hz
  have bm : Below w.heap.size w (w.alloc (.cells #[v] 96)) := (Below.refl _ _).alloc (Nat.le_refl _) _
  have hs : (w.alloc (.cells #[v] 96)).heap.size = w.heap.size + 1 := World.size_alloc _ _
  have ho' := ho.alloc (.cells #[v] 96)
  have hcell : (w.alloc (.cells #[v] 96)).cell? ⟨w.heap.size, 0, none⟩ = some v := by
    have : (w.alloc (.cells #[v] 96)).heap[w.heap.size]? = some (.cells #[v] 96 (0, 0)) := by
      show (w.heap.push _)[w.heap.size]? = _
      rw [Array.getElem?_push, if_pos rfl]
    simp only [World.cell?, this]
    rfl
  have hnews : ∀ j u, [v][j]? = some u → (w.alloc (.cells #[v] 96)).cell? ((⟨w.heap.size, 0, none⟩ : Addr).add j) = some u := fun j u hu => by
    cases j with
    | zero =>
      simp at hu
      subst hu
      rw [Go.WideShapes.add_plain]
      exact hcell
    | succ j => simp at hu
  have h1v : ∀ u ∈ [v], u.oneCell' = true := fun u hu => by simp at hu; subst hu; exact hv
  obtain ⟨v', w', hr, h1, h2, _⟩ := run_append_own (P := Tryz.prog) (w.alloc (.cells #[v] 96)) base 174 174 96 i (.slice none 0 0) 1 24 Tryz.underlying174 hi z1 z2 z3 rfl (by omega) mv n xs ho'
    ⟨w.heap.size, 0, none⟩ 1 1 [v] rfl hnews h1v (by simp only [maxLen]; omega) (by omega) (by rw [hs]; omega)
  refine ⟨v', w', hr, h1, ?_, by have := h2.size; omega, fun j hj hne => ?_, ?_⟩
  · have hb2 : Below base (w.alloc (.cells #[v] 96)) w' := by
      refine ⟨h2.os, h2.tape, h2.output, h2.size, fun j hj => h2.block j (by rw [hs]; omega) ?_⟩
      intro hk
      have := (ho'.lt j hk.symm).1
      omega
    exact (bm.mono hb).trans hb2
  · rw [h2.block j (by rw [hs]; omega) hne]
    exact bm.block j hj
  · intro k hk
    rcases ho'.2 with ⟨rfl, h0⟩ | ⟨g, cap, cur, rfl, _, hcur, hnc, hcm, hcs, htk⟩
    · right
      subst h0
      have hr2 := run_append_nil (P := Tryz.prog) (w.alloc (.cells #[v] 96)) 174 174 96 i (.slice none 0 0) Tryz.underlying174 hi z1 ⟨w.heap.size, 0, none⟩ 1 1 [v] (by rw [z2]; rfl) hnews (by omega) (by omega) (by rw [z3]; omega)
      rw [hr] at hr2
      simp only [Result.ok.injEq] at hr2
      obtain ⟨rfl, _⟩ := hr2
      simp only [Value.ownBlock, Option.some.injEq] at hk
      omega
    · by_cases hroom : n + 1 ≤ cap
      · left
        have hr2 := run_append_room (P := Tryz.prog) (w.alloc (.cells #[v] 96)) 174 174 96 i Tryz.underlying174 hi g n cap cur hcur ⟨w.heap.size, 0, none⟩ 1 1 [v] (by rw [z2]; rfl) hnews h1v hroom (by rw [z2, hcs]; simp; omega)
        rw [hr] at hr2
        simp only [Result.ok.injEq] at hr2
        obtain ⟨rfl, _⟩ := hr2
        simpa [Value.ownBlock] using hk
      · right
        have holds : ∀ j u, xs[j]? = some u → (w.alloc (.cells #[v] 96)).cell? ((⟨g, 0, none⟩ : Addr).add j) = some u := ho'.cells (g := g) rfl
        have hr2 := run_append_grow (P := Tryz.prog) (w.alloc (.cells #[v] 96)) 174 174 96 i (.slice none 0 0) Tryz.underlying174 hi z1 ⟨g, 0, none⟩ n cap xs (by rw [z2]; exact ho.1) holds ⟨w.heap.size, 0, none⟩ 1 1 [v] (by rw [z2]; rfl) hnews (by omega) (by omega) (growslice_fits (by omega) (by rw [z3]; omega))
        rw [hr] at hr2
        simp only [Result.ok.injEq] at hr2
        obtain ⟨rfl, _⟩ := hr2
        simp only [Value.ownBlock, Option.some.injEq] at hk
        omega

/-- A row: a trimmed list of the number V, in another block than the headers. -/
def RowIn (w : World) (mv : Value) (e : Option Addr × List Int) (V : Int) : Prop :=
  Lies w e.1 e.2 ∧ Nm.Limbs e.2 ∧ Nm.tsize e.2 = e.2.length ∧ Nm.val e.2 = V ∧ ∀ a, e.1 = some a → a.block < w.heap.size ∧ some a.block ≠ mv.ownBlock

def rowV (e : Option Addr × List Int) : Value := .slice e.1 e.2.length e.2.length

theorem RowIn.below {w w' : World} {mv : Value} {e : Option Addr × List Int} {V : Int} (h : RowIn w mv e V) (hb : Below w.heap.size w w') : RowIn w' mv e V :=
  ⟨h.1.below hb (Nat.le_refl _), h.2.1, h.2.2.1, h.2.2.2.1, fun a ha => ⟨Nat.lt_of_lt_of_le (h.2.2.2.2 a ha).1 hb.size, (h.2.2.2.2 a ha).2⟩⟩

theorem RowIn.pushed {w w' : World} {mv mv' : Value} {e : Option Addr × List Int} {V : Int} (h : RowIn w mv e V) (hz : w.heap.size ≤ w'.heap.size) (hb : ∀ j, j < w.heap.size → some j ≠ mv.ownBlock → w'.heap[j]? = w.heap[j]?) (hk : ∀ k, mv'.ownBlock = some k → mv.ownBlock = some k ∨ w.heap.size ≤ k) : RowIn w' mv' e V := by
  obtain ⟨h1, h2, h3, h4, h5⟩ := h
  refine ⟨?_, h2, h3, h4, fun a ha => ⟨Nat.lt_of_lt_of_le (h5 a ha).1 hz, fun hc => ?_⟩⟩
  · rcases h1 with h1 | ⟨b, off, hp, h1⟩
    · exact .inl h1
    · refine .inr ⟨b, off, hp, fun i hi => ?_⟩
      have h6 := h5 _ hp
      have := hb b h6.1 h6.2
      rw [← h1 i hi]
      simp only [World.cell?, this]
  · have h6 := h5 a ha
    rcases hk a.block hc.symm with c | c
    · exact h6.2 c.symm
    · omega

theorem RowIn.arg {w : World} {mv : Value} {e : Option Addr × List Int} {V : Int} (h : RowIn w mv e V) (hl : e.2.length ≤ 17592186044416) : Arg w e.1 e.2.length e.2.length e.2 := ⟨rfl, Nat.le_refl _, hl, h.1, h.2.1⟩

/-- An answer that is newer than the headers is such a row. -/
theorem Ans.row {B base n : Nat} {w w' : World} {r : Option Addr} {os : List Int} {V : Int} {mv : Value} {xs : List Value} (h : Ans B w' r os V) (hB : B = w.heap.size) (ho : w.ownsRow base 96 1 mv n xs) (h0 : 0 < V) : RowIn w' mv (r, os) V := by
  refine ⟨h.1, h.2.1, h.2.2.1, h.2.2.2.1, fun a ha => ⟨?_, fun hc => ?_⟩⟩
  · have hne : 0 < os.length := by
      rcases Nat.eq_zero_or_pos os.length with c | c
      · have := h.2.2.2.1
        rw [List.eq_nil_of_length_eq_zero c] at this
        simp [Nm.val] at this
        omega
      · exact c
    exact h.1.lt hne a ha
  · have h1 := h.2.2.2.2 a ha
    have h2 := ho.lt a.block hc.symm
    omega
end Go.Proofs.YtjkefcikepnbpaaGreatDoor

namespace Go.Proofs.YtjkefcikepnbpaaGreatDoor
open Go.RowKit Go.Deep

/-- A number, or that it is too big. -/
def Gives (T : Int) (w : World) (e : Ending) (w' : World) : Prop :=
  ((T < Nm.pw 4096 ∧ ∃ r os, e = .returned (.tuple #[.slice r (List.length os) (List.length os), .int .i64 0]) ∧ Ans w.heap.size w' r os T) ∨ (Nm.pw 4096 ≤ T ∧ e = .returned (.tuple #[.slice none 0 0, .int .i64 2]))) ∧ Below w.heap.size w w'

theorem Ans.argT {B : Nat} {w : World} {p : Option Addr} {ys : List Int} {n : Int} (h : Ans B w p ys n) (hn : n < Nm.pw 4096) : Arg w p ys.length ys.length ys :=
  h.arg (by have := h.small hn; omega)

theorem Ans.tsT {B : Nat} {w : World} {p : Option Addr} {ys : List Int} {n : Int} (h : Ans B w p ys n) (hn : n < Nm.pw 4096) : Nm.tsize ys ≤ 4096 := by
  rw [h.2.2.1]
  exact h.small hn

theorem Ans.upT {B B' : Nat} {w : World} {p : Option Addr} {ys : List Int} {n : Int} (h : Ans B w p ys n) (hB : B' ≤ B) : Ans B' w p ys n :=
  ⟨h.1, h.2.1, h.2.2.1, h.2.2.2.1, fun a ha => Nat.le_trans hB (h.2.2.2.2 a ha)⟩

theorem mul_gives (p q : Option Addr) (n cap m cap' : Nat) (zs ys : List Int) (T : Int) (w : World) (ha : Arg w p n cap zs) (hb : Arg w q m cap' ys) (tz : Nm.tsize zs ≤ 4096) (ty : Nm.tsize ys ≤ 4096) (hT : Nm.val zs * Nm.val ys = T) :
    Calls Tryz.prog 65 #[.slice p n cap, .slice q m cap'] w fun e w' => Gives T w e w' := by
  by_cases h : T < Nm.pw 4096
  · refine (mul_ok p q n cap m cap' zs ys w ha hb tz ty (by rw [hT]; exact h)).mono ?_
    rintro e w' ⟨r, os, rfl, A, hb⟩
    rw [hT] at A
    exact ⟨.inl ⟨h, r, os, rfl, A⟩, hb⟩
  · refine (mul_over p q n cap m cap' zs ys w ha hb tz ty (by rw [hT]; exact Int.not_lt.1 h)).mono ?_
    rintro e w' ⟨rfl, hb⟩
    exact ⟨.inr ⟨Int.not_lt.1 h, rfl⟩, hb⟩

theorem limbs_isT (p : Option Addr) (n cap : Nat) (zs : List Int) (N : Nat) (w : World) (ha : Arg w p n cap zs) (hN : Nm.tsize zs = N) :
    Calls Tryz.prog 117 #[.slice p n cap] w fun e w' => e = .returned (.int .i64 (N : Int)) ∧ w' = w := by
  rw [← hN]
  exact limbs_any p n cap zs w ha

theorem bitLen_isT (L : Nat) (p : Option Addr) (n cap : Nat) (zs : List Int) (w : World) (ha : Arg w p n cap zs) (hb : blen zs = (L : Int)) :
    Calls Tryz.prog 77 #[.slice p n cap] w fun e w' => e = .returned (.int .i64 (L : Int)) ∧ w' = w := by
  rw [← hb]
  exact bitLen_any p n cap zs w ha
end Go.Proofs.YtjkefcikepnbpaaGreatDoor

namespace Go.Proofs.YtjkefcikepnbpaaGreatDoor
open Go.RowKit Go.Deep

structure ShutL (p : Prop) : Prop where
  out : p

theorem wpList_append_l {ty : TypeId} {ops : Array Oper} {rest : List Oper} {o : Oper} {a : Act} {Q : Exit → Act → World → Prop} (hgd : o.guard = none) (s x : Operand)
    (ho : o.op = .call { callee := .builtin .append, args := #[s, x], argTypes := #[ty, ty] }) {v y v' : Value} {w w' : World} (hr : (Builtin.append_ #[ty, ty] o.type #[v, y]).run Tryz.prog w = .ok v' w') (hs : a.eval s = v) (hx : a.eval x = y)
    (h : wpList Tryz.prog ops Q rest (a.put o.dst v') w') : wpList Tryz.prog ops Q (o :: rest) a w := by
  refine wpList_plain hgd fun K hK => ?_
  unfold Oper.wp execOp
  simp only [ho, resolve, invoke, builtin, Sem.run_bind, Sem.run_pure, Result.andThen_ok, List.map_toArray, List.map_cons, List.map_nil, hs, hx, hr]
  exact hK _ _ h

/-- The rows b, b^2, b^4 .. that are at most A. -/
structure RowsIn (base : Nat) (b A : Int) (mv : Value) (l : List (Option Addr × List Int)) (w : World) : Prop where
  own : w.ownsRow base 96 1 mv l.length (l.map rowV)
  row : ∀ i e, l[i]? = some e → RowIn w mv e (b ^ (2 ^ i)) ∧ b ^ (2 ^ i) ≤ A

theorem RowsIn.below {base : Nat} {b A : Int} {mv : Value} {l : List (Option Addr × List Int)} {w w' : World} (h : RowsIn base b A mv l w) (hb : Below w.heap.size w w') : RowsIn base b A mv l w' :=
  ⟨h.own.kept (row := none) ⟨hb.os, hb.tape, hb.output, hb.size, fun j hj _ => hb.block j hj⟩ (by cases h : Value.ownBlock mv <;> simp), fun i e he => ⟨(h.row i e he).1.below hb, (h.row i e he).2⟩⟩

theorem pw_big : Nm.pw 4096 = 2 ^ 262144 := by rw [Nm.pw_two 4096, show 64 * 4096 = 262144 from rfl]

/-- The next row, or the error that says that it is too long. -/
inductive SqNext (b : Int) (k : Nat) (mv : Value) (r : Option Addr) (us : List Int) (w : World) : Int → Prop
  | go : b ^ (2 ^ k) < Nm.pw 4096 → RowIn w mv (r, us) (b ^ (2 ^ k)) → SqNext b k mv r us w 0
  | stop : Nm.pw 4096 ≤ b ^ (2 ^ k) → SqNext b k mv r us w 2

theorem RowsIn.few {base : Nat} {b A : Int} {mv : Value} {l : List (Option Addr × List Int)} {w : World} (h : RowsIn base b A mv l w) (hb : 2 ≤ b) (hA : A < Nm.pw 4096) : l.length ≤ 18 := by
  rcases Nat.eq_zero_or_pos l.length with c | c
  · omega
  · have he : l[l.length - 1]? = some l[l.length - 1] := List.getElem?_eq_getElem (by omega)
    have := Ln.few hb (h.row _ _ he).2 (by rw [← pw_big]; exact hA)
    omega

set_option maxRecDepth 100000 in
set_option maxHeartbeats 4000000 in
theorem nsquares_any (p q : Option Addr) (m cap' : Nat) (os za : List Int) (b A : Int) (B : Nat) (w : World) (hp : Ans B w p os b) (hb0 : 2 ≤ b) (hb1 : b < 18446744073709551616) (ha : Arg w q m cap' za) (hA : Nm.val za = A) (ts : Nm.tsize za ≤ 4096) :
    Calls Tryz.prog 136 #[.slice p (List.length os) (List.length os), .slice q m cap'] w fun e w' => ∃ mv l, e = .returned mv ∧ Hid (RowsIn w.heap.size b A mv l w' ∧ A < b ^ (2 ^ l.length) ∧ l.length ≤ 18 ∧ Below w.heap.size w w') := by
  have hAs : ShutL (A < Nm.pw 4096) := ⟨by rw [← hA]; exact (Nm.tsize_le_iff ha.2.2.2.2 4096).1 ts⟩
  have HV := hid hA
  have HA := hid ha
  have HB := hid hb0
  have P0 : Hid (RowIn w (.slice none 0 0) (p, os) (b ^ (2 ^ 0))) := by
    show RowIn _ _ _ _
    rw [Nat.pow_zero, Int.pow_succ, Int.pow_zero, Int.one_mul]
    refine ⟨hp.1, hp.2.1, hp.2.2.1, hp.2.2.2.1, fun a ha => ⟨hp.1.lt ?_ a ha, by simp [Value.ownBlock]⟩⟩
    rcases Nat.eq_zero_or_pos os.length with c | c
    · have := hp.2.2.2.1
      rw [List.eq_nil_of_length_eq_zero c] at this
      simp [Nm.val] at this
      omega
    · exact c
  have S0 : ShutL (b ^ (2 ^ 0) < Nm.pw 4096) := by
    refine ⟨?_⟩
    rw [Nat.pow_zero, Int.pow_succ, Int.pow_zero, Int.one_mul]
    have h := Nm.pw_mono (show 1 ≤ 4096 by omega)
    have e : Nm.pw 1 = 18446744073709551616 := by simp [Nm.pw]
    rw [e] at h
    exact Int.lt_of_lt_of_le hb1 h
  clear hp hb0 hb1 ha hA ts
  go_enter Tryz.func136, Tryz.ntmps136
  go_wp2_with fail
  go_loopg [0, 5, 6] 20 (fun x a c e wr => ∃ (mv : Value) (l : List (Option Addr × List Int)) (r : Option Addr) (us : List Int) (E : Int), a = .slice r (List.length us) (List.length us) ∧ c = mv ∧ e = .int .i64 E ∧ Hid (x + l.length = 20) ∧ Hid (RowsIn w.heap.size b A mv l wr) ∧ Hid (Below w.heap.size w wr) ∧ SqNext b l.length mv r us wr E)
  case atStart => exact ⟨.slice none 0 0, [], p, os, 0, rfl, rfl, rfl, rfl, ⟨World.ownsRow_nil _ _ _ _, fun i e h => by simp at h⟩, Below.refl _ _, .go S0.out P0.out⟩
  case round =>
    clear P0 S0
    obtain ⟨mv, l, r, us, E, rfl, hmv, rfl, GK, RI, D, W⟩ := hrel
    have hmv := hmv.symm
    subst hmv
    have L18 := hid (RI.out.few HB.out hAs.out)
    have W0 : (E = 0 ∧ b ^ (2 ^ l.length) < Nm.pw 4096 ∧ RowIn wr mv (r, us) (b ^ (2 ^ l.length))) ∨ (E = 2 ∧ Nm.pw 4096 ≤ b ^ (2 ^ l.length)) := by
      cases W with
      | go h1 h2 => exact .inl ⟨rfl, h1, h2⟩
      | stop h => exact .inr ⟨rfl, h⟩
    clear W
    rcases W0 with ⟨hE, hs, hr⟩ | ⟨hE, hs⟩
    · subst hE
      have HS : ShutL (b ^ (2 ^ l.length) < Nm.pw 4096) := ⟨hs⟩
      have HR := hid hr
      have lus : Hid (us.length ≤ 4096) := by
        show _ ≤ _
        have h1 := (Nm.tsize_le_iff hr.2.1 4096).2 (by rw [hr.2.2.2.1]; exact hs)
        have h2 := hr.2.2.1
        simp only at h1 h2
        omega
      have HAr := hid (HA.out.below D.out (Nat.le_refl _))
      obtain ⟨c, hc0⟩ : ∃ c, cmpI (b ^ (2 ^ l.length)) A = c := ⟨_, rfl⟩
      have HC := hid hc0
      clear hc0
      have CM := hid (cmp_is c r q _ _ m cap' us za wr (hr.arg (by have := lus.out; simp only; omega)) HAr.out (by rw [show Nm.val us = b ^ (2 ^ l.length) from hr.2.2.2.1, HV.out]; exact HC.out))
      clear hs hr HAr
      by_cases hgt : A < b ^ (2 ^ l.length)
      · have hc : c = 1 := by rw [← HC.out]; exact cmpI_gt hgt
        have HG := hid hgt
        subst hc
        clear hgt
        go_wp2_with fail
        refine CM.out.mono ?_
        rintro e w1 ⟨rfl, d1⟩
        have F : Hid (RowsIn w.heap.size b A mv l w1 ∧ A < b ^ (2 ^ l.length) ∧ l.length ≤ 18 ∧ Below w.heap.size w w1) := ⟨RI.out.below d1, HG.out, L18.out, chain D.out d1 (Nat.le_refl _)⟩
        clear d1
        go_wp2_with fail
        go_ret
        exact ⟨mv, l, rfl, F⟩
      · have hcle : c ≤ 0 := by
          rw [← HC.out]
          rcases (show b ^ (2 ^ l.length) = A ∨ b ^ (2 ^ l.length) < A by omega) with h | h
          · rw [cmpI_eq h]; omega
          · rw [cmpI_lt h]; omega
        have HLE : Hid (b ^ (2 ^ l.length) ≤ A) := by show _ ≤ _; omega
        clear hgt
        go_wp2_with fail
        refine CM.out.mono ?_
        rintro e w1 ⟨rfl, d1⟩
        have RI1 := RI.out.below d1
        have HR1 := HR.out.below d1
        have D1 := hid (chain D.out d1 (Nat.le_refl _))
        obtain ⟨mv', w2, ap, j1, j2, j3, j4, j5⟩ := pushRow w.heap.size l.length mv (l.map rowV) (rowV (r, us)) w1 (by have := L18.out; omega) rfl D1.out.size RI1.own
        have AP : Hid ((Builtin.append_ #[174, 174] 174 #[mv, .slice (some ⟨w1.heap.size, 0, none⟩) 1 1]).run Tryz.prog (w1.alloc (.cells #[.slice r (List.length us) (List.length us)] 96)) = .ok mv' w2) := ap
        have D2 := hid (D1.out.trans j2)
        have HR2 := hid (HR1.pushed j3 j4 j5)
        have RI2 : Hid (RowsIn w.heap.size b A mv' (l ++ [(r, us)]) w2) := by
          refine ⟨by simpa using j1, fun i e he => ?_⟩
          by_cases hi : i < l.length
          · rw [List.getElem?_append_left hi] at he
            exact ⟨(RI1.row i e he).1.pushed j3 j4 j5, (RI1.row i e he).2⟩
          · have hlt := (List.getElem?_eq_some_iff.1 he).1
            simp only [List.length_append, List.length_cons, List.length_nil] at hlt
            have hi2 : i = l.length := by omega
            subst hi2
            rw [List.getElem?_append_right (by omega), Nat.sub_self] at he
            simp at he
            subst he
            exact ⟨HR1.pushed j3 j4 j5, HLE.out⟩
        have MU := hid (mul_gives r r _ _ _ _ us us (b ^ (2 ^ (l.length + 1))) w2 (HR2.out.arg (by have := lus.out; simp only; omega)) (HR2.out.arg (by have := lus.out; simp only; omega)) (by rw [show Nm.tsize us = us.length from HR2.out.2.2.1]; exact lus.out) (by rw [show Nm.tsize us = us.length from HR2.out.2.2.1]; exact lus.out) (by rw [show Nm.val us = b ^ (2 ^ l.length) from HR2.out.2.2.2.1]; exact Ln.square b l.length))
        have BP := hid (show 0 < b ^ (2 ^ (l.length + 1)) from Int.pow_pos (by have := HB.out; omega))
        clear ap j1 j2 j3 j4 j5 RI1 HR1 d1 CM RI D HR
        go_wp2_with (at_builtin; refine wpList_append_l rfl _ _ rfl AP.out (by rfl) (by rfl) ?_; clear AP)
        refine MU.out.mono ?_
        rintro e w3 ⟨h | h, d3⟩
        · obtain ⟨h1, r3, us3, rfl, A3⟩ := h
          have N3 : SqNext b (l.length + 1) mv' r3 us3 w3 0 := .go h1 (A3.row rfl RI2.out.own BP.out)
          have RI3 := hid (RI2.out.below d3)
          have D3 := hid (chain D2.out d3 (Nat.le_refl _))
          clear h1 A3 d3 MU
          go_wp2_with fail
          go_roundg (19 - l.length)
          case measure => have := GK.out; have := L18.out; omega
          case rel => exact ⟨mv', l ++ [(r, us)], r3, us3, 0, rfl, rfl, rfl, by show _ = _; have := L18.out; rw [List.length_append]; simp only [List.length_cons, List.length_nil]; omega, RI3.out, D3.out, by rw [List.length_append]; exact N3⟩
        · obtain ⟨h1, rfl⟩ := h
          have N3 : SqNext b (l.length + 1) mv' none [] w3 2 := .stop h1
          have RI3 := hid (RI2.out.below d3)
          have D3 := hid (chain D2.out d3 (Nat.le_refl _))
          clear h1 d3 MU
          go_wp2_with fail
          go_roundg (19 - l.length)
          case measure => have := GK.out; have := L18.out; omega
          case rel => exact ⟨mv', l ++ [(r, us)], none, [], 2, rfl, rfl, rfl, by show _ = _; have := L18.out; rw [List.length_append]; simp only [List.length_cons, List.length_nil]; omega, RI3.out, D3.out, by rw [List.length_append]; exact N3⟩
    · subst hE
      have F : Hid (RowsIn w.heap.size b A mv l wr ∧ A < b ^ (2 ^ l.length) ∧ l.length ≤ 18 ∧ Below w.heap.size w wr) := ⟨RI.out, Int.lt_of_lt_of_le hAs.out hs, L18.out, D.out⟩
      clear hs
      go_wp2_with fail
      go_ret
      exact ⟨mv, rfl, l, F⟩
end Go.Proofs.YtjkefcikepnbpaaGreatDoor

namespace Go.Proofs.YtjkefcikepnbpaaGreatDoor
open Go.RowKit Go.Deep

structure ShutG (p : Prop) : Prop where
  out : p

/-- So many digits a limb holds. -/
theorem few64 {B : Int} {W : Nat} (hB : 2 ≤ B) (h : B ^ W < 18446744073709551616) : W ≤ 63 := by
  have := Ln.small (A := B ^ W) (L := 64) hB (Int.le_refl _) (by rw [show (2 : Int) ^ 64 = 18446744073709551616 by decide]; exact h)
  omega

set_option maxRecDepth 100000 in
set_option maxHeartbeats 1000000 in
theorem group_any (B : Int) (w : World) (h2 : 2 ≤ B) (h36 : B ≤ 36) :
    Calls Tryz.prog 135 #[.int .u64 B] w fun e w' => (∃ (W : Nat) (P : Int), e = .returned (.tuple #[.int .u64 P, .int .i64 (W : Int)]) ∧ P = B ^ W ∧ 1 ≤ W ∧ W ≤ 63 ∧ P < 18446744073709551616) ∧ w' = w := by
  have hB0 : (B == 0) = false := by rw [beq_eq_false_iff_ne]; omega
  go_enter Tryz.func135, Tryz.ntmps135
  go_wp2_with fail
  go_loop [4, 5] (fun p c => ∃ (P : Int) (W : Nat), p = .int .u64 P ∧ c = .int .i64 (W : Int) ∧ 1 ≤ P ∧ P ≤ 18446744073709551615 ∧ Hid (P = B ^ W ∧ 1 ≤ W ∧ W ≤ 63)) (fun _ c => 64 - (intOf c).toNat)
  case atStart => exact ⟨B, 1, rfl, rfl, by omega, by omega, by rw [Int.pow_succ, Int.pow_zero, Int.one_mul], by omega, by omega⟩
  case round =>
    obtain ⟨P, W, rfl, rfl, hP1, hP2, F⟩ := hrel
    have hW : (W : Int) ≤ 63 := by have := F.out.2.2; omega
    by_cases hle : P ≤ 18446744073709551615 / B
    · have hm : P * B ≤ 18446744073709551615 := (Int.le_ediv_iff_mul_le (by omega)).1 hle
      have hm0 : 0 ≤ P * B := Int.mul_nonneg (by omega) (by omega)
      have hm1 : 1 ≤ P * B := by have := Int.mul_le_mul (a := 1) (b := 1) hP1 (show 1 ≤ B by omega) (by omega) (by omega); omega
      have q1 : IntKind.u64.wrap (P * B) = P * B := by rw [IntKind.wrap_u64]; omega
      have W2 : Hid (W + 1 ≤ 63) := few64 h2 (by rw [Int.pow_succ, ← F.out.1]; omega)
      have HM := hid hm
      have HM1 := hid hm1
      clear hm hm0 hm1
      go_wp2_with fail
      go_round
      case rel => exact ⟨P * B, W + 1, rfl, by go_num, HM1.out, HM.out, by rw [Int.pow_succ, ← F.out.1], by omega, W2.out⟩
      case measure => simp [intOf]; have := F.out.2; omega
    · go_wp2_with fail
      go_ret2
      exact ⟨⟨W, P, rfl, F.out.1, F.out.2.1, F.out.2.2, by omega⟩, rfl⟩
end Go.Proofs.YtjkefcikepnbpaaGreatDoor

namespace Go.Proofs.YtjkefcikepnbpaaGreatDoor
open Go.RowKit Go.Deep

/-- The letters of a row of digits. -/
def lets (lt ds : List Int) : List Int := ds.map (fun d => lt.getD d.toNat 0)

/-- The list of powers, as spread wants it. -/
theorem RowsIn.pows {base g : Nat} {b A : Int} {pm : Option Addr} {K cp : Nat} {l : List (Option Addr × List Int)} {w w' : World} (h : RowsIn base b A (.slice pm K cp) l w) (hl : l.length = K) (hg : w.heap.size ≤ g) (hb : Below w.heap.size w w') (hA : A < Nm.pw 4096) : Pows g b pm K w' := by
  intro s hs
  have he : l[s]? = some l[s] := List.getElem?_eq_getElem (by omega)
  obtain ⟨h1, h2⟩ := h.row s _ he
  rcases h.own.2 with ⟨_, h0⟩ | ⟨gm, cp', cur, hv, _⟩
  · omega
  · simp only [Value.slice.injEq] at hv
    obtain ⟨rfl, hK, rfl⟩ := hv
    have hc := h.own.cells (g := gm) rfl s (rowV l[s]) (by rw [List.getElem?_map, he]; rfl)
    rw [Go.WideShapes.add_plain, Nat.zero_add] at hc
    have ht : Nm.tsize (l[s]).2 ≤ 4096 := (Nm.tsize_le_iff h1.2.1 4096).2 (by rw [h1.2.2.2.1]; exact Int.lt_of_le_of_lt h2 hA)
    refine ⟨gm, (l[s]).1, (l[s]).2, rfl, Nat.lt_of_lt_of_le (cell_lt hc) hg, ?_, ?_, h1.2.2.2.1, ht, fun a ha => Nat.lt_of_lt_of_le (h1.2.2.2.2 a ha).1 hg⟩
    · rw [hb.cell (p := ⟨gm, s, none⟩) (cell_lt hc)]
      exact hc
    · exact (h1.arg (by have := h1.2.2.1; omega)).below hb (Nat.le_refl _)

/-- On the way: the first t digits behind the zeros are letters. -/
def Lett (g J : Nat) (ds lt : List Int) (t : Nat) (w0 wr : World) : Prop :=
  ∃ es, OwnB wr g es ∧ es.length = ds.length ∧ (∀ i, i < t → es.getD (J + i) 0 = lt.getD (ds.getD (J + i) 0).toNat 0) ∧ (∀ i, t ≤ i → es.getD (J + i) 0 = ds.getD (J + i) 0) ∧ Only g w0 wr

theorem Lett.step {g J : Nat} {ds lt : List Int} {t : Nat} {w0 wr : World} (h : Lett g J ds lt t w0 wr) (ht : J + t < ds.length) {x : Int} (hx : x = lt.getD (ds.getD (J + t) 0).toNat 0) : Lett g J ds lt (t + 1) w0 (wr.setCell ⟨g, J + t, none⟩ (.int .u8 x)) := by
  obtain ⟨es, h1, h2, h3, h4, h5⟩ := h
  refine ⟨es.set (J + t) x, h1.set _ _, by simpa using h2, fun i hi => ?_, fun i hi => ?_, h5.trans (Only.set _ _)⟩
  · by_cases e : i = t
    · subst e
      simp [List.getD, show J + i < es.length by omega, hx]
    · have := h3 i (by omega)
      simpa [List.getD, List.getElem?_set, show ¬ t = i by omega] using this
  · have := h4 i (by omega)
    simpa [List.getD, List.getElem?_set, show ¬ t = i by omega] using this

theorem chain' {B : Nat} {a b c : World} (h : Below B a b) (k : Below B b c) : Below B a c := h.trans k

set_option maxRecDepth 100000 in
set_option maxHeartbeats 4000000 in
theorem written_any (p : Option Addr) (n cap : Nat) (za lt : List Int) (V B : Int) (ls : ByteArray) (w : World) (ha : Arg w p n cap za) (hV : Nm.val za = V) (ht : Nm.tsize za ≤ 4096) (h0 : 0 < V) (h2 : 2 ≤ B) (h36 : B ≤ 36) (hls : Str ls lt) (hlt : lt.length = 36) :
    Calls Tryz.prog 109 #[.slice p n cap, .int .u64 B, .string ls] w fun e w' => (∃ s L, e = .returned (.string s) ∧ V < B ^ L ∧ Str s (lets lt (Dn.strip (Dn.dg B L V)))) ∧ Below w.heap.size w w' := by
  have hAs : ShutN (V < Nm.pw 4096) := ⟨by rw [← hV]; exact (Nm.tsize_le_iff ha.2.2.2.2 4096).1 ht⟩
  have HV := hid hV
  have HA := hid ha
  have HT := hid ht
  have HS := hid hls
  have hsz : ls.size = 36 := by rw [hls.size, hlt]
  have GR := hid (group_any B w h2 h36)
  clear ha hV ht hls
  go_enter Tryz.func109, Tryz.ntmps109
  go_wp2_with fail
  refine GR.out.mono ?_
  rintro e w' ⟨⟨W, P, rfl, hP, hW1, hW63, hPl⟩, rfl⟩
  have hP2 : 2 ≤ P := by
    rw [hP, show W = W - 1 + 1 by omega, Int.pow_succ]
    have h1 : 1 ≤ B ^ (W - 1) := by have : 0 < B ^ (W - 1) := Int.pow_pos (by omega); omega
    have h3 := Int.mul_le_mul h1 h2 (by omega) (by omega)
    omega
  have HP := hid hP
  have FU := hid (fromUint_any P w' (by omega) hPl)
  have HPL := hid hPl
  clear GR hP hPl
  go_wp2_with fail
  refine FU.out.mono ?_
  rintro e w1 ⟨r1, os1, rfl, A1, d1⟩
  have SQ := hid (nsquares_any r1 p n cap os1 za P V _ w1 A1 hP2 HPL.out (HA.out.below d1 (Nat.le_refl _)) HV.out HT.out)
  have D1 := hid d1
  clear A1 d1 FU
  go_wp2_with fail
  refine SQ.out.mono ?_
  rintro e w2 ⟨mv, l, rfl, F2⟩
  obtain ⟨pm, cp, hmv, hcp⟩ : ∃ pm cp, mv = .slice pm l.length cp ∧ l.length ≤ cp := by
    rcases F2.out.1.own.2 with ⟨rfl, h0⟩ | ⟨gm, cp, cur, rfl, _, _, h1, _⟩
    · exact ⟨none, 0, by rw [h0], by omega⟩
    · exact ⟨_, cp, rfl, h1⟩
  subst hmv
  obtain ⟨K, HK⟩ : ∃ K, Hid (l.length = K) := ⟨_, rfl⟩
  have hK18 : (K : Int) ≤ 18 := by have := HK.out; have := F2.out.2.2.1; omega
  obtain ⟨L, HL⟩ : ∃ L, Hid (W * 2 ^ K = L) := ⟨_, rfl⟩
  have VL : ShutN (V < B ^ L) := ⟨by
    have h := F2.out.2.1
    rw [HP.out, HK.out, ← Int.pow_mul, HL.out] at h
    exact h⟩
  have D2 := hid (chain D1.out F2.out.2.2.2 (Nat.le_refl _))
  rw [HK.out] at F2 hcp
  rw [HK.out]
  have hL63 : L ≤ 63 * 262144 := by
    have h1 : 2 ^ K ≤ 2 ^ 18 := Nat.pow_le_pow_right (by omega) (by omega)
    have h2 := Nat.mul_le_mul hW63 h1
    have := HL.out
    omega
  have q1 : IntKind.i64.wrap ((W : Int) * 2 ^ K) = (L : Int) := by
    have e : (W : Int) * 2 ^ K = (L : Int) := by rw [← HL.out]; simp
    rw [e, IntKind.wrap_i64]
    omega
  have mk := make8 L (by omega) w2
  have bm : Below w2.heap.size w2 (w2.alloc (.cells (madeCells #[.int .u8 0] L) 5)) := (Below.refl _ _).alloc (Nat.le_refl _) _
  have ob : OwnB (w2.alloc (.cells (madeCells #[.int .u8 0] L) 5)) w2.heap.size (List.replicate L 0) := by rw [made_zero8]; exact OwnB.alloc w2 _
  obtain ⟨w3, hw3⟩ : ∃ w3, w2.alloc (.cells (madeCells #[.int .u8 0] L) 5) = w3 := ⟨_, rfl⟩
  rw [hw3] at mk bm ob
  have D3 := hid (chain D2.out bm (Nat.le_refl _))
  have hzl : 0 < za.length := by
    rcases Nat.eq_zero_or_pos za.length with c | c
    · have := HV.out
      rw [List.eq_nil_of_length_eq_zero c] at this
      simp [Nm.val] at this
      omega
    · exact c
  obtain ⟨g, HG⟩ : ∃ g, Hid (w2.heap.size = g) := ⟨_, rfl⟩
  rw [HG.out] at mk ob
  have PO := F2.out.1.pows HK.out (Nat.le_of_eq HG.out) bm hAs.out
  rw [HP.out] at PO
  have hwg : w'.heap.size ≤ g := by have := D2.out.size; have := HG.out; omega
  have SP := hid (spread_any B W g K cp pm h2 h36 hW1 hW63 (by rw [← HP.out]; exact HPL.out) (by omega) K (Nat.le_refl _) hcp 0 L L n cap p za (List.replicate L 0) V w3 HL.out.symm ob (by simp) (Nat.le_refl _) (by omega) (HA.out.below D3.out (Nat.le_refl _)) (fun a ha => by have := HA.out.2.2.2.1.lt hzl a ha; omega) HV.out VL.out HT.out PO)
  have HWG := hid hwg
  have HW63 := hid hL63
  clear PO bm ob hw3 hcp F2 SQ D1 D2 hwg hL63
  go_wp2_with fail
  refine SP.out.mono ?_
  rintro e w4 ⟨rfl, s4⟩
  obtain ⟨D, hD⟩ : ∃ D, Dn.dg B L V = D := ⟨_, rfl⟩
  have hDl : D.length = L := by rw [← hD]; exact Dn.dg_length B L V
  have O4 : Hid (OwnB w4 g D) := by
    have := s4.1
    rw [hD] at this
    simp only [put, List.take_zero, List.nil_append, hDl, Nat.zero_add, List.drop_replicate, Nat.sub_self, List.replicate_zero, List.append_nil] at this
    exact this
  have N4 := hid s4.2
  have hB0 : 0 < B := by omega
  have DM : Hid (∀ t, 0 ≤ D.getD t 0 ∧ D.getD t 0 < 36) := by
    intro t
    by_cases c : t < D.length
    · have e : D.getD t 0 = D[t] := by simp [List.getD, c]
      have := Dn.dg_mem hB0 L V (D[t]) (by rw [hD]; exact List.getElem_mem c)
      rw [e]
      omega
    · rw [show D.getD t 0 = 0 by simp [List.getD, List.getElem?_eq_none (show D.length ≤ t by omega)]]
      omega
  obtain ⟨J, hJ⟩ : ∃ J, Lead D J := Lead.ex (by
    rw [← hD]
    apply Dn.strip_ne (B := B)
    rw [Dn.tv_dg hB0 L V (by omega) VL.out]
    omega)
  have BT := hid (btrim_any g L J D w4 O4.out hDl hJ)
  have FIN : ShutN (∀ s, Str s (lets lt (D.drop J)) → ∃ s' L, Ending.returned (.string s) = .returned (.string s') ∧ V < B ^ L ∧ Str s' (lets lt (Dn.strip (Dn.dg B L V)))) :=
    ⟨fun s hs => ⟨s, L, rfl, VL.out, by rw [hD, hJ.strip]; exact hs⟩⟩
  have HDL := hid hDl
  have HJL : Hid (J < L) := by show _ < _; have := hJ.lt; omega
  have LE0 : Hid (Lett g J D lt 0 w4 w4) := ⟨D, O4.out, rfl, fun i hi => by omega, fun i _ => rfl, Only.refl _ _⟩
  clear s4 hD hDl hJ SP mk q1 VL O4
  go_wp2_with fail
  refine BT.out.mono ?_
  rintro e w5 ⟨rfl, rfl⟩
  obtain ⟨M, HM⟩ : ∃ M, Hid (L - J = M) := ⟨_, rfl⟩
  rw [HM.out]
  have hM : (M : Int) ≤ 16515072 := by have := HM.out; have := HW63.out; omega
  clear BT
  go_wp2_with fail
  go_loopw [11, 12, 36] (fun _ _ t wr => ∃ j : Nat, t = .int .i64 (j : Int) ∧ j ≤ M ∧ Hid (Lett g J D lt j w5 wr)) (fun _ _ t _ => M - (intOf t).toNat)
  case atStart => exact ⟨0, rfl, Nat.zero_le _, LE0.out⟩
  case round =>
    clear LE0
    obtain ⟨j, rfl, hj, I⟩ := hrel
    by_cases hlt : j < M
    · have hji : (j : Int) < (M : Int) := by omega
      have hJj : J + j < D.length := by have := HDL.out; have := HM.out; omega
      obtain ⟨es, i1, i2, i3, i4, i5⟩ := I.out
      obtain ⟨d, hd, X⟩ : ∃ d, wr.cell? ⟨g, J + j, none⟩ = some (.int .u8 d) ∧ Hid (d = D.getD (J + j) 0) := ⟨_, i1.cell (J + j) (by omega), i4 j (Nat.le_refl _)⟩
      have hfr := i1.free (J + j)
      have hd0 : 0 ≤ d := by rw [X.out]; exact (DM.out _).1
      have hd1 : d < 36 := by rw [X.out]; exact (DM.out _).2
      have ST : Hid (∀ x, x = lt.getD d.toNat 0 → Lett g J D lt (j + 1) w5 (wr.setCell ⟨g, J + j, none⟩ (.int .u8 x))) := fun x hx => I.out.step hJj (by rw [hx, X.out])
      clear i1 i2 i3 i4 i5 I hJj
      go_wp2_with fail
      go_roundw
      case rel => exact ⟨j + 1, by go_num, by omega, ST.out _ (HS.out.at _ _)⟩
      case measure => simp [intOf]; omega
    · obtain rfl : j = M := by omega
      obtain ⟨es, i1, i2, i3, i4, i5⟩ := I.out
      have hxl : (lets lt (D.drop J)).length = j := by simp [lets]; have := HDL.out; have := HM.out; omega
      have CV := run_convert_bytes_arg (P := Tryz.prog) wr 38 5 Tryz.underlying38 Tryz.underlying5 g J j j (lets lt (D.drop J)) hxl (fun i hi => by
        rw [i1.cell (J + i) (by have := HDL.out; have := HM.out; omega), i3 i hi]
        simp [lets, List.getD, List.getElem?_eq_getElem (show J + i < D.length by have := HDL.out; have := HM.out; omega)]) 9 Tryz.underlying9
      have FS := FIN.out _ (Str.of_nums (xs := lets lt (D.drop J)) (fun x hx => by
        obtain ⟨d, _, rfl⟩ := List.mem_map.1 hx
        exact HS.out.atb _))
      have D6 : Hid (Below w'.heap.size w' wr) := chain' D3.out ((N4.out.trans i5).below HWG.out D3.out.size)
      have HFS := hid FS
      clear i1 i2 i3 i4 i5 I hxl FS
      go_wp2_with fail
      go_ret
      exact ⟨HFS.out, D6.out⟩
end Go.Proofs.YtjkefcikepnbpaaGreatDoor

namespace Go.Proofs.YtjkefcikepnbpaaGreatDoor
open Go.RowKit Go.Deep

def smallL : List Int := [48, 49, 50, 51, 52, 53, 54, 55, 56, 57, 97, 98, 99, 100, 101, 102, 103, 104, 105, 106, 107, 108, 109, 110, 111, 112, 113, 114, 115, 116, 117, 118, 119, 120, 121, 122]
def capL : List Int := [48, 49, 50, 51, 52, 53, 54, 55, 56, 57, 65, 66, 67, 68, 69, 70, 71, 72, 73, 74, 75, 76, 77, 78, 79, 80, 81, 82, 83, 84, 85, 86, 87, 88, 89, 90]
def lettersOf (up : Bool) : List Int := if up then capL else smallL

/-- What InBase tells. -/
inductive InIs (zs : List Int) (B : Int) (up : Bool) : List Int → Int → Prop
  | big : 4096 < Nm.tsize zs → InIs zs B up [] 2
  | base : Nm.tsize zs ≤ 4096 → (B < 2 ∨ 36 < B) → InIs zs B up [] 32
  | zero : Nm.tsize zs = 0 → 2 ≤ B → B ≤ 36 → InIs zs B up [48] 0
  | ok (L : Nat) : 0 < Nm.tsize zs → Nm.tsize zs ≤ 4096 → 2 ≤ B → B ≤ 36 → Nm.val zs < B ^ L → InIs zs B up (lets (lettersOf up) (Dn.strip (Dn.dg B L (Nm.val zs)))) 0

theorem blen_big {zs : List Int} (hl : Nm.Limbs zs) : ∃ L : Nat, blen zs = (L : Int) ∧ (262144 < (L : Int) ↔ 4096 < Nm.tsize zs) ∧ ((L : Int) = 0 ↔ Nm.tsize zs = 0) := by
  obtain ⟨L, l1, l2, l3, l4⟩ := blen_is zs hl
  refine ⟨L, l1, ?_, ?_⟩
  · by_cases h : 0 < Nm.tsize zs
    · have := l4 h
      omega
    · omega
  · by_cases h : 0 < Nm.tsize zs
    · have := l4 h
      omega
    · omega

set_option maxRecDepth 100000 in
set_option maxHeartbeats 4000000 in
theorem inBase_any (p : Option Addr) (n cap : Nat) (za : List Int) (B : Int) (up : Bool) (w : World) (ha : Arg w p n cap za) (hB0 : -9223372036854775808 ≤ B) (hB1 : B ≤ 9223372036854775807) :
    Calls Tryz.prog 79 #[.slice p n cap, .int .i64 B, .bool up] w fun e w' => ∃ s xs E, e = .returned (.tuple #[.string s, .int .i64 E]) ∧ Str s xs ∧ InIs za B up xs E ∧ Below w.heap.size w w' := by
  obtain ⟨L, hL, hbig, hzero⟩ := blen_big ha.2.2.2.2
  have BL := hid (bitLen_isT L p n cap za w ha hL)
  have Z : Hid (Str ⟨#[]⟩ []) := rfl
  by_cases h1 : 4096 < Nm.tsize za
  · have hLi : (262144 : Int) < (L : Int) := hbig.2 h1
    have F : Hid (InIs za B up [] 2) := .big h1
    clear ha hL hbig hzero h1
    go_enter Tryz.func79, Tryz.ntmps79
    go_wp2_with fail
    refine BL.out.mono ?_
    rintro e w' ⟨rfl, rfl⟩
    go_wp2_with fail
    go_ret2
    exact ⟨_, _, _, rfl, Z.out, F.out, Below.refl _ _⟩
  have hLi : (L : Int) ≤ 262144 := by have := hbig.1; omega
  by_cases h2 : B < 2 ∨ 36 < B
  · have F : Hid (InIs za B up [] 32) := .base (by omega) h2
    clear ha hL hbig hzero h1
    rcases h2 with h2 | h2
    · go_enter Tryz.func79, Tryz.ntmps79
      go_wp2_with fail
      refine BL.out.mono ?_
      rintro e w' ⟨rfl, rfl⟩
      go_wp2_with fail
      go_ret2
      exact ⟨_, _, _, rfl, Z.out, F.out, Below.refl _ _⟩
    · go_enter Tryz.func79, Tryz.ntmps79
      go_wp2_with fail
      refine BL.out.mono ?_
      rintro e w' ⟨rfl, rfl⟩
      go_wp2_with fail
      go_ret2
      exact ⟨_, _, _, rfl, Z.out, F.out, Below.refl _ _⟩
  have h3 : 2 ≤ B := by omega
  have h4 : B ≤ 36 := by omega
  by_cases h5 : Nm.tsize za = 0
  · have F : Hid (InIs za B up [48] 0) := .zero h5 h3 h4
    have Z2 : Hid (Str ⟨#[48]⟩ [48]) := rfl
    have hL0 : (L : Int) = 0 := hzero.2 h5
    obtain rfl : L = 0 := by omega
    clear ha hL hbig hzero h1 h2 h5
    go_enter Tryz.func79, Tryz.ntmps79
    go_wp2_with fail
    refine BL.out.mono ?_
    rintro e w' ⟨rfl, rfl⟩
    go_wp2_with fail
    refine BL.out.mono ?_
    rintro e w' ⟨rfl, rfl⟩
    go_wp2_with fail
    go_ret2
    exact ⟨_, _, _, rfl, Z2.out, F.out, Below.refl _ _⟩
  · have hL0 : ((L : Int) == 0) = false := by rw [beq_eq_false_iff_ne]; intro c; exact h5 (hzero.1 c)
    have hv : 0 < Nm.val za := by
      have e1 := Nm.tsize_zero_iff ha.2.2.2.2
      have e2 := (Nm.val_bd za ha.2.2.2.2).1
      omega
    have F : Hid (∀ s L, Nm.val za < B ^ L → Str s (lets (lettersOf up) (Dn.strip (Dn.dg B L (Nm.val za)))) → ∃ s' xs E, Ending.returned (.tuple #[.string s, .int .i64 0]) = .returned (.tuple #[.string s', .int .i64 E]) ∧ Str s' xs ∧ InIs za B up xs E) := fun s L hl hs => ⟨s, _, 0, rfl, hs, .ok L (by omega) (by omega) h3 h4 hl⟩
    have WR : Hid (∀ ls, Str ls (lettersOf up) → Calls Tryz.prog 109 #[.slice p n cap, .int .u64 B, .string ls] w fun e w' => (∃ s L, e = .returned (.string s) ∧ Nm.val za < B ^ L ∧ Str s (lets (lettersOf up) (Dn.strip (Dn.dg B L (Nm.val za))))) ∧ Below w.heap.size w w') :=
      fun ls hls => written_any p n cap za (lettersOf up) _ B ls w ha rfl (by omega) hv h3 h4 hls (by cases up <;> rfl)
    clear ha hL hbig hzero h1 h2 h5 hv
    cases up with
    | true =>
      have W2 := hid (WR.out ⟨#[48, 49, 50, 51, 52, 53, 54, 55, 56, 57, 65, 66, 67, 68, 69, 70, 71, 72, 73, 74, 75, 76, 77, 78, 79, 80, 81, 82, 83, 84, 85, 86, 87, 88, 89, 90]⟩ rfl)
      go_enter Tryz.func79, Tryz.ntmps79
      go_wp2_with fail
      refine BL.out.mono ?_
      rintro e w' ⟨rfl, rfl⟩
      go_wp2_with fail
      refine BL.out.mono ?_
      rintro e w' ⟨rfl, rfl⟩
      go_wp2_with fail
      refine W2.out.mono ?_
      rintro e w1 ⟨⟨s, M, rfl, hM, hs⟩, d1⟩
      have G := hid (F.out s M hM hs)
      have D := hid d1
      clear hM hs d1
      go_wp2_with fail
      go_ret2
      obtain ⟨s', xs, E, k1, k2, k3⟩ := G.out
      exact ⟨s', xs, E, k1, k2, k3, D.out⟩
    | false =>
      have W2 := hid (WR.out ⟨#[48, 49, 50, 51, 52, 53, 54, 55, 56, 57, 97, 98, 99, 100, 101, 102, 103, 104, 105, 106, 107, 108, 109, 110, 111, 112, 113, 114, 115, 116, 117, 118, 119, 120, 121, 122]⟩ rfl)
      go_enter Tryz.func79, Tryz.ntmps79
      go_wp2_with fail
      refine BL.out.mono ?_
      rintro e w' ⟨rfl, rfl⟩
      go_wp2_with fail
      refine BL.out.mono ?_
      rintro e w' ⟨rfl, rfl⟩
      go_wp2_with fail
      refine W2.out.mono ?_
      rintro e w1 ⟨⟨s, M, rfl, hM, hs⟩, d1⟩
      have G := hid (F.out s M hM hs)
      have D := hid d1
      clear hM hs d1
      go_wp2_with fail
      go_ret2
      obtain ⟨s', xs, E, k1, k2, k3⟩ := G.out
      exact ⟨s', xs, E, k1, k2, k3, D.out⟩
end Go.Proofs.YtjkefcikepnbpaaGreatDoor
