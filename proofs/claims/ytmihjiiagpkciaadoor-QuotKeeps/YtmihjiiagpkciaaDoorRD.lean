/-
  Texts put together: QRef5, QRef6A, QTimes, QTimes2, QPow, QPowG.
-/
import Derived.Test.YtmihjiiagpkciaaDoorRC
import Derived.Test.YtmihjiiagpkciaaDoorQDivOk
import Derived.OwnWalk
import Derived.Deep.LoopGhost
import Derived.Test.YtmihjiiagpkciaaDoorRB
import Derived.BigRegion
import Derived.Test.YtmihjiiagpkciaaDoorNums
import Derived.Test.YtmihjiiagpkciaaDoorQLimbs
import Derived.Test.YtmihjiiagpkciaaDoorFromW
import Derived.Test.YtmihjiiagpkciaaDoorTrimW
import Derived.Test.YtmihjiiagpkciaaDoorBlenIs
namespace Go.Proofs.YtmihjiiagpkciaaDoor
open Go.RowKit Go.Deep

/-- An own block of a trimmed list, as an answer. -/
theorem Own.ans {B g : Nat} {w : World} {zs : List Int} (h : Own w g (Nm.trim zs)) (hz : Nm.Limbs zs) (hB : B ≤ g) : Ans B w (some ⟨g, 0, none⟩) (Nm.trim zs) (Nm.val zs) :=
  ⟨h.lies, hz.trim, by rw [Nm.trim_trim, Nm.trim_length], Nm.val_trim zs, fun a ha => by cases ha; exact ⟨hB, fun _ o => h.free o⟩⟩

/-- Quotient and rest, as the reference tells them. -/
def Parts (A B : Int) (w : World) (e : Ending) (w' : World) : Prop :=
  ∃ r1 os r2 rs, e = .returned (.tuple #[.slice r1 (List.length os) (List.length os), .slice r2 (List.length rs) (List.length rs)]) ∧ Ans w.heap.size w' r1 os (A / B) ∧ Ans w.heap.size w' r2 rs (A % B) ∧ Below w.heap.size w w'

/-- What the list of the divisors moved up is, behind its making: all of it below block g. -/
structure Moved (Y : Nat) (b : Int) (gm g : Nat) (w : World) : Prop where
  at' : ∀ s, s < 64 → ∃ gs cs ms, w.cell? ⟨gm, s, none⟩ = some (.slice (some ⟨gs, 0, none⟩) (Y + 1) cs) ∧ Lies w (some ⟨gs, 0, none⟩) ms ∧ ms.length = Y + 1 ∧ Nm.Limbs ms ∧ Nm.val ms = b * 2 ^ s ∧ gs < g
  lt : gm < g

theorem Moved.lift {Y : Nat} {b : Int} {gm g g' : Nat} {w w' : World} (h : Moved Y b gm g w) (hb : Below g w w') (hg : g ≤ g') : Moved Y b gm g' w' := by
  refine ⟨fun s hs => ?_, by have := h.lt; omega⟩
  obtain ⟨gs, cs, ms, h1, h2, h3, h4, h5, h6⟩ := h.at' s hs
  exact ⟨gs, cs, ms, by rw [hb.cell (p := ⟨gm, s, none⟩) h.lt]; exact h1, h2.low hb (fun a ha => by cases ha; exact h6), h3, h4, h5, by omega⟩

/-- Of the headers' list, when all 64 are in. -/
theorem moved_of {base Y : Nat} {b : Int} {mv : Value} {l : List (Nat × Nat)} {w : World} (hb0 : 0 ≤ b) (hb : b < Nm.pw Y) (hl : l.length = 64) (ho : w.ownsRow base 24 1 mv 64 (l.map (hdr Y))) (hm : ∀ t e, l[t]? = some e → Mv Y (b * 2 ^ t) w e.1) :
    ∃ gm cp, mv = .slice (some ⟨gm, 0, none⟩) 64 cp ∧ Moved Y b gm w.heap.size w := by
  rcases ho.2 with ⟨_, h⟩ | ⟨gm, cp, cur, rfl, _, hcur, _, _, _, _⟩
  · omega
  · refine ⟨gm, cp, rfl, fun s hs => ?_, ?_⟩
    · have hs' : s < l.length := by omega
      have he : l[s]? = some l[s] := List.getElem?_eq_getElem hs'
      obtain ⟨ms, m1, m2, m3, m4⟩ := (hm s _ he).lies (qtwo_lt hb hb0 (by omega))
      refine ⟨(l[s]).1, (l[s]).2, ms, ?_, m1, m2, m3, m4, (hm s _ he).lt⟩
      have := ho.cells (g := gm) rfl s (hdr Y l[s]) (by rw [List.getElem?_map, he]; rfl)
      rw [Go.WideShapes.add_plain, Nat.zero_add] at this
      exact this
    · rcases Nat.lt_or_ge gm w.heap.size with h | h
      · exact h
      · rw [Array.getElem?_eq_none h] at hcur
        exact absurd hcur (by simp)

theorem part_take {rs : List Int} {R t M : Nat} (h : t + M ≤ R) : Qd.part (rs.take R) t M = Qd.part rs t M := by
  rw [Qd.part, Qd.part, List.drop_take, List.take_take, Nat.min_eq_left (by omega)]

/-- What holds tells, of the whole. -/
theorem holds_iff {rs : List Int} (hr : Nm.Limbs rs) {t M : Nat} (hl : t + M ≤ rs.length) (hv : Nm.val rs < Nm.pw (t + M)) (V : Int) : V ≤ Nm.val (Qd.part rs t M) ↔ Nm.pw t * V ≤ Nm.val rs := by
  have h1 := Qd.part_val hr hl hv
  have h2 := Nm.val_bd _ (hr.take t)
  rw [List.length_take, Nat.min_eq_left (by omega)] at h2
  have hp := Nm.pw_pos t
  constructor
  · intro h
    have := Int.mul_le_mul_of_nonneg_left h (show 0 ≤ Nm.pw t by omega)
    omega
  · intro h
    rcases (show V ≤ Nm.val (Qd.part rs t M) ∨ Nm.val (Qd.part rs t M) + 1 ≤ V by omega) with c | c
    · exact c
    · exfalso
      have := Int.mul_le_mul_of_nonneg_left c (show 0 ≤ Nm.pw t by omega)
      rw [Int.mul_add, Int.mul_one] at this
      omega

theorem InI.room {w : World} {g g2 C K : Nat} {A b : Int} {t k Y : Nat} {os rs : List Int} {wr : World} (h : InI w g g2 C K A b t k os rs wr) (hk : k ≤ 64) (hb : b < Nm.pw Y) (hb0 : 0 ≤ b) : Nm.val rs < Nm.pw (t + (Y + 1)) := by
  have h1 := h.lt
  have h2 := qtwo_lt hb hb0 hk
  have h3 : Nm.pw t * (b * 2 ^ k) ≤ Nm.pw t * Nm.pw (Y + 1) := Int.mul_le_mul_of_nonneg_left (by omega) (by have := Nm.pw_pos t; omega)
  rw [← Nm.pw_add] at h3
  omega

theorem holds_is (s : Bool) (p q : Option Addr) (R cap M cap' j : Nat) (rs ms : List Int) (ji : Int) (w : World) (hr : rs.length = R) (hR : R ≤ 17592186044000) (hm : ms.length = M) (hM : 0 < M) (hjM : j + M ≤ R) (h1 : Lies w p rs) (h2 : Lies w q ms) (hlr : Nm.Limbs rs) (hlm : Nm.Limbs ms) (hji : ji = (j : Int)) (hs : decide (Nm.val ms ≤ Nm.val (Qd.part rs j M)) = s) :
    Calls Tryd.prog 52 #[.slice p R cap, .int .i64 ji, .slice q M cap'] w fun e w' => e = .returned (.bool s) ∧ Below w.heap.size w w' := by
  rw [← hs]
  exact holds_any p q R cap M cap' j rs ms ji w hr hR hm hM hjM h1 h2 hlr hlm hji

set_option maxRecDepth 100000 in
set_option maxHeartbeats 4000000 in
theorem refDivide_any (p q : Option Addr) (n cap m cap' : Nat) (za zb : List Int) (w : World) (ha : Arg w p n cap za) (hb : Arg w q m cap' zb) (tz : Nm.tsize za ≤ 4096) (ty : Nm.tsize zb ≤ 4096) (hy : 0 < Nm.tsize zb) :
    Calls Tryd.prog 30 #[.slice p n cap, .slice q m cap'] w fun e w' => Parts (Nm.val za) (Nm.val zb) w e w' := by
  obtain ⟨N, hN⟩ : ∃ N, Nm.tsize za = N := ⟨_, rfl⟩
  obtain ⟨Y, hY⟩ : ∃ Y, Nm.tsize zb = Y := ⟨_, rfl⟩
  have ha1 := ha.2.1
  have ha2 := ha.2.2.1
  have hb1 := hb.2.1
  have hb2 := hb.2.2.1
  have S1 := short_any p n cap za N w ha.1 (by omega) ha.2.2.2.1 hN
  have b0 := (Nm.val_bd zb hb.2.2.2.2).1
  have a0 := (Nm.val_bd za ha.2.2.2.2).1
  have bY := Nm.val_lt_tsize hb.2.2.2.2
  rw [hY] at bY
  have HN := hid hN
  have HYY := hid hY
  have HA := hid ha
  have HB := hid hb
  have HS1 := hid S1
  have hN4 : N ≤ 4096 := by omega
  have hY4 : Y ≤ 4096 := by omega
  have hY0 : 0 < Y := by omega
  have RM : Hid (∀ K, N + 1 = K + Y → Nm.val za < Nm.pw K * Nm.val zb) := fun K hK => first_room ha.2.2.2.2 hb.2.2.2.2 hN hY hY0 hK
  have NM : Hid (N < Y → Nm.val za < Nm.val zb) := fun h => val_lt_of_tsize ha.2.2.2.2 hb.2.2.2.2 (by omega)
  obtain ⟨A, hAv⟩ : ∃ A, Nm.val za = A := ⟨_, rfl⟩
  obtain ⟨b, hbv⟩ : ∃ b, Nm.val zb = b := ⟨_, rfl⟩
  have HVA := hid hAv
  have HVB := hid hbv
  rw [hAv, hbv] at RM NM
  rw [hAv] at a0
  rw [hbv] at b0 bY
  rw [hAv, hbv]
  have HbY := hid bY
  clear ha hb tz ty hy S1 bY hN hY hAv hbv
  go_enter Tryd.func30, Tryd.ntmps30
  go_wp2_with fail
  refine HS1.out.mono ?_
  rintro e w1 ⟨rfl, o1, d1⟩
  have O1 := hid o1
  have D1 := hid d1
  clear o1 d1 HS1
  go_wp2_with fail
  refine (short_any q m cap' zb Y _ HB.out.1 (by omega) (HB.out.2.2.2.1.below D1.out (Nat.le_refl _)) HYY.out).mono ?_
  rintro e w2 ⟨rfl, o2, d2⟩
  have O1' := hid (O1.out.below d2 O1.out.lt)
  have O2 := hid o2
  have D2 := hid (chain D1.out d2 (Nat.le_refl _))
  have hw1 : w.heap.size ≤ w1.heap.size := D1.out.size
  clear o2 d2 O1 D1
  have A1 : Hid (Arg w2 (some ⟨w.heap.size, 0, none⟩) N N (Nm.trim za)) := ⟨(Nm.trim_length za).trans HN.out, Nat.le_refl _, by omega, O1'.out.lies, HA.out.2.2.2.2.trim⟩
  have A2 : Hid (Arg w2 (some ⟨w1.heap.size, 0, none⟩) Y Y (Nm.trim zb)) := ⟨(Nm.trim_length zb).trans HYY.out, Nat.le_refl _, by omega, O2.out.lies, HB.out.2.2.2.2.trim⟩
  by_cases hlt : A < b
  · have HLT := hid hlt
    clear hlt
    go_wp2_with fail
    refine (order_is (-1) _ _ N N Y Y (Nm.trim za) (Nm.trim zb) _ A1.out A2.out (cmpI_lt (by rw [Nm.val_trim, Nm.val_trim, HVA.out, HVB.out]; exact HLT.out))).mono ?_
    rintro e w3 ⟨rfl, d3⟩
    have F : Hid (Parts A b w (.returned (.tuple #[.slice none 0 0, .slice (some ⟨w.heap.size, 0, none⟩) N N])) w3) := by
      have hd := div_is (A := A) (B := b) (q := 0) (r := A) a0 HLT.out (by omega)
      have hl : (Nm.trim za).length = N := (Nm.trim_length za).trans HN.out
      refine ⟨none, [], some ⟨w.heap.size, 0, none⟩, Nm.trim za, by rw [hl]; rfl, ?_, ?_, chain D2.out d3 (Nat.le_refl _)⟩
      · rw [hd.1]; exact ans_none _ _ _ (fun a h => by cases h)
      · rw [hd.2, ← HVA.out]; exact (O1'.out.below d3 O1'.out.lt).ans HA.out.2.2.2.2 (Nat.le_refl _)
    clear d3
    go_wp2_with fail
    go_ret2
    exact F.out
  · obtain ⟨c, hc0, HC⟩ : ∃ c : Int, 0 ≤ c ∧ Hid (cmpI A b = c) := by
      rcases (show A = b ∨ b < A by omega) with h | h
      · exact ⟨0, by omega, cmpI_eq h⟩
      · exact ⟨1, by omega, cmpI_gt h⟩
    have hNY : Y ≤ N := by
      rcases Nat.lt_or_ge N Y with h | h
      · exact absurd (NM.out h) hlt
      · exact h
    clear hlt NM
    go_wp2_with fail
    refine (order_is c _ _ N N Y Y (Nm.trim za) (Nm.trim zb) _ A1.out A2.out (by rw [Nm.val_trim, Nm.val_trim, HVA.out, HVB.out]; exact HC.out)).mono ?_
    rintro e w3 ⟨rfl, d3⟩
    have D3 := hid (chain D2.out d3 (Nat.le_refl _))
    have HB3 := hid (HB.out.below D3.out (Nat.le_refl _))
    clear d3 O1' O2 A1 A2 D2
    go_wp2_with fail
    refine (short_any q m cap' zb Y _ HB3.out.1 (by omega) HB3.out.2.2.2.1 HYY.out).mono ?_
    rintro e w4 ⟨rfl, o4, d4⟩
    obtain ⟨c4, w5, ap, hc5, o5, d5⟩ := grow64 w3.heap.size Y (Nm.trim zb) 0 w4 ((Nm.trim_length zb).trans HYY.out) (by omega) o4
    have AP := hid ap
    have D5 := hid (chain (chain D3.out d4 (Nat.le_refl _)) d5 (Nat.le_refl _))
    have M5 : Hid (Mv Y (b * 2 ^ 0) w5 (w4.heap.size + 1)) := by
      refine ⟨_, o5, by simp [Nm.trim_length, HYY.out], ?_, ?_⟩
      · exact ((HB.out.2.2.2.2.trim).append (limb_one (by omega))).append (Nm.Limbs.replicate _)
      · rw [Nm.val_append, Nm.val_append, Nm.val_replicate, Nm.val_trim, HVB.out]
        simp [Nm.val]
    have hs5 := D5.out.size
    clear ap o4 d4 o5 d5 D3 HB3
    go_wp2_with (at_builtin; refine wpList_append_q rfl _ _ rfl AP.out (by rfl) (by rfl) ?_; clear AP)
    go_loopw [8, 9, 10] (fun a c i wr => ∃ (k : Nat) (mv : Value) (l : List (Nat × Nat)) (gm cm : Nat), k ≤ 64 ∧ i = .int .i64 k ∧ a = mv ∧ c = .slice (some ⟨gm, 0, none⟩) (Y + 1) cm ∧ Hid (Y + 1 ≤ cm) ∧ Hid (l.length = k ∧ wr.ownsRow w.heap.size 24 1 mv k (l.map (hdr Y)) ∧ (∀ t e, l[t]? = some e → Mv Y (b * 2 ^ t) wr e.1) ∧ Mv Y (b * 2 ^ k) wr gm ∧ Below w.heap.size w wr)) (fun _ _ i _ => 64 - (intOf i).toNat)
    case atStart => exact ⟨0, .slice none 0 0, [], w4.heap.size + 1, c4, by omega, rfl, rfl, rfl, hc5, rfl, World.ownsRow_nil _ _ _ _, fun t e h => by simp at h, M5.out, D5.out⟩
    case round =>
      clear M5 D5 hs5
      obtain ⟨k, mv, l, gm, cm, hk, rfl, hmv, rfl, HCM, I⟩ := hrel
      have hmv := hmv.symm
      subst hmv
      by_cases hk64 : k < 64
      · obtain ⟨i1, i2, i3, i4, i5⟩ := I.out
        obtain ⟨mv', w6, ap, j1, j2, j3, j4⟩ := pushHdr w.heap.size Y k mv l (gm, cm) wr i1 (by omega) i5.size i2
        have AP : Hid ((Builtin.append_ #[27, 27] 27 #[mv, .slice (some ⟨wr.heap.size, 0, none⟩) 1 1]).run Tryd.prog (wr.alloc (.cells #[.slice (some ⟨gm, 0, none⟩) (Y + 1) cm] 24)) = .ok mv' w6) := ap
        obtain ⟨ms, m1, m2, m3, m4⟩ := (j3 _ _ i4).lies (qtwo_lt HbY.out b0 (by omega))
        have J1 := hid j1
        have J2 := hid (i5.trans j2)
        have J3 : Hid ((∀ t e, (l ++ [(gm, cm)])[t]? = some e → Mv Y (b * 2 ^ t) w6 e.1) ∧ (l ++ [(gm, cm)]).length = k + 1) := by
          refine ⟨fun t e h => ?_, by simp [i1]⟩
          by_cases ht : t < l.length
          · rw [List.getElem?_append_left ht] at h
            exact j3 _ _ (i3 t e h)
          · have hlt := (List.getElem?_eq_some_iff.1 h).1
            simp only [List.length_append, List.length_cons, List.length_nil] at hlt
            have ht2 : t = k := by omega
            subst ht2
            rw [List.getElem?_append_right (by omega), i1, Nat.sub_self] at h
            simp at h
            subst h
            exact j3 _ _ i4
        have DB := hid (doubled_any (some ⟨gm, 0, none⟩) (Y + 1) cm ms 0 w6 m2 (by omega) m1 m3 (by omega) (by omega))
        have M4 := hid m4
        clear ap i1 i2 i3 i4 i5 j1 j2 j3 j4 m1 m2 m3 m4 I
        go_wp2_with (at_builtin; refine wpList_append_q rfl _ _ rfl AP.out (by rfl) (by rfl) ?_; clear AP)
        refine DB.out.mono ?_
        rintro e w7 ⟨os, rfl, K⟩
        have KK : Hid ((l ++ [(gm, cm)]).length = k + 1 ∧ w7.ownsRow w.heap.size 24 1 mv' (k + 1) ((l ++ [(gm, cm)]).map (hdr Y)) ∧ (∀ t e, (l ++ [(gm, cm)])[t]? = some e → Mv Y (b * 2 ^ t) w7 e.1) ∧ Mv Y (b * 2 ^ (k + 1)) w7 w6.heap.size ∧ Below w.heap.size w w7) := by
          obtain ⟨k1, k2, k3, k4, k5⟩ := K.out
          refine ⟨J3.out.2, ?_, fun t e h => (J3.out.1 t e h).below k5, ⟨os, k1, by omega, k3, ?_⟩, chain J2.out k5 (Nat.le_refl _)⟩
          · exact J1.out.kept (row := none) ⟨k5.os, k5.tape, k5.output, k5.size, fun j hj _ => k5.block j hj⟩ (by cases h : Value.ownBlock mv' <;> simp)
          · rw [k4, M4.out, Nm.two_succ, Int.mul_left_comm]; omega
        clear K DB J1 J2 J3 M4
        go_wp2_with fail
        go_roundw
        case rel => exact ⟨k + 1, mv', l ++ [(gm, cm)], w6.heap.size, Y + 1 + 1, by omega, by go_num, rfl, rfl, by show _ ≤ _; omega, KK.out⟩
        case measure => simp [intOf]; omega
      · have hk2 : k = 64 := by omega
        subst hk2
        obtain ⟨i1, i2, i3, i4, i5⟩ := I.out
        obtain ⟨gv, cv, rfl, MV⟩ := moved_of b0 HbY.out i1 i2 i3
        have HMV := hid MV
        have D6 := hid i5
        have HA6 := hid (HA.out.below i5 (Nat.le_refl _))
        clear MV i1 i2 i3 i4 i5 I
        go_wp2_with fail
        refine (short_any p n cap za N _ HA6.out.1 (by omega) HA6.out.2.2.2.1 HN.out).mono ?_
        rintro e w7 ⟨rfl, o7, d7⟩
        obtain ⟨C, w8, ap, hc8, o8, d8⟩ := grow64 wr.heap.size N (Nm.trim za) 0 w7 ((Nm.trim_length za).trans HN.out) (by omega) o7
        have AP := hid ap
        have D8 := hid (chain d7 d8 (Nat.le_refl _))
        obtain ⟨J, HJ⟩ : ∃ J, Hid (J = N - Y) := ⟨_, rfl⟩
        have hJ : J ≤ 4096 := by rw [HJ.out]; omega
        have r1 : (N : Int) - (Y : Int) = (J : Int) := by rw [HJ.out]; omega
        have hmk := make64 (J + 1) (by omega) w8
        have em : ((J + 1 : Nat) : Int) = (J : Int) + 1 := by omega
        rw [em] at hmk
        clear em
        have hb9 : Below w8.heap.size w8 (w8.alloc (.cells (madeCells #[.int .u64 0] (J + 1)) 26)) := (Below.refl _ _).alloc (Nat.le_refl _) _
        have ho9 : Own (w8.alloc (.cells (madeCells #[.int .u64 0] (J + 1)) 26)) w8.heap.size (List.replicate (J + 1) 0) := by
          rw [made_zero]; exact Own.alloc w8 _
        obtain ⟨W0, hW0⟩ : ∃ W0, w8.alloc (.cells (madeCells #[.int .u64 0] (J + 1)) 26) = W0 := ⟨_, rfl⟩
        rw [hW0] at hmk hb9 ho9
        clear hW0
        have hg : w7.heap.size + 1 < w8.heap.size := o8.lt
        have d78 := chain d7 d8 (Nat.le_refl _)
        have HM8 := hid (HMV.out.lift d78 (show wr.heap.size ≤ w7.heap.size + 1 by have := d7.size; omega))
        have I0 : Hid (DivI w8 (w7.heap.size + 1) w8.heap.size C (J + 1) A b (J + 1) (List.replicate (J + 1) 0) (Nm.trim za ++ [0] ++ List.replicate (C - (N + 1)) 0) W0) := by
          have ev : Nm.val (Nm.trim za ++ [0] ++ List.replicate (C - (N + 1)) 0) = A := by
            rw [Nm.val_append, Nm.val_append, Nm.val_replicate, Nm.val_trim, HVA.out]
            simp [Nm.val]
          refine ⟨o8.below hb9 o8.lt, by simp [Nm.trim_length, HN.out]; omega, ((HA.out.2.2.2.2.trim).append (limb_one (by omega))).append (Nm.Limbs.replicate _), ho9, by simp, Nm.Limbs.replicate _, fun i _ => getD_replicate _ _, ?_, ?_, hb9.mono (Nat.le_of_lt hg)⟩
          · rw [Nm.val_replicate, ev]; omega
          · rw [ev]; exact RM.out (J + 1) (by rw [HJ.out]; omega)
        have D8 := hid (chain D6.out d78 (Nat.le_refl _))
        obtain ⟨g, hge⟩ : ∃ g, w7.heap.size + 1 = g := ⟨_, rfl⟩
        obtain ⟨gq, hgq⟩ : ∃ gq, w8.heap.size = gq := ⟨_, rfl⟩
        rw [hge] at I0 HM8 hg AP
        rw [hgq] at I0 hg hmk
        have hbase : Hid (w.heap.size ≤ g) := by
          show _ ≤ _
          have := D6.out.size
          have := d7.size
          omega
        clear ap o7 d7 o8 d8 d78 hb9 ho9 HMV HA6 hge hgq
        go_wp2_with (at_builtin; refine wpList_append_q rfl _ _ rfl AP.out (by rfl) (by rfl) ?_; clear AP)
        go_loopg [13] (J + 1) (fun j i wx => ∃ (os rs : List Int), j ≤ J + 1 ∧ i = .int .i64 ((j : Int) - 1) ∧ Hid (DivI w8 g gq C (J + 1) A b j os rs wx))
        case atStart => exact ⟨_, _, Nat.le_refl _, by go_num, I0.out⟩
        case round =>
          clear I0 hmk r1
          obtain ⟨os, rs, hj, rfl, I⟩ := hrel
          cases gk with
          | zero =>
            have HO := hid I.out.own2
            have HR := hid I.out.own
            have HE : Hid (A / b = Nm.val os ∧ A % b = Nm.val rs) := by
              have h1 := I.out.eq
              have h2 := I.out.lt
              simp only [Nm.pw, Int.one_mul] at h2
              exact div_is (Nm.val_bd rs I.out.lim).1 h2 h1
            have hrs : Hid (Nm.val (rs.take (N + 1)) = Nm.val rs) := by
              have h2 := I.out.lt
              simp only [Nm.pw, Int.one_mul] at h2
              refine Nm.val_take_of_zero rs (N + 1) (fun i hi => Nm.zero_of_lt I.out.lim (k := Y) (by have := HbY.out; omega) i (by omega))
            have hlen : Hid ((rs.take (N + 1)).length = N + 1) := by
              show _ = _
              rw [List.length_take, I.out.len]
              omega
            obtain ⟨T1, hT1⟩ : ∃ T, Hid (Nm.tsize os = T) := ⟨_, rfl⟩
            obtain ⟨T2, hT2⟩ : ∃ T, Hid (Nm.tsize (rs.take (N + 1)) = T) := ⟨_, rfl⟩
            have DX := hid (D8.out.trans (I.out.low.mono hbase.out))
            have hq1 : Hid (os.length = J + 1) := I.out.len2
            have L1 := hid I.out.lim
            have L2 := hid I.out.lim2
            clear I
            go_wp2_with fail
            refine (short_any (some ⟨gq, 0, none⟩) (J + 1) (J + 1) os T1 _ hq1.out (by omega) HO.out.lies hT1.out).mono ?_
            rintro e w10 ⟨rfl, o10, d10⟩
            have O10 := hid o10
            have D10 := hid d10
            have HR2 := hid (HR.out.below d10 HR.out.lt)
            have hsz : Hid (w.heap.size ≤ wr.heap.size) := DX.out.size
            clear o10 d10 HR
            go_wp2_with fail
            refine (short_any (some ⟨g, 0, none⟩) (N + 1) C (rs.take (N + 1)) T2 _ hlen.out (by omega) (HR2.out.lies.take _) hT2.out).mono ?_
            rintro e w11 ⟨rfl, o11, d11⟩
            have F : Hid (Parts A b w (.returned (.tuple #[.slice (some ⟨wr.heap.size, 0, none⟩) T1 T1, .slice (some ⟨w10.heap.size, 0, none⟩) T2 T2])) w11) := by
              have l1 : (Nm.trim os).length = T1 := (Nm.trim_length os).trans hT1.out
              have l2 : (Nm.trim (rs.take (N + 1))).length = T2 := (Nm.trim_length _).trans hT2.out
              refine ⟨_, Nm.trim os, _, Nm.trim (rs.take (N + 1)), by rw [l1, l2], ?_, ?_, chain (chain DX.out D10.out (Nat.le_refl _)) d11 (Nat.le_refl _)⟩
              · rw [HE.out.1]; exact (O10.out.below d11 O10.out.lt).ans L2.out hsz.out
              · rw [HE.out.2, ← hrs.out]; exact o11.ans (L1.out.take _) (Nat.le_trans hsz.out D10.out.size)
            clear o11 d11
            go_wp2_with fail
            go_ret2
            exact F.out
          | succ t =>
            have II := hid (InI.first I.out)
            have htJ : (t : Int) < (J : Int) + 1 := by omega
            clear I
            rw [show ((t + 1 : Nat) : Int) - 1 = (t : Int) by omega]
            go_wp2_with fail
            go_loopg [14] 64 (fun k i wy => ∃ (os rs : List Int), k ≤ 64 ∧ i = .int .i64 ((k : Int) - 1) ∧ Hid (InI w8 g gq C (J + 1) A b t k os rs wy))
            case atStart => exact ⟨os, rs, Nat.le_refl _, rfl, II.out⟩
            case round =>
              clear II
              obtain ⟨os, rs, hk, rfl, I⟩ := hrel
              cases gk with
              | zero =>
                have IL := hid I.out.last
                clear I
                go_wp2_with fail
                go_roundg t
                case measure => omega
                case rel => exact ⟨os, rs, by omega, by go_num, IL.out⟩
              | succ s =>
                obtain ⟨gs, cs, ms, hcell, m2, m3, m4, m5, m6⟩ := (HM8.out.lift I.out.low (Nat.le_refl _)).at' s (by omega)
                have hgv := HM8.out.lt
                have M2 := hid m2
                have M3 := hid m3
                have M4 := hid m4
                have M5 := hid m5
                have hlen : Hid ((rs.take (N + 1)).length = N + 1) := by
                  show _ = _
                  rw [List.length_take, I.out.len]
                  omega
                have hNt : Hid (t + (Y + 1) ≤ N + 1) := by show _ ≤ _; have := HJ.out; omega
                have hlt2 : Hid (t + (Y + 1) ≤ rs.length) := by show _ ≤ _; rw [I.out.len]; have := hNt.out; omega
                have RO := hid (I.out.room hk HbY.out b0)
                have HI := hid (holds_iff I.out.lim hlt2.out RO.out (b * 2 ^ s))
                have hs64 : (s : Int) < 64 := by omega
                clear m2 m3 m4 m5
                by_cases hle : Nm.pw t * (b * 2 ^ s) ≤ Nm.val rs
                · have HO := hid (holds_is true (some ⟨g, 0, none⟩) (some ⟨gs, 0, none⟩) (N + 1) C (Y + 1) cs t (rs.take (N + 1)) ms (t : Int) wr hlen.out (by omega) M3.out (by omega) hNt.out (I.out.own.lies.take _) M2.out (I.out.lim.take _) M4.out rfl (by rw [part_take hNt.out, M5.out]; simp only [decide_eq_true_eq]; exact HI.out.2 hle))
                  have HLE := hid hle
                  clear hle HI
                  go_wp2_with fail
                  refine HO.out.mono ?_
                  rintro e w12 ⟨rfl, d12⟩
                  have hcell2 : w12.cell? ⟨gv, s, none⟩ = some (.slice (some ⟨gs, 0, none⟩) (Y + 1) cs) := by
                    rw [d12.cell (p := ⟨gv, s, none⟩) (by show gv < wr.heap.size; have := I.out.own.lt; omega)]
                    exact hcell
                  have D12 := hid d12
                  have OR := hid (I.out.orr (by omega))
                  have TO := hid (takeOff_any g C (N + 1) C (Y + 1) cs t rs (some ⟨gs, 0, none⟩) ms (t : Int) w12 (I.out.own.below d12 I.out.own.lt) I.out.len hc8 (by omega) M3.out (by omega) hNt.out I.out.lim (M2.out.below d12 (Nat.le_refl _)) M4.out (fun a ha => by cases ha; show gs ≠ g; omega) rfl (by rw [M5.out]; exact HLE.out) RO.out)
                  rw [M5.out] at TO
                  clear hcell d12 HO
                  go_wp2_with fail
                  refine TO.out.mono ?_
                  rintro e w13 ⟨rs', rfl, P⟩
                  obtain ⟨o2, IN⟩ := I.out.take (by omega) hg D12.out P.out.1 P.out.2.1 P.out.2.2.1 P.out.2.2.2.1 P.out.2.2.2.2.1 P.out.2.2.2.2.2.2 (by omega)
                  obtain ⟨y, hy, YE⟩ : ∃ y, w13.cell? ⟨gq, t, none⟩ = some (.int .u64 y) ∧ Hid (os.getD t 0 = y) := ⟨_, o2.cell t (by have := I.out.len2; omega), rfl⟩
                  have hfr := o2.free t
                  rw [YE.out] at IN OR
                  obtain ⟨PP, HP⟩ : ∃ P : Int, Hid (2 ^ s = P) := ⟨_, rfl⟩
                  have q1 : IntKind.u64.wrap (2 ^ s) = PP := by
                    have h1 := Nm.two_pos s
                    have h2 := Nm.two_mono (show s ≤ 63 by omega)
                    rw [show (2 : Int) ^ 63 = 9223372036854775808 by decide] at h2
                    rw [← HP.out, wrap_mod]
                    omega
                  rw [HP.out] at OR IN
                  have q2 := OR.out.1
                  obtain ⟨z, HZ⟩ : ∃ z, Hid (y + PP = z) := ⟨_, rfl⟩
                  rw [HZ.out] at q2 IN
                  have HIN := hid IN
                  clear IN o2 P I TO OR
                  go_wp2_with fail
                  go_roundg s
                  case measure => omega
                  case rel => exact ⟨_, rs', by omega, by go_num, HIN.out⟩
                · have HO := hid (holds_is false (some ⟨g, 0, none⟩) (some ⟨gs, 0, none⟩) (N + 1) C (Y + 1) cs t (rs.take (N + 1)) ms (t : Int) wr hlen.out (by omega) M3.out (by omega) hNt.out (I.out.own.lies.take _) M2.out (I.out.lim.take _) M4.out rfl (by rw [part_take hNt.out, M5.out]; simp only [decide_eq_false_iff_not]; exact fun h => hle (HI.out.1 h)))
                  have HLE : Hid (Nm.val rs < Nm.pw t * (b * 2 ^ s)) := Int.not_le.1 hle
                  clear hle HI
                  go_wp2_with fail
                  refine HO.out.mono ?_
                  rintro e w12 ⟨rfl, d12⟩
                  have HIN := hid (I.out.skip d12 HLE.out)
                  clear d12 I
                  go_wp2_with fail
                  go_roundg s
                  case measure => omega
                  case rel => exact ⟨os, rs, by omega, by go_num, HIN.out⟩
end Go.Proofs.YtmihjiiagpkciaaDoor

namespace Go.Proofs.YtmihjiiagpkciaaDoor
open Go.RowKit Go.Deep

theorem val_take_any (zs : List Int) (k : Nat) : Nm.val (zs.take (k + 1)) = Nm.val (zs.take k) + Nm.pw k * zs.getD k 0 := by
  by_cases h : k < zs.length
  · exact Nm.val_take_succ zs k h
  · rw [List.take_of_length_le (by omega), List.take_of_length_le (by omega), List.getD, List.getElem?_eq_none (by omega)]
    simp

theorem getD_out {zs : List Int} {k : Nat} (h : zs.length ≤ k) : zs.getD k 0 = 0 := by rw [List.getD, List.getElem?_eq_none h]; rfl

/-- A round of Plus. -/
theorem plus_next {g n : Nat} {w : World} {xs ys : List Int} {j : Nat} {c c' s : Int} {os : List Int} {wr : World} (h : MaInv g (n + 1) w (Nm.val (xs.take j) + Nm.val (ys.take j)) j c os wr) (hj : j < n) (hs : 0 ≤ s ∧ s < 18446744073709551616) (hc : 0 ≤ c' ∧ c' ≤ 1)
    (he : s + 18446744073709551616 * c' = xs.getD j 0 + ys.getD j 0 + c) : MaInv g (n + 1) w (Nm.val (xs.take (j + 1)) + Nm.val (ys.take (j + 1))) (j + 1) c' (os.set j s) (wr.setCell ⟨g, j, none⟩ (.int .u64 s)) := by
  have := h.step (by omega) (x := xs.getD j 0 + ys.getD j 0) (s := s) (c' := c') hs ⟨hc.1, by omega⟩ he
  have e : Nm.val (xs.take j) + Nm.val (ys.take j) + Nm.pw j * (xs.getD j 0 + ys.getD j 0) = Nm.val (xs.take (j + 1)) + Nm.val (ys.take (j + 1)) := by
    rw [val_take_any, val_take_any, Int.mul_add]
    omega
  rw [e] at this
  exact this

theorem wrap_over {x : Int} (h : 18446744073709551616 ≤ x) (h2 : x < 36893488147419103232) : IntKind.u64.wrap x = x - 18446744073709551616 := by rw [wrap_mod]; omega

/-- Short, its block under a name. -/
theorem short_some (p : Option Addr) (n cap : Nat) (zs : List Int) (w : World) (hn : zs.length = n) (hm : n ≤ 17592186044000) (h : Lies w p zs) (hz : Nm.Limbs zs) :
    Calls Tryd.prog 7 #[.slice p n cap] w fun e w' => ∃ r os, e = .returned (.slice r (List.length os) (List.length os)) ∧ os = Nm.trim zs ∧ Ans w.heap.size w' r os (Nm.val zs) ∧ Below w.heap.size w w' := by
  refine (short_any p n cap zs _ w hn hm h rfl).mono ?_
  rintro e w' ⟨rfl, o, d⟩
  exact ⟨_, Nm.trim zs, by rw [Nm.trim_length], rfl, o.ans hz (Nat.le_refl _), d⟩

end Go.Proofs.YtmihjiiagpkciaaDoor

namespace Go.Proofs.YtmihjiiagpkciaaDoor
open Go.RowKit Go.Deep

/-- Behind j limbs of halfWords. -/
def HalfInv (g N : Nat) (w : World) (zs : List Int) (j : Nat) (hs : List Int) (wr : World) : Prop :=
  Own wr g hs ∧ hs.length = 2 * N ∧ Nm.Halves hs ∧ Nm.v32 hs = Nm.val (zs.take j) ∧ (∀ i, 2 * j ≤ i → hs.getD i 0 = 0) ∧ Below g w wr

theorem HalfInv.step {g N : Nat} {w : World} {zs : List Int} {j : Nat} {hs : List Int} {wr : World} {x : Int} (h : HalfInv g N w zs j hs wr) (hj : j < N) (hz : j < zs.length) (hx : x = zs.getD j 0) (x0 : 0 ≤ x) (x1 : x < 18446744073709551616) :
    HalfInv g N w zs (j + 1) ((hs.set (2 * j) (x % 4294967296)).set (2 * j + 1) (x / 4294967296)) ((wr.setCell ⟨g, 2 * j, none⟩ (.int .u64 (x % 4294967296))).setCell ⟨g, 2 * j + 1, none⟩ (.int .u64 (x / 4294967296))) := by
  obtain ⟨h1, h2, h3, h4, h5, h6⟩ := h
  have l1 : 2 * j < hs.length := by omega
  refine ⟨(h1.set _ _).set _ _, by simpa using h2, (h3.set _ (by omega) (by omega)).set _ (by omega) (by omega), ?_, fun i hi => ?_, (h6.setCell (p := ⟨g, 2 * j, none⟩) (Nat.le_refl _) _).setCell (p := ⟨g, 2 * j + 1, none⟩) (Nat.le_refl _) _⟩
  · rw [Nm.v32_set _ _ _ (by simp; omega), Nm.v32_set _ _ _ l1, h5 (2 * j) (by omega), Nm.getD_set _ _ _ _ l1, if_neg (by omega), h5 (2 * j + 1) (by omega), Int.sub_zero, Int.sub_zero, h4, Nm.val_take_succ zs j hz, ← hx]
    simp only [Nm.p32, Nm.p32_two]
    have e := Int.emod_add_mul_ediv x 4294967296
    have : Nm.pw j * x = Nm.pw j * (x % 4294967296) + 4294967296 * Nm.pw j * (x / 4294967296) := by
      conv => lhs; rw [← e]
      rw [Int.mul_add, Int.mul_left_comm, Int.mul_assoc]
    omega
  · rw [Nm.getD_set _ _ _ _ (by simp; omega), if_neg (by omega), Nm.getD_set _ _ _ _ l1, if_neg (by omega)]
    exact h5 i (by omega)

set_option maxRecDepth 100000 in
set_option maxHeartbeats 1000000 in
theorem halfWords_any (p : Option Addr) (n cap : Nat) (zs : List Int) (N : Nat) (w : World) (hn : zs.length = n) (hm : n ≤ 17592186044000) (h : Lies w p zs) (hz : Nm.Limbs zs) (hN : Nm.tsize zs = N) (hNb : N ≤ 1000000) :
    Calls Tryd.prog 69 #[.slice p n cap] w fun e w' => ∃ hs g, e = .returned (.slice (some ⟨g, 0, none⟩) (2 * N) (2 * N)) ∧ Hid (Own w' g hs ∧ hs.length = 2 * N ∧ Nm.Halves hs ∧ Nm.v32 hs = Nm.val zs ∧ w.heap.size ≤ g ∧ Below w.heap.size w w') := by
  have T := top_any p n cap zs w hn (by omega) h
  rw [hN] at T
  have HT := hid T
  have tl := Nm.tsize_le zs
  have hNn : N ≤ n := by omega
  have hmk := make64 (2 * N) (by omega) w
  have em : ((2 * N : Nat) : Int) = 2 * (N : Int) := by omega
  rw [em] at hmk
  clear em
  have ho : Own (w.alloc (.cells (madeCells #[.int .u64 0] (2 * N)) 26)) w.heap.size (List.replicate (2 * N) 0) := by
    rw [made_zero]; exact Own.alloc w _
  have hb0 : Below w.heap.size w (w.alloc (.cells (madeCells #[.int .u64 0] (2 * N)) 26)) := (Below.refl _ _).alloc (Nat.le_refl _) _
  obtain ⟨W0, hW0⟩ : ∃ W0, w.alloc (.cells (madeCells #[.int .u64 0] (2 * N)) 26) = W0 := ⟨_, rfl⟩
  rw [hW0] at hmk ho hb0
  have I0 : Hid (HalfInv w.heap.size N w zs 0 (List.replicate (2 * N) 0) W0) := ⟨ho, by simp, Nm.Halves.zeros _, by rw [Nm.v32_zeros]; simp [Nm.val], fun i _ => getD_replicate _ _, hb0⟩
  have TV : Hid (Nm.val (zs.take N) = Nm.val zs) := by rw [← hN]; exact Nm.val_trim zs
  have HN := hid hn
  have HL := hid h
  have HZ := hid hz
  clear hW0 ho hb0 T tl hN hn h hz
  by_cases h0 : N = 0
  · subst h0
    have hmk1 : (Instr.makeSlice 24 (.int .i64 0) (.int .i64 0)).run Tryd.prog w = .ok (.slice (some ⟨w.heap.size, 0, none⟩) 0 0) W0 := hmk
    have F : Hid (Own W0 w.heap.size (List.replicate 0 0) ∧ (List.replicate 0 (0 : Int)).length = 2 * 0 ∧ Nm.Halves (List.replicate 0 0) ∧ Nm.v32 (List.replicate 0 0) = Nm.val zs ∧ w.heap.size ≤ w.heap.size ∧ Below w.heap.size w W0) := by
      obtain ⟨i1, i2, i3, i4, i5, i6⟩ := I0.out
      exact ⟨i1, rfl, i3, by rw [← TV.out]; exact i4, Nat.le_refl _, i6⟩
    clear hmk I0
    go_enter Tryd.func69, Tryd.ntmps69
    go_wp2_with fail
    refine HT.out.mono ?_
    rintro e w' ⟨rfl, rfl⟩
    go_wp2_with fail
    refine wp_loop_rounds 1 ?_
    rw [rounds_succ]
    go_wp2_with fail
    go_ret
    exact ⟨_, _, rfl, F⟩
  · obtain ⟨b, off, rfl, hbw, HC⟩ := HL.out.at (by have := HN.out; omega)
    go_enter Tryd.func69, Tryd.ntmps69
    go_wp2_with fail
    refine HT.out.mono ?_
    rintro e w' ⟨rfl, rfl⟩
    go_wp2_with fail
    go_loopw [5] (fun i wr => ∃ (j : Nat) (hs : List Int), j ≤ N ∧ i = .int .i64 j ∧ Hid (HalfInv w'.heap.size N w' zs j hs wr)) (fun i _ => N - (intOf i).toNat)
    case atStart => exact ⟨0, _, Nat.zero_le _, rfl, I0.out⟩
    case round =>
      clear hmk I0
      obtain ⟨j, hs, hj, rfl, I⟩ := hrel
      by_cases hlt : j < N
      · obtain ⟨x, hx, X⟩ : ∃ x, wr.cell? ⟨b, off + j, none⟩ = some (.int .u64 x) ∧ Hid (x = zs.getD j 0) := ⟨_, (I.out.2.2.2.2.2.cell (p := ⟨b, off + j, none⟩) hbw).trans (HC.out j (by have := HN.out; omega)), rfl⟩
        have hx0 := HZ.out.at j
        rw [← X.out] at hx0
        obtain ⟨hx0, hx1⟩ := hx0
        have ST := hid (I.out.step hlt (by have := HN.out; omega) X.out hx0 hx1)
        obtain ⟨y1, hy1⟩ : ∃ y, wr.cell? ⟨w'.heap.size, 2 * j, none⟩ = some (.int .u64 y) := ⟨_, I.out.1.cell (2 * j) (by have := I.out.2.1; omega)⟩
        have hf1 := I.out.1.free (2 * j)
        have o2 := I.out.1.set (2 * j) (x % 4294967296)
        obtain ⟨y2, hy2⟩ : ∃ y, (wr.setCell ⟨w'.heap.size, 2 * j, none⟩ (.int .u64 (x % 4294967296))).cell? ⟨w'.heap.size, 2 * j + 1, none⟩ = some (.int .u64 y) := ⟨_, o2.cell (2 * j + 1) (by simp; have := I.out.2.1; omega)⟩
        have hf2 := o2.free (2 * j + 1)
        have hb2 : Below w'.heap.size wr (wr.setCell ⟨w'.heap.size, 2 * j, none⟩ (.int .u64 (x % 4294967296))) := (Below.refl _ _).setCell (p := ⟨w'.heap.size, 2 * j, none⟩) (Nat.le_refl _) _
        have hx2 : (wr.setCell ⟨w'.heap.size, 2 * j, none⟩ (.int .u64 (x % 4294967296))).cell? ⟨b, off + j, none⟩ = some (.int .u64 x) := by
          rw [hb2.cell (p := ⟨b, off + j, none⟩) hbw]
          exact hx
        have r1 := r_mask32 x hx0 hx1
        have hjn : (j : Int) < (n : Int) := by omega
        have hj2 : 2 * (j : Int) < 2 * (N : Int) := by omega
        have hj3 : 2 * (j : Int) + 1 < 2 * (N : Int) := by omega
        clear I o2 hb2
        go_wp2_with fail
        go_roundw
        case rel => exact ⟨j + 1, _, by omega, by go_num, ST.out⟩
        case measure => simp [intOf]; omega
      · have hjN : j = N := by omega
        subst hjN
        have F : Hid (Own wr w'.heap.size hs ∧ hs.length = 2 * j ∧ Nm.Halves hs ∧ Nm.v32 hs = Nm.val zs ∧ w'.heap.size ≤ w'.heap.size ∧ Below w'.heap.size w' wr) := by
          obtain ⟨i1, i2, i3, i4, i5, i6⟩ := I.out
          exact ⟨i1, i2, i3, by rw [← TV.out]; exact i4, Nat.le_refl _, i6⟩
        clear I
        go_wp2_with fail
        go_ret
        exact ⟨hs, _, rfl, F⟩
end Go.Proofs.YtmihjiiagpkciaaDoor

namespace Go.Proofs.YtmihjiiagpkciaaDoor
open Go.RowKit Go.Deep

/-- Behind j limbs of the product put together. -/
def JoinInv (g H : Nat) (w : World) (ps : List Int) (j : Nat) (os : List Int) (wr : World) : Prop :=
  Own wr g os ∧ os.length = H ∧ Nm.Limbs os ∧ Nm.val os = Nm.v32 (ps.take (2 * j)) ∧ (∀ i, j ≤ i → os.getD i 0 = 0) ∧ Below g w wr

theorem JoinInv.step {g H : Nat} {w : World} {ps : List Int} {j : Nat} {os : List Int} {wr wq : World} {x y z : Int} (h : JoinInv g H w ps j os wr) (hb : Below wr.heap.size wr wq) (hj : j < H) (hx : x = ps.getD (2 * j) 0) (hy : y = ps.getD (2 * j + 1) 0) (hz : z = x + 4294967296 * y) (z0 : 0 ≤ z) (z1 : z < 18446744073709551616) :
    JoinInv g H w ps (j + 1) (os.set j z) (wq.setCell ⟨g, j, none⟩ (.int .u64 z)) := by
  obtain ⟨h1, h2, h3, h4, h5, h6⟩ := h
  have hlt := h1.lt
  refine ⟨(h1.below hb hlt).set j z, by simpa using h2, h3.set j z0 z1, ?_, fun i hi => ?_, (h6.trans (hb.mono (Nat.le_of_lt hlt))).setCell (p := ⟨g, j, none⟩) (Nat.le_refl _) _⟩
  · rw [Nm.val_set _ _ _ (by omega), h5 j (Nat.le_refl _), Int.sub_zero, h4, show 2 * (j + 1) = 2 * j + 1 + 1 by omega, Nm.v32_take_next, Nm.v32_take_next, ← hx, ← hy, hz]
    simp only [Nm.p32, Nm.p32_two]
    rw [Int.mul_add, Int.mul_left_comm, Int.mul_assoc]
    omega
  · rw [Nm.getD_set _ _ _ _ (by omega), if_neg (by omega)]
    exact h5 i (by omega)

theorem or32 (x y : Int) (x0 : 0 ≤ x) (x1 : x < 4294967296) (y0 : 0 ≤ y) (y1 : y < 4294967296) : IntKind.u64.wrap (y * 4294967296) = y * 4294967296 ∧ bits .or .u64 x (y * 4294967296) = x + 4294967296 * y := by
  refine ⟨by rw [wrap_mod]; omega, ?_⟩
  have h := or_sum y x 32 y0 x0 (by rw [show (2 : Int) ^ 32 = 4294967296 by decide]; exact x1) (by rw [show (2 : Int) ^ 32 = 4294967296 by decide]; omega) (by omega)
  rw [show (2 : Int) ^ 32 = 4294967296 by decide] at h
  obtain ⟨a, rfl⟩ := Int.eq_ofNat_of_zero_le x0
  obtain ⟨c, rfl⟩ := Int.eq_ofNat_of_zero_le y0
  have e1 := bits_or_u64_nat a (c * 4294967296) (by omega) (by omega)
  have e2 := bits_or_u64_nat (c * 4294967296) a (by omega) (by omega)
  rw [Nat.or_comm] at e2
  have e3 : ((c * 4294967296 : Nat) : Int) = (c : Int) * 4294967296 := by omega
  rw [e3] at e1 e2
  rw [e1, ← e2, h]
  omega

set_option maxRecDepth 100000 in
set_option maxHeartbeats 8000000 in
theorem refTimes_any (p q : Option Addr) (n cap m cap' : Nat) (za zb : List Int) (w : World) (ha : Arg w p n cap za) (hb : Arg w q m cap' zb) (hn : Nm.tsize za ≤ 1000000) (hm : Nm.tsize zb ≤ 1000000) :
    Calls Tryd.prog 51 #[.slice p n cap, .slice q m cap'] w fun e w' => ∃ r os, e = .returned (.slice r (List.length os) (List.length os)) ∧ Ans w.heap.size w' r os (Nm.val za * Nm.val zb) ∧ Below w.heap.size w w' := by
  have HA := hid ha
  have HB0 := hid hb
  have a2 := ha.2.1
  have a3 := ha.2.2.1
  have b2 := hb.2.1
  have b3 := hb.2.2.1
  obtain ⟨N1, hN1⟩ : ∃ N, Nm.tsize za = N := ⟨_, rfl⟩
  obtain ⟨N2, hN2⟩ : ∃ N, Nm.tsize zb = N := ⟨_, rfl⟩
  have HN1 := hid hN1
  have HN2 := hid hN2
  have bN1 : N1 ≤ 1000000 := by omega
  have bN2 : N2 ≤ 1000000 := by omega
  clear ha hb hN1 hN2 hn hm
  go_enter Tryd.func51, Tryd.ntmps51
  go_wp2_with fail
  refine (halfWords_any p n cap za N1 _ HA.out.1 (by omega) HA.out.2.2.2.1 HA.out.2.2.2.2 HN1.out bN1).mono ?_
  rintro e w1 ⟨xs, g1, rfl, KX⟩
  have HB1 := hid (HB0.out.below KX.out.2.2.2.2.2 (Nat.le_refl _))
  have D1 := hid KX.out.2.2.2.2.2
  obtain ⟨l1, hl1⟩ : ∃ l1, 2 * N1 = l1 := ⟨_, rfl⟩
  rw [hl1]
  have LX : Hid (xs.length = l1) := by rw [← hl1]; exact KX.out.2.1
  have HX := hid KX.out.2.2.1
  have VX := hid KX.out.2.2.2.1
  have OX := hid KX.out.1
  have HL1 := hid hl1
  clear KX HB0 hl1
  go_wp2_with fail
  refine (halfWords_any q m cap' zb N2 _ HB1.out.1 (by omega) HB1.out.2.2.2.1 HB1.out.2.2.2.2 HN2.out bN2).mono ?_
  rintro e w2 ⟨ys, g2, rfl, KY⟩
  have D2 := hid (chain D1.out KY.out.2.2.2.2.2 (Nat.le_refl _))
  obtain ⟨l2, hl2⟩ : ∃ l2, 2 * N2 = l2 := ⟨_, rfl⟩
  rw [hl2]
  have LY : Hid (ys.length = l2) := by rw [← hl2]; exact KY.out.2.1
  have HY := hid KY.out.2.2.1
  have VY := hid KY.out.2.2.2.1
  have OX2 := hid (OX.out.below KY.out.2.2.2.2.2 OX.out.lt)
  have OY := hid KY.out.1
  have HL2 := hid hl2
  have bl1 : l1 ≤ 2000000 := by have := HL1.out; omega
  have bl2 : l2 ≤ 2000000 := by have := HL2.out; omega
  clear KY HB1 D1 OX hl2
  have CX : Hid (∀ i, i < l1 → w2.cell? ⟨g1, i, none⟩ = some (.int .u64 (xs.getD i 0))) := fun i hi => OX2.out.cell i (by have := LX.out; omega)
  have CY : Hid (∀ i, i < l2 → w2.cell? ⟨g2, i, none⟩ = some (.int .u64 (ys.getD i 0))) := fun i hi => OY.out.cell i (by have := LY.out; omega)
  obtain ⟨g, Gg⟩ : ∃ g, Hid (w2.heap.size = g) := ⟨_, rfl⟩
  have BX : Hid (∀ {j : Nat}, j < l1 → g1 < g) := fun {j} hj => by rw [← Gg.out]; exact cell_lt (CX.out j hj)
  have BY : Hid (∀ {j : Nat}, j < l2 → g2 < g) := fun {j} hj => by rw [← Gg.out]; exact cell_lt (CY.out j hj)
  have hmk := make64 (l1 + l2) (by omega) w2
  rw [show ((l1 + l2 : Nat) : Int) = (l1 : Int) + (l2 : Int) by omega, Gg.out] at hmk
  have bm := hid ((Below.refl w2.heap.size w2).alloc (Nat.le_refl _) (.cells (madeCells #[.int .u64 0] (l1 + l2)) 26))
  have gm : Own (w2.alloc (.cells (madeCells #[.int .u64 0] (l1 + l2)) 26)) w2.heap.size (List.replicate (l1 + l2) 0) := by rw [made_zero]; exact Own.alloc w2 _
  rw [Gg.out] at bm gm
  generalize w2.alloc (.cells (madeCells #[.int .u64 0] (l1 + l2)) 26) = wm at hmk bm gm
  have I0 : Hid (TimesInv g (l1 + l2) w2 (Nm.v32 (xs.take 0) * Nm.v32 ys) 0 0 (0 + l2) (List.replicate (l1 + l2) 0) wm) := ⟨gm, by simp, Nm.Halves.zeros _, by rw [Nm.v32_zeros]; simp [Nm.v32], fun t _ => getD_replicate _ _, bm.out⟩
  clear gm bm
  go_wp2_with fail
  clear hmk
  obtain ⟨K, HK⟩ : ∃ K, Hid (l1 + l2 = K) := ⟨_, rfl⟩
  have I1 := I0.out
  rw [HK.out] at I1 ⊢
  have J0 := hid I1
  clear I0 I1
  have hKb : K ≤ 4000000 := by have := HK.out; omega
  go_loopw [8] (fun i wr => ∃ (k : Nat) (ps : List Int), k ≤ l1 ∧ i = .int .i64 k ∧ Hid (TimesInv g K w2 (Nm.v32 (xs.take k) * Nm.v32 ys) 0 k (k + l2) ps wr)) (fun i _ => l1 - (intOf i).toNat)
  case atStart => exact ⟨0, _, Nat.zero_le _, rfl, J0.out⟩
  case round =>
    obtain ⟨k, ps, hk, rfl, TI⟩ := hrel
    by_cases hlt : k < l1
    · have hlt' : (k : Int) < (l1 : Int) := by omega
      obtain ⟨x, X⟩ : ∃ x, Hid (x = xs.getD k 0) := ⟨_, rfl⟩
      have hx0 : 0 ≤ x := by have := HX.out.at k; have := X.out; omega
      have hx1 : x < 4294967296 := by have := HX.out.at k; have := X.out; omega
      obtain ⟨V, HV⟩ : ∃ V, Hid (V = Nm.v32 (xs.take k) * Nm.v32 ys) := ⟨_, rfl⟩
      have TJ : Hid (TimesInv g K w2 (V + Nm.p32 k * (x * Nm.v32 (ys.take 0))) 0 (k + 0) (k + l2) ps wr) := by
        have h := TI.out
        rw [← HV.out] at h
        simp only [List.take_zero, Nm.v32, Int.mul_zero, Int.add_zero, Nat.add_zero]
        exact h
      clear TI
      go_wp2_with fail
      go_loopw [9, 10] (fun c j wr => ∃ (t : Nat) (cc : Int) (ps : List Int), t ≤ l2 ∧ j = .int .i64 t ∧ c = .int .u64 cc ∧ 0 ≤ cc ∧ cc < 4294967296 ∧ Hid (TimesInv g K w2 (V + Nm.p32 k * (x * Nm.v32 (ys.take t))) cc (k + t) (k + l2) ps wr)) (fun _ j _ => l2 - (intOf j).toNat)
      case atStart => exact ⟨0, 0, ps, Nat.zero_le _, rfl, rfl, by omega, by omega, TJ.out⟩
      case round =>
        clear TJ ps
        obtain ⟨t, cc, ps, ht, rfl, rfl, hc0, hc1, TI⟩ := hrel
        obtain ⟨o1, o2, o3, o4, o5, o6⟩ := TI.out
        by_cases htl : t < l2
        · have htl' : (t : Int) < (l2 : Int) := by omega
          have hx : wr.cell? ⟨g1, k, none⟩ = some (.int .u64 x) := by rw [X.out]; exact (o6.cell (p := ⟨g1, k, none⟩) (BX.out hlt)).trans (CX.out k hlt)
          obtain ⟨y, hy, Y⟩ : ∃ y, wr.cell? ⟨g2, t, none⟩ = some (.int .u64 y) ∧ Hid (y = ys.getD t 0) := ⟨_, (o6.cell (p := ⟨g2, t, none⟩) (BY.out htl)).trans (CY.out t htl), rfl⟩
          have hkt : k + t < K := by have := HK.out; omega
          obtain ⟨pv, hpv, PV⟩ : ∃ pv, wr.cell? ⟨g, k + t, none⟩ = some (.int .u64 pv) ∧ Hid (pv = ps.getD (k + t) 0) := ⟨_, o1.cell (k + t) (by omega), rfl⟩
          have hfr := o1.free (k + t)
          have hy0 : 0 ≤ y := by have := HY.out.at t; have := Y.out; omega
          have hy1 : y < 4294967296 := by have := HY.out.at t; have := Y.out; omega
          have hp0 : 0 ≤ pv := by have := o3.at (k + t); have := PV.out; omega
          have hp1 : pv < 4294967296 := by have := o3.at (k + t); have := PV.out; omega
          have hxy0 : 0 ≤ x * y := Int.mul_nonneg hx0 hy0
          have hxy1 : x * y ≤ 4294967295 * 4294967295 := Int.mul_le_mul (by omega) (by omega) hy0 (by omega)
          obtain ⟨m0, hm0, M0⟩ : ∃ m0, IntKind.u64.wrap (x * y) = m0 ∧ Hid (m0 = x * y) := ⟨_, by rw [IntKind.wrap_u64, Int.emod_eq_of_lt (by omega) (by omega)], rfl⟩
          have hm00 : 0 ≤ m0 := by have := M0.out; omega
          have hm01 : m0 ≤ 18446744065119617025 := by have := M0.out; omega
          obtain ⟨m1, hm1, M1⟩ : ∃ m1, IntKind.u64.wrap (m0 + pv) = m1 ∧ Hid (m1 = m0 + pv) := ⟨_, by rw [IntKind.wrap_u64, Int.emod_eq_of_lt (by omega) (by omega)], rfl⟩
          have hm10 : 0 ≤ m1 := by have := M1.out; omega
          have hm11 : m1 ≤ 18446744069414584320 := by have := M1.out; omega
          obtain ⟨tt, htt, TT⟩ : ∃ tt, IntKind.u64.wrap (m1 + cc) = tt ∧ Hid (tt = m1 + cc) := ⟨_, by rw [IntKind.wrap_u64, Int.emod_eq_of_lt (by omega) (by omega)], rfl⟩
          have htt0 : 0 ≤ tt := by have := TT.out; omega
          have htt1 : tt ≤ 18446744073709551615 := by have := TT.out; omega
          obtain ⟨lo, hlo, LO⟩ : ∃ lo, bits .and .u64 tt 4294967295 = lo ∧ Hid (lo = tt % 4294967296) := ⟨_, r_mask32 tt (by omega) (by omega), rfl⟩
          obtain ⟨hi, hhi, HI⟩ : ∃ hi, tt / 4294967296 = hi ∧ Hid (hi = tt / 4294967296) := ⟨_, rfl, rfl⟩
          have BLO : Hid ((0 ≤ lo ∧ lo < 4294967296) ∧ 0 ≤ hi ∧ hi < 4294967296) := by have := LO.out; have := HI.out; show _ ∧ _; omega
          have ST : Hid (lo + 4294967296 * hi = x * ys.getD t 0 + pv + cc) := by
            have h1 := LO.out; have h2 := HI.out; have h3 := TT.out; have h4 := M1.out; have h5 := M0.out
            rw [Hid, ← Y.out]; omega
          have O1 := hid o1
          have O2 := hid o2
          have O3 := hid o3
          have O4 := hid o4
          have O5 := hid o5
          have O6 := hid o6
          have hkt' : (k : Int) + (t : Int) < (K : Int) := by omega
          clear o1 o2 o3 o4 o5 o6 TI hxy0 hxy1
          go_wp2_with fail
          go_quiet (fail)
          have hpv2 : (wr.drewN nq).cell? ⟨g, k + t, none⟩ = some (.int .u64 pv) := hpv
          have hfr2 : (wr.drewN nq).frozen? ⟨g, k + t, none⟩ = false := hfr
          have P1 : Hid (Own (wr.drewN nq) g ps) := O1.out
          have P6 := hid (below_drewN O6.out nq)
          clear hx hy hpv hfr O1 O6
          generalize wr.drewN nq = wq at *
          go_wp2
          go_roundw
          case rel =>
            refine ⟨t + 1, hi, ps.set (k + t) lo, by omega, by go_num, by first | rfl | rw [hhi], BLO.out.2.1, BLO.out.2.2, P1.out.set _ _, by rw [List.length_set]; exact O2.out, O3.out.set _ BLO.out.1.1 BLO.out.1.2, ?_, ?_, P6.out.setCell (Nat.le_refl _) _⟩
            · exact Nm.times_digit (by have := O2.out; omega) PV.out O4.out ST.out
            · intro s hs
              rw [Nm.getD_set ps (k + t) s lo (by have := O2.out; omega), if_neg (by omega)]
              exact O5.out s hs
          case measure => simp [intOf]; omega
        · have htl' : ¬ (t : Int) < (l2 : Int) := by omega
          obtain rfl : t = l2 := by omega
          rw [List.take_of_length_le (by have := LY.out; omega)] at o4
          have hkt : k + t < K := by have := HK.out; omega
          obtain ⟨pv, hpv⟩ : ∃ pv, wr.cell? ⟨g, k + t, none⟩ = some (.int .u64 pv) := ⟨_, o1.cell (k + t) (by omega)⟩
          have hfr := o1.free (k + t)
          have Z0 := o5 (k + t) (Nat.le_refl _)
          have NX : Hid (TimesInv g K w2 (Nm.v32 (xs.take (k + 1)) * Nm.v32 ys) 0 (k + 1) (k + 1 + t) (ps.set (k + t) cc) (wr.setCell ⟨g, k + t, none⟩ (.int .u64 cc))) := by
            refine ⟨o1.set _ _, by rw [List.length_set]; exact o2, o3.set _ hc0 hc1, ?_, ?_, o6.setCell (Nat.le_refl _) _⟩
            · rw [Nm.v32_set ps (k + t) cc (by omega), Z0, Nm.v32_take_next, ← X.out, Int.add_mul, ← HV.out, Int.mul_zero, Int.add_zero, Int.sub_zero, Int.mul_assoc]
              exact o4
            · intro s hs
              rw [Nm.getD_set ps (k + t) s cc (by omega), if_neg (by omega)]
              exact o5 s (by omega)
          have hkt' : (k : Int) + (t : Int) < (K : Int) := by omega
          clear o1 o2 o3 o4 o5 o6 TI Z0
          go_wp2
          go_roundw
          case rel => exact ⟨k + 1, _, by omega, by go_num, NX.out⟩
          case measure => simp [intOf]; omega
    · have hlt' : ¬ (k : Int) < (l1 : Int) := by omega
      obtain rfl : k = l1 := by omega
      obtain ⟨o1, o2, o3, o4, o5, o6⟩ := TI.out
      rw [List.take_of_length_le (by have := LX.out; omega), VX.out, VY.out, Int.mul_zero, Int.add_zero] at o4
      have D3 := hid (chain D2.out (by rw [Gg.out]; exact o6) (Nat.le_refl _))
      obtain ⟨H, HH⟩ : ∃ H, Hid (K = 2 * H) := ⟨N1 + N2, by show _ = _; have := HK.out; have := HL1.out; have := HL2.out; omega⟩
      have r1 : (K : Int) / 2 = (H : Int) := by have := HH.out; omega
      have r2 : (K : Int).tdiv 2 = (H : Int) := by rw [Int.tdiv_eq_ediv_of_nonneg (by omega)]; exact r1
      have hH : H ≤ 2000000 := by have := HH.out; omega
      have hmk := make64 H (by omega) wr
      have hb8 : Below wr.heap.size wr (wr.alloc (.cells (madeCells #[.int .u64 0] H) 26)) := (Below.refl _ _).alloc (Nat.le_refl _) _
      have ho8 : Own (wr.alloc (.cells (madeCells #[.int .u64 0] H) 26)) wr.heap.size (List.replicate H 0) := by rw [made_zero]; exact Own.alloc wr _
      obtain ⟨W0, hW0⟩ : ∃ W0, wr.alloc (.cells (madeCells #[.int .u64 0] H) 26) = W0 := ⟨_, rfl⟩
      rw [hW0] at hmk hb8 ho8
      clear hW0
      obtain ⟨gq, hgq⟩ : ∃ gq, wr.heap.size = gq := ⟨_, rfl⟩
      rw [hgq] at hmk hb8 ho8
      have hglt : g < gq := by rw [← hgq]; exact o1.lt
      have JI : Hid (JoinInv gq H wr ps 0 (List.replicate H 0) W0) := ⟨ho8, by simp, Nm.Limbs.replicate _, by rw [Nm.val_replicate]; simp [Nm.v32], fun i _ => getD_replicate _ _, hb8⟩
      have OP := hid o1
      have OL := hid o2
      have OH := hid o3
      have OV := hid o4
      have HGQ := hid hgq
      clear o1 o2 o3 o4 o5 o6 TI hb8 ho8 hgq
      generalize wr = wz at *
      go_wp2_with fail
      go_loopw [13] (fun i wx => ∃ (j : Nat) (os : List Int), j ≤ H ∧ i = .int .i64 j ∧ Hid (JoinInv gq H wz ps j os wx)) (fun i _ => H - (intOf i).toNat)
      case atStart => exact ⟨0, _, Nat.zero_le _, rfl, JI.out⟩
      case round =>
        clear JI hmk r1 r2
        obtain ⟨j, os, hj, rfl, I⟩ := hrel
        by_cases hlt : j < H
        · have hb := I.out.2.2.2.2.2
          obtain ⟨x, hx, X⟩ : ∃ x, wr.cell? ⟨g, 2 * j, none⟩ = some (.int .u64 x) ∧ Hid (x = ps.getD (2 * j) 0) := ⟨_, (hb.cell (p := ⟨g, 2 * j, none⟩) hglt).trans (OP.out.cell (2 * j) (by have := OL.out; have := HH.out; omega)), rfl⟩
          obtain ⟨y, hy, Y⟩ : ∃ y, wr.cell? ⟨g, 2 * j + 1, none⟩ = some (.int .u64 y) ∧ Hid (y = ps.getD (2 * j + 1) 0) := ⟨_, (hb.cell (p := ⟨g, 2 * j + 1, none⟩) hglt).trans (OP.out.cell (2 * j + 1) (by have := OL.out; have := HH.out; omega)), rfl⟩
          have hx0 := OH.out.at (2 * j)
          rw [← X.out] at hx0
          have hy0 := OH.out.at (2 * j + 1)
          rw [← Y.out] at hy0
          obtain ⟨hx0, hx1⟩ := hx0
          obtain ⟨hy0, hy1⟩ := hy0
          obtain ⟨q1, q2⟩ := or32 x y hx0 hx1 hy0 hy1
          obtain ⟨v, hv⟩ : ∃ v, y * 4294967296 = v := ⟨_, rfl⟩
          obtain ⟨z, hz⟩ : ∃ z, x + 4294967296 * y = z := ⟨_, rfl⟩
          rw [hv] at q1 q2
          rw [hz] at q2
          have ST : Hid (∀ wq, Below wr.heap.size wr wq → JoinInv gq H wz ps (j + 1) (os.set j z) (wq.setCell ⟨gq, j, none⟩ (.int .u64 z))) := fun wq hb => I.out.step hb hlt X.out Y.out hz.symm (by omega) (by omega)
          obtain ⟨y0, hyc⟩ : ∃ y, wr.cell? ⟨gq, j, none⟩ = some (.int .u64 y) := ⟨_, I.out.1.cell j (by have := I.out.2.1; omega)⟩
          have hfr := I.out.1.free j
          have hjH : (j : Int) < (H : Int) := by omega
          have hj2 : 2 * (j : Int) < (K : Int) := by have := HH.out; omega
          have hj3 : 2 * (j : Int) + 1 < (K : Int) := by have := HH.out; omega
          have hv0 : 0 ≤ v := by omega
          have hv1 : v < 18446744073709551616 := by omega
          have HV := hid hv
          clear hb hz hv I
          have q0 : IntKind.u64.wrap (y * 4294967296) = v := by rw [HV.out]; exact q1
          go_wp2_with fail
          go_region
          all_goals
            go_wp2
            go_roundw
            case rel => exact ⟨j + 1, _, by omega, by go_num, ST.out _ (below_drewN (Below.refl _ _) _)⟩
            case measure => simp [intOf]; omega
        · have hjH : j = H := by omega
          subst hjH
          obtain ⟨i1, i2, i3, i4, i5, i6⟩ := I.out
          rw [List.take_of_length_le (by have := OL.out; have := HH.out; omega), OV.out] at i4
          have D5 := hid (chain D3.out (by rw [HGQ.out]; exact i6) (Nat.le_refl _))
          have P1 := hid i1
          have P2 := hid i2
          have P3 := hid i3
          have P4 := hid i4
          clear i1 i2 i3 i4 i5 i6 I
          go_wp2_with fail
          refine (short_some (some ⟨gq, 0, none⟩) j j os _ P2.out (by omega) P1.out.lies P3.out).mono ?_
          rintro e w9 ⟨r, us, rfl, -, A9, d9⟩
          rw [P4.out] at A9
          have A10 := hid (A9.up (B' := w.heap.size) D5.out.size)
          have D10 := hid (chain D5.out d9 (Nat.le_refl _))
          clear A9 d9
          go_wp2_with fail
          go_ret
          exact ⟨r, us, rfl, A10.out, D10.out⟩
end Go.Proofs.YtmihjiiagpkciaaDoor

namespace Go.Proofs.YtmihjiiagpkciaaDoor
open Go.RowKit Go.Deep

theorem len_any (x : Int) (l : Nat) (w : World) (h0 : 0 ≤ x) (h1 : x < 18446744073709551616) (hl : Lib.bitLen x.toNat = l) :
    Calls Tryd.prog 65 #[.int .u64 x] w fun e w' => e = .returned (.int .i64 (l : Int)) ∧ w' = w := by
  have L := len64 x w h0 h1
  rw [hl] at L
  have HL := hid L
  clear L hl
  go_enter Tryd.func65, Tryd.ntmps65
  go_wp2_with fail
  refine HL.out.mono ?_
  rintro e w' ⟨rfl, rfl⟩
  go_wp2_with fail
  go_ret
  exact ⟨rfl, rfl⟩

theorem one_bit_i64 (x : Nat) (h1 : x < 9223372036854775808) : bits .and .i64 (x : Int) 1 = ((x % 2 : Nat) : Int) := by
  have h : x &&& 1 = x % 2 := Nat.and_two_pow_sub_one_eq_mod x 1
  have e1 : (BitVec.ofInt 64 (x : Int)).toNat = x := by
    rw [BitVec.ofInt_natCast, BitVec.toNat_ofNat]; exact Nat.mod_eq_of_lt (by omega)
  have e2 : (BitVec.ofInt 64 (1 : Int)).toNat = 1 := by decide
  show IntKind.i64.wrap ((BitVec.ofInt 64 (x : Int) &&& BitVec.ofInt 64 (1 : Int)).toNat : Int) = _
  rw [BitVec.toNat_and, e1, e2, h]
  have : x % 2 < 2 := Nat.mod_lt _ (by omega)
  rw [IntKind.wrap_i64]
  omega

/-- The length of an exponent. -/
theorem exp_len (n : Nat) (h1 : 1 ≤ n) (h2 : n < 18446744073709551616) : ∃ j, Lib.bitLen n = j + 1 ∧ n / 2 ^ j = 1 ∧ j ≤ 63 := by
  have hb := Lib.bitLenAux_bounds 64 n (by simpa using h2) (by omega)
  rw [show Lib.bitLenAux 64 n = Lib.bitLen n from rfl] at hb
  have hs := bitLen_small n h2
  obtain ⟨j, hj⟩ : ∃ j, Lib.bitLen n = j + 1 := ⟨Lib.bitLen n - 1, by omega⟩
  rw [hj, Nat.add_sub_cancel] at hb
  refine ⟨j, hj, ?_, by omega⟩
  have p1 : 0 < 2 ^ j := Nat.pow_pos (by omega)
  rw [Nat.pow_succ] at hb
  exact Nat.div_eq_of_lt_le (by omega) (by omega)

set_option maxRecDepth 100000 in
set_option maxHeartbeats 2000000 in
theorem power_any (p : Option Addr) (m cap : Nat) (zs : List Int) (A : Int) (n : Nat) (w : World) (ha : Arg w p m cap zs) (tz : Nm.tsize zs ≤ 4096) (hA : Nm.val zs = A) (hA1 : 1 ≤ A) (h1 : 1 ≤ n) (h2 : n < 4611686018427387904) :
    Calls Tryd.prog 41 #[.slice p m cap, .int .i64 (n : Int)] w fun e w' => Gives (A ^ n) w e w' := by
  obtain ⟨j0, hj0, hj1, hj63⟩ := exp_len n h1 (by omega)
  have TR := hid (trim_any p m cap zs w ha)
  have HA := hid ha
  have HAs : Hid (A < Nm.pw 4096) := by show _ < _; rw [← hA]; exact (Nm.tsize_le_iff ha.2.2.2.2 4096).1 tz
  have HVA := hid hA
  have HT := hid tz
  have HA1 := hid hA1
  have HJ1 := hid hj1
  have hn0 : (0 : Int) ≤ (n : Int) := by omega
  have hn1 : (n : Int) < 4611686018427387904 := by omega
  have HL := hid hj0
  obtain ⟨l, hl⟩ : ∃ l, l = j0 + 1 := ⟨_, rfl⟩
  have rl : (l : Int) - 2 = (j0 : Int) - 1 := by omega
  have HLL := hid hl
  have hl64 : (l : Int) ≤ 64 := by omega
  have hl1 : (1 : Int) ≤ (l : Int) := by omega
  clear ha hA tz hA1 hj0 hj1 hl h1 h2
  go_enter Tryd.func41, Tryd.ntmps41
  go_wp2_with fail
  refine TR.out.mono ?_
  rintro e w1 ⟨r, os, rfl, -, A1, hb1⟩
  rw [HVA.out] at A1
  have HB1 := hid A1
  have D1 := hid hb1
  clear A1 hb1 TR
  go_wp2_with fail
  refine (len_any (n : Int) l _ hn0 (by omega) (by rw [Int.toNat_natCast, HL.out, HLL.out])).mono ?_
  rintro e w2 ⟨rfl, rfl⟩
  go_wp2_with fail
  go_loopw [6, 7] (fun o i wr => ∃ (j : Nat) (r : Option Addr) (os : List Int), j ≤ j0 ∧ i = .int .i64 ((j : Int) - 1) ∧ o = .slice r (List.length os) (List.length os) ∧ Hid (Ans w.heap.size wr r os (A ^ (n / 2 ^ j))) ∧ Hid (A ^ (n / 2 ^ j) < Nm.pw 4096) ∧ Hid (Below w.heap.size w wr)) (fun _ i _ => (intOf i + 1).toNat)
  case atStart => exact ⟨j0, r, os, Nat.le_refl _, by first | rfl | rw [rl], rfl, by rw [HJ1.out, Int.pow_succ, Int.pow_zero, Int.one_mul]; exact HB1.out, by rw [HJ1.out, Int.pow_succ, Int.pow_zero, Int.one_mul]; exact HAs.out, D1.out⟩
  case round =>
    clear HB1 D1 rl
    obtain ⟨j, r, os, hj, rfl, rfl, HO, HS, D⟩ := hrel
    by_cases hj0' : j = 0
    · subst hj0'
      have F : Hid (Gives (A ^ n) w (.returned (.tuple #[.slice r (List.length os) (List.length os), .int .i64 0])) wr) := by
        have h1 := HO.out
        have h2 := HS.out
        rw [Nat.pow_zero, Nat.div_one] at h1 h2
        exact ⟨.inl ⟨h2, r, os, rfl, h1⟩, D.out⟩
      go_wp2_with fail
      go_ret2
      exact F.out
    · obtain ⟨t, rfl⟩ : ∃ t, j = t + 1 := ⟨j - 1, by omega⟩
      have MU := hid (mul_gives r r _ _ _ _ os os (A ^ (n / 2 ^ (t + 1)) * A ^ (n / 2 ^ (t + 1))) wr (HO.out.argT HS.out) (HO.out.argT HS.out) (HO.out.tsT HS.out) (HO.out.tsT HS.out) (by rw [HO.out.2.2.2.1]))
      go_wp2_with fail
      refine MU.out.mono ?_
      rintro e w3 ⟨h | h, hb3⟩
      · obtain ⟨hs3, s, ss, rfl, A3⟩ := h
        have HB3 := hid (A3.upT (B' := w.heap.size) D.out.size)
        have HS3 := hid hs3
        have D3 := hid (chain D.out hb3 (Nat.le_refl _))
        obtain ⟨x, hx⟩ : ∃ x, n / 2 ^ t = x := ⟨_, rfl⟩
        have hx63 : x < 9223372036854775808 := by have : n / 2 ^ t ≤ n := Nat.div_le_self _ _; omega
        have r1 : (n : Int) / 2 ^ t = (x : Int) := by rw [← hx]; simp
        have r2 := one_bit_i64 x hx63
        have HX := hid hx
        clear hs3 A3 hb3 hx
        rcases (show x % 2 = 0 ∨ x % 2 = 1 by omega) with hb | hb
        · rw [hb] at r2
          have HE := hid (Pn.square A n t (by rw [HX.out]; exact hb))
          rw [HE.out] at HB3 HS3
          clear hb
          go_wp2_with fail
          go_roundw
          case rel => exact ⟨t, s, ss, by omega, by go_num, rfl, HB3, HS3, D3⟩
          case measure => simp [intOf]
        · rw [hb] at r2
          have HE := hid (Pn.square_odd A n t (by rw [HX.out]; exact hb))
          have HA3 := hid (HA.out.below D3.out (Nat.le_refl _))
          have MU2 := hid (mul_gives s p _ _ m cap ss zs (A ^ (n / 2 ^ t)) w3 (HB3.out.argT HS3.out) HA3.out (HB3.out.tsT HS3.out) HT.out (by rw [HB3.out.2.2.2.1, HVA.out]; exact HE.out))
          clear hb
          go_wp2_with fail
          refine MU2.out.mono ?_
          rintro e w4 ⟨h | h, hb4⟩
          · obtain ⟨hs4, s4, ss4, rfl, A4⟩ := h
            have HB4 := hid (A4.upT (B' := w.heap.size) D3.out.size)
            have HS4 := hid hs4
            have D4 := hid (chain D3.out hb4 (Nat.le_refl _))
            clear hs4 A4 hb4
            go_wp2_with fail
            go_roundw
            case rel => exact ⟨t, s4, ss4, by omega, by go_num, rfl, HB4, HS4, D4⟩
            case measure => simp [intOf]
          · obtain ⟨hs4, rfl⟩ := h
            have F : Hid (Gives (A ^ n) w (.returned (.tuple #[.slice none 0 0, .int .i64 2])) w4) :=
              ⟨.inr ⟨Int.le_trans hs4 (Pn.part_le HA1.out n t), rfl⟩, chain D3.out hb4 (Nat.le_refl _)⟩
            clear hs4 hb4
            go_wp2_with fail
            go_ret2
            exact F.out
      · obtain ⟨hs3, rfl⟩ := h
        have F : Hid (Gives (A ^ n) w (.returned (.tuple #[.slice none 0 0, .int .i64 2])) w3) :=
          ⟨.inr ⟨Int.le_trans hs3 (Pn.square_le HA1.out n t), rfl⟩, chain D.out hb3 (Nat.le_refl _)⟩
        clear hs3 hb3
        go_wp2_with fail
        go_ret2
        exact F.out
end Go.Proofs.YtmihjiiagpkciaaDoor

namespace Go.Proofs.YtmihjiiagpkciaaDoor
open Go.RowKit Go.Deep

theorem pow_big (p : Option Addr) (m cap : Nat) (zs : List Int) (k : Int) (w : World) (ha : Arg w p m cap zs) (tz : 4096 < Nm.tsize zs) :
    Calls Tryd.prog 18 #[.slice p m cap, .int .i64 k] w fun e w' => e = .returned (.tuple #[.slice none 0 0, .int .i64 2]) ∧ w' = w := by
  obtain ⟨L, l1, _, _, _⟩ := blen_is zs ha.2.2.2.2
  obtain ⟨N, HN⟩ : ∃ N, Hid (Nm.tsize zs = N) := ⟨_, rfl⟩
  have hN : (4096 : Int) < (N : Int) := by have := HN.out; omega
  have HB := hid (bitLen_isT L p m cap zs w ha l1)
  have HL := hid (limbs_isT p m cap zs N w ha HN.out)
  clear ha tz l1
  go_enter Tryd.func18, Tryd.ntmps18
  go_wp2_with fail
  refine HB.out.mono ?_
  rintro e w' ⟨rfl, rfl⟩
  go_wp2_with fail
  refine HL.out.mono ?_
  rintro e w' ⟨rfl, rfl⟩
  go_wp2_with fail
  go_ret2
  exact ⟨rfl, rfl⟩

theorem pow_neg (p : Option Addr) (m cap : Nat) (zs : List Int) (k : Int) (w : World) (ha : Arg w p m cap zs) (tz : Nm.tsize zs ≤ 4096) (hk : k < 0) :
    Calls Tryd.prog 18 #[.slice p m cap, .int .i64 k] w fun e w' => e = .returned (.tuple #[.slice none 0 0, .int .i64 1]) ∧ w' = w := by
  obtain ⟨L, l1, _, _, _⟩ := blen_is zs ha.2.2.2.2
  obtain ⟨N, HN⟩ : ∃ N, Hid (Nm.tsize zs = N) := ⟨_, rfl⟩
  have hN : (N : Int) ≤ 4096 := by have := HN.out; omega
  have HB := hid (bitLen_isT L p m cap zs w ha l1)
  have HL := hid (limbs_isT p m cap zs N w ha HN.out)
  clear ha tz l1
  go_enter Tryd.func18, Tryd.ntmps18
  go_wp2_with fail
  refine HB.out.mono ?_
  rintro e w' ⟨rfl, rfl⟩
  go_wp2_with fail
  refine HL.out.mono ?_
  rintro e w' ⟨rfl, rfl⟩
  go_wp2_with fail
  go_ret2
  exact ⟨rfl, rfl⟩

theorem one_lt_pw : (1 : Int) < Nm.pw 4096 := by
  have h := Nm.pw_mono (show 1 ≤ 4096 by omega)
  have e : Nm.pw 1 = 18446744073709551616 := by simp [Nm.pw]
  rw [e] at h
  generalize Nm.pw 4096 = x at *
  omega

set_option maxRecDepth 100000 in
set_option maxHeartbeats 1000000 in
theorem pow_gives (p : Option Addr) (m cap : Nat) (zs : List Int) (A k : Int) (n : Nat) (w : World) (ha : Arg w p m cap zs) (tz : Nm.tsize zs ≤ 4096) (hA : Nm.val zs = A) (hk : k = (n : Int)) (hk1 : k ≤ 9223372036854775807) :
    Calls Tryd.prog 18 #[.slice p m cap, .int .i64 k] w fun e w' => Gives (A ^ n) w e w' := by
  obtain ⟨L, l1, l2, l3, _⟩ := blen_is zs ha.2.2.2.2
  obtain ⟨N, HN⟩ : ∃ N, Hid (Nm.tsize zs = N) := ⟨_, rfl⟩
  have hN : (N : Int) ≤ 4096 := by have := HN.out; omega
  have HB := hid (bitLen_isT L p m cap zs w ha l1)
  have HL := hid (limbs_isT p m cap zs N w ha HN.out)
  have hL : (L : Int) ≤ 262144 := by omega
  have A0 := (Nm.val_bd zs ha.2.2.2.2).1
  rw [hA] at A0 l2
  have HAs : Hid (A < Nm.pw 4096) := by show _ < _; rw [← hA]; exact (Nm.tsize_le_iff ha.2.2.2.2 4096).1 tz
  have HA := hid ha
  have HT := hid tz
  have HVA := hid hA
  have HL2 := hid l2
  clear ha tz l1 l2 l3 hA
  subst hk
  by_cases h0 : n = 0
  · subst h0
    have F := hid (fromUint_any 1 w (by omega) (by omega))
    go_enter Tryd.func18, Tryd.ntmps18
    go_wp2_with fail
    refine HB.out.mono ?_
    rintro e w' ⟨rfl, rfl⟩
    go_wp2_with fail
    refine HL.out.mono ?_
    rintro e w' ⟨rfl, rfl⟩
    go_wp2_with fail
    refine F.out.mono ?_
    rintro e w1 ⟨r, os, rfl, A1, hb1⟩
    have G : Hid (Gives (A ^ 0) w' (.returned (.tuple #[.slice r (List.length os) (List.length os), .int .i64 0])) w1) :=
      ⟨.inl ⟨by rw [Int.pow_zero]; exact one_lt_pw, r, os, rfl, by rw [Int.pow_zero]; exact A1⟩, hb1⟩
    clear A1 hb1
    go_wp2_with fail
    go_ret2
    exact G.out
  have hn0 : ((n : Int) == 0) = false := by rw [beq_eq_false_iff_ne]; omega
  by_cases hL2 : L < 2
  · have hL2' : (L : Int) < 2 := by omega
    have E : Hid (A ^ n = A) := by
      have h := HL2.out.1
      have hA2 : A < 2 := by
        have := Nm.two_mono (show L ≤ 1 by omega)
        omega
      show _ = _
      obtain ⟨n', rfl⟩ : ∃ n', n = n' + 1 := ⟨n - 1, by omega⟩
      rcases (show A = 0 ∨ A = 1 by omega) with rfl | rfl
      · rw [Int.pow_succ, Int.mul_zero]
      · rw [Int.one_pow]
    have TR := hid (trim_any p m cap zs w HA.out)
    go_enter Tryd.func18, Tryd.ntmps18
    go_wp2_with fail
    refine HB.out.mono ?_
    rintro e w' ⟨rfl, rfl⟩
    go_wp2_with fail
    refine HL.out.mono ?_
    rintro e w' ⟨rfl, rfl⟩
    go_wp2_with fail
    refine TR.out.mono ?_
    rintro e w1 ⟨r, os, rfl, -, A1, hb1⟩
    rw [HVA.out] at A1
    have G : Hid (Gives (A ^ n) w' (.returned (.tuple #[.slice r (List.length os) (List.length os), .int .i64 0])) w1) := by
      rw [E.out]
      exact ⟨.inl ⟨HAs.out, r, os, rfl, A1⟩, hb1⟩
    clear A1 hb1
    go_wp2_with fail
    go_ret2
    exact G.out
  have hL2' : (2 : Int) ≤ (L : Int) := by omega
  have hA2 : Hid (2 ^ (L - 1) ≤ A) := by
    have h1 := HL2.out.2.2
    have h2 : 0 < A := by
      rcases (show A = 0 ∨ 0 < A by omega) with h | h
      · have := HL2.out.2.1 h; omega
      · exact h
    exact (h1 h2).2
  have hA1 : Hid (1 ≤ A) := by
    have := Nm.two_pos (L - 1)
    have := hA2.out
    show _ ≤ _
    omega
  obtain ⟨c, hc⟩ : ∃ c, 262143 / ((L : Int) - 1) = c := ⟨_, rfl⟩
  have d1 := Int.emod_add_mul_ediv 262143 ((L : Int) - 1)
  have d2 := Int.emod_nonneg 262143 (show (L : Int) - 1 ≠ 0 by omega)
  have d3 := Int.emod_lt_of_pos 262143 (show 0 < (L : Int) - 1 by omega)
  have d4 : 0 ≤ c := by rw [← hc]; exact Int.ediv_nonneg (by omega) (by omega)
  rw [hc] at d1
  have hc2 : (262143 : Int).tdiv ((L : Int) - 1) = c := by rw [Int.tdiv_eq_ediv_of_nonneg (by omega)]; exact hc
  have hz : (((L : Int) - 1) == 0) = false := by rw [beq_eq_false_iff_ne]; omega
  have hc3 : c ≤ 262143 := by
    have e1 : 1 * c ≤ ((L : Int) - 1) * c := Int.mul_le_mul_of_nonneg_right (by omega) d4
    omega
  by_cases hb : c < (n : Int)
  · have G : Hid (Gives (A ^ n) w (.returned (.tuple #[.slice none 0 0, .int .i64 2])) w) := by
      refine ⟨.inr ⟨Pn.early hA2.out ?_, rfl⟩, Below.refl _ _⟩
      have e1 : ((L : Int) - 1) * (c + 1) ≤ ((L : Int) - 1) * (n : Int) := Int.mul_le_mul_of_nonneg_left (by omega) (by omega)
      rw [Int.mul_add, Int.mul_one] at e1
      have e2 : (((L - 1) * n : Nat) : Int) = ((L : Int) - 1) * (n : Int) := by rw [Int.natCast_mul, show ((L - 1 : Nat) : Int) = (L : Int) - 1 by omega]
      omega
    clear d1 d2 d3
    go_enter Tryd.func18, Tryd.ntmps18
    go_wp2_with fail
    refine HB.out.mono ?_
    rintro e w' ⟨rfl, rfl⟩
    go_wp2_with fail
    refine HL.out.mono ?_
    rintro e w' ⟨rfl, rfl⟩
    go_wp2_with fail
    go_ret2
    exact G.out
  · have hb' : (n : Int) ≤ c := by omega
    have P := hid (power_any p m cap zs A n w HA.out HT.out HVA.out hA1.out (by omega) (by omega))
    clear d1 d2 d3 hb
    go_enter Tryd.func18, Tryd.ntmps18
    go_wp2_with fail
    refine HB.out.mono ?_
    rintro e w' ⟨rfl, rfl⟩
    go_wp2_with fail
    refine HL.out.mono ?_
    rintro e w' ⟨rfl, rfl⟩
    go_wp2_with fail
    refine P.out.mono ?_
    rintro e w1 ⟨h | h, hb1⟩
    · obtain ⟨h1, r, os, rfl, A1⟩ := h
      have G : Hid (Gives (A ^ n) w' (.returned (.tuple #[.slice r (List.length os) (List.length os), .int .i64 0])) w1) := ⟨.inl ⟨h1, r, os, rfl, A1⟩, hb1⟩
      clear h1 A1 hb1
      go_wp2_with fail
      go_ret2
      exact G.out
    · obtain ⟨h1, rfl⟩ := h
      have G : Hid (Gives (A ^ n) w' (.returned (.tuple #[.slice none 0 0, .int .i64 2])) w1) := ⟨.inr ⟨h1, rfl⟩, hb1⟩
      clear h1 hb1
      go_wp2_with fail
      go_ret2
      exact G.out
end Go.Proofs.YtmihjiiagpkciaaDoor
