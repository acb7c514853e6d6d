/-
  Texts put together: QRef5, UFmod, MLeftR, MFmod, MRem, URem, ZAgainst.
-/
import Derived.Test.YtmakkfekomnpbaaGreatDoorRG
import Derived.Test.YtmakkfekomnpbaaGreatDoorQDivOk
import Derived.OwnWalk
import Derived.Deep.LoopGhost
import Derived.Test.YtmakkfekomnpbaaGreatDoorRE
import Derived.Test.YtmakkfekomnpbaaGreatDoorRC
import Derived.Test.YtmakkfekomnpbaaGreatDoorRA
import Derived.Test.YtmakkfekomnpbaaGreatDoorRD
import Derived.Test.YtmakkfekomnpbaaGreatDoorRB
namespace Go.Proofs.YtmakkfekomnpbaaGreatDoor
open Go.RowKit Go.Deep

/-- An own block of a trimmed list, as an answer. -/
theorem Own.ans {B g : Nat} {w : World} {zs : List Int} (h : Own w g (Nm.trim zs)) (hz : Nm.Limbs zs) (hB : B ≤ g) : Ans B w (some ⟨g, 0, none⟩) (Nm.trim zs) (Nm.val zs) :=
  ⟨h.lies, hz.trim, by rw [Nm.trim_trim, Nm.trim_length], Nm.val_trim zs, fun a ha => by cases ha; exact hB⟩

/-- Quotient and rest, as the reference tells them. -/
def Parts (A B : Int) (w : World) (e : Ending) (w' : World) : Prop :=
  ∃ r1 os r2 rs, e = .returned (.tuple #[.slice r1 (List.length os) (List.length os), .slice r2 (List.length rs) (List.length rs)]) ∧ Ans w.heap.size w' r1 os (A / B) ∧ Ans w.heap.size w' r2 rs (A % B) ∧ Below w.heap.size w w'

/-- What the list of the divisors moved up is, behind its making: all of it below block g. -/
structure Moved (Y : Nat) (b : Int) (gm g : Nat) (w : World) : Prop where
  at' : ∀ s, s < 64 → ∃ gs cs ms, w.cell? ⟨gm, s, none⟩ = some (.slice (some ⟨gs, 0, none⟩) (Y + 1) cs) ∧ Lies w (some ⟨gs, 0, none⟩) ms ∧ ms.length = Y + 1 ∧ Nm.Limbs ms ∧ Nm.val ms = b * 2 ^ s ∧ gs < g
  lt : gm < g

theorem Moved.lift {Y : Nat} {b : Int} {gm g g' : Nat} {w w' : World} (h : Moved Y b gm g w) (hb : Below g w w') (hg : g ≤ g') : Moved Y b gm g' w' := by
  refine ⟨fun s hs => ?_, by have := h.lt; omega⟩
  obtain ⟨gs, cs, ms, h1, h2, h3, h4, h5, h6⟩ := h.at' s hs
  exact ⟨gs, cs, ms, by rw [hb.cell (p := ⟨gm, s, none⟩) h.lt]; exact h1, h2.low hb (fun a ha => by cases ha; exact h6), h3, h4, h5, by omega⟩

/-- Of the headers' list, when all 64 are in. -/
theorem moved_of {base Y : Nat} {b : Int} {mv : Value} {l : List (Nat × Nat)} {w : World} (hb0 : 0 ≤ b) (hb : b < Nm.pw Y) (hl : l.length = 64) (ho : w.ownsRow base 43 1 mv 64 (l.map (hdr Y))) (hm : ∀ t e, l[t]? = some e → Mv Y (b * 2 ^ t) w e.1) :
    ∃ gm cp, mv = .slice (some ⟨gm, 0, none⟩) 64 cp ∧ Moved Y b gm w.heap.size w := by
  rcases ho.2 with ⟨_, h⟩ | ⟨gm, cp, cur, rfl, _, hcur, _, _, _, _⟩
  · omega
  · refine ⟨gm, cp, rfl, fun s hs => ?_, ?_⟩
    · have hs' : s < l.length := by omega
      have he : l[s]? = some l[s] := List.getElem?_eq_getElem hs'
      obtain ⟨ms, m1, m2, m3, m4⟩ := (hm s _ he).lies (qtwo_lt hb hb0 (by omega))
      refine ⟨(l[s]).1, (l[s]).2, ms, ?_, m1, m2, m3, m4, (hm s _ he).lt⟩
      have := ho.cells (g := gm) rfl s (hdr Y l[s]) (by rw [List.getElem?_map, he]; rfl)
      rw [Go.WideShapes.add_plain, Nat.zero_add] at this
      exact this
    · rcases Nat.lt_or_ge gm w.heap.size with h | h
      · exact h
      · rw [Array.getElem?_eq_none h] at hcur
        exact absurd hcur (by simp)

theorem part_take {rs : List Int} {R t M : Nat} (h : t + M ≤ R) : Qd.part (rs.take R) t M = Qd.part rs t M := by
  rw [Qd.part, Qd.part, List.drop_take, List.take_take, Nat.min_eq_left (by omega)]

/-- What holds tells, of the whole. -/
theorem holds_iff {rs : List Int} (hr : Nm.Limbs rs) {t M : Nat} (hl : t + M ≤ rs.length) (hv : Nm.val rs < Nm.pw (t + M)) (V : Int) : V ≤ Nm.val (Qd.part rs t M) ↔ Nm.pw t * V ≤ Nm.val rs := by
  have h1 := Qd.part_val hr hl hv
  have h2 := Nm.val_bd _ (hr.take t)
  rw [List.length_take, Nat.min_eq_left (by omega)] at h2
  have hp := Nm.pw_pos t
  constructor
  · intro h
    have := Int.mul_le_mul_of_nonneg_left h (show 0 ≤ Nm.pw t by omega)
    omega
  · intro h
    rcases (show V ≤ Nm.val (Qd.part rs t M) ∨ Nm.val (Qd.part rs t M) + 1 ≤ V by omega) with c | c
    · exact c
    · exfalso
      have := Int.mul_le_mul_of_nonneg_left c (show 0 ≤ Nm.pw t by omega)
      rw [Int.mul_add, Int.mul_one] at this
      omega

theorem InI.room {w : World} {g g2 C K : Nat} {A b : Int} {t k Y : Nat} {os rs : List Int} {wr : World} (h : InI w g g2 C K A b t k os rs wr) (hk : k ≤ 64) (hb : b < Nm.pw Y) (hb0 : 0 ≤ b) : Nm.val rs < Nm.pw (t + (Y + 1)) := by
  have h1 := h.lt
  have h2 := qtwo_lt hb hb0 hk
  have h3 : Nm.pw t * (b * 2 ^ k) ≤ Nm.pw t * Nm.pw (Y + 1) := Int.mul_le_mul_of_nonneg_left (by omega) (by have := Nm.pw_pos t; omega)
  rw [← Nm.pw_add] at h3
  omega

theorem holds_is (s : Bool) (p q : Option Addr) (R cap M cap' j : Nat) (rs ms : List Int) (ji : Int) (w : World) (hr : rs.length = R) (hR : R ≤ 17592186044416) (hm : ms.length = M) (hM : 0 < M) (hjM : j + M ≤ R) (h1 : Lies w p rs) (h2 : Lies w q ms) (hlr : Nm.Limbs rs) (hlm : Nm.Limbs ms) (hji : ji = (j : Int)) (hs : decide (Nm.val ms ≤ Nm.val (Qd.part rs j M)) = s) :
    Calls Tryz.prog 91 #[.slice p R cap, .int .i64 ji, .slice q M cap'] w fun e w' => e = .returned (.bool s) ∧ Below w.heap.size w w' := by
  rw [← hs]
  exact holds_any p q R cap M cap' j rs ms ji w hr hR hm hM hjM h1 h2 hlr hlm hji

set_option maxRecDepth 100000 in
set_option maxHeartbeats 4000000 in
theorem refDivide_any (p q : Option Addr) (n cap m cap' : Nat) (za zb : List Int) (w : World) (ha : Arg w p n cap za) (hb : Arg w q m cap' zb) (tz : Nm.tsize za ≤ 4096) (ty : Nm.tsize zb ≤ 4096) (hy : 0 < Nm.tsize zb) :
    Calls Tryz.prog 53 #[.slice p n cap, .slice q m cap'] w fun e w' => Parts (Nm.val za) (Nm.val zb) w e w' := by
  obtain ⟨N, hN⟩ : ∃ N, Nm.tsize za = N := ⟨_, rfl⟩
  obtain ⟨Y, hY⟩ : ∃ Y, Nm.tsize zb = Y := ⟨_, rfl⟩
  have ha1 := ha.2.1
  have ha2 := ha.2.2.1
  have hb1 := hb.2.1
  have hb2 := hb.2.2.1
  have S1 := short_any p n cap za N w ha.1 (by omega) ha.2.2.2.1 hN
  have b0 := (Nm.val_bd zb hb.2.2.2.2).1
  have a0 := (Nm.val_bd za ha.2.2.2.2).1
  have bY := Nm.val_lt_tsize hb.2.2.2.2
  rw [hY] at bY
  have HN := hid hN
  have HYY := hid hY
  have HA := hid ha
  have HB := hid hb
  have HS1 := hid S1
  have hN4 : N ≤ 4096 := by omega
  have hY4 : Y ≤ 4096 := by omega
  have hY0 : 0 < Y := by omega
  have RM : Hid (∀ K, N + 1 = K + Y → Nm.val za < Nm.pw K * Nm.val zb) := fun K hK => first_room ha.2.2.2.2 hb.2.2.2.2 hN hY hY0 hK
  have NM : Hid (N < Y → Nm.val za < Nm.val zb) := fun h => val_lt_of_tsize ha.2.2.2.2 hb.2.2.2.2 (by omega)
  obtain ⟨A, hAv⟩ : ∃ A, Nm.val za = A := ⟨_, rfl⟩
  obtain ⟨b, hbv⟩ : ∃ b, Nm.val zb = b := ⟨_, rfl⟩
  have HVA := hid hAv
  have HVB := hid hbv
  rw [hAv, hbv] at RM NM
  rw [hAv] at a0
  rw [hbv] at b0 bY
  rw [hAv, hbv]
  have HbY := hid bY
  clear ha hb tz ty hy S1 bY hN hY hAv hbv
  go_enter Tryz.func53, Tryz.ntmps53
  go_wp2_with fail
  refine HS1.out.mono ?_
  rintro e w1 ⟨rfl, o1, d1⟩
  have O1 := hid o1
  have D1 := hid d1
  clear o1 d1 HS1
  go_wp2_with fail
  refine (short_any q m cap' zb Y _ HB.out.1 (by omega) (HB.out.2.2.2.1.below D1.out (Nat.le_refl _)) HYY.out).mono ?_
  rintro e w2 ⟨rfl, o2, d2⟩
  have O1' := hid (O1.out.below d2 O1.out.lt)
  have O2 := hid o2
  have D2 := hid (chain D1.out d2 (Nat.le_refl _))
  have hw1 : w.heap.size ≤ w1.heap.size := D1.out.size
  clear o2 d2 O1 D1
  have A1 : Hid (Arg w2 (some ⟨w.heap.size, 0, none⟩) N N (Nm.trim za)) := ⟨(Nm.trim_length za).trans HN.out, Nat.le_refl _, by omega, O1'.out.lies, HA.out.2.2.2.2.trim⟩
  have A2 : Hid (Arg w2 (some ⟨w1.heap.size, 0, none⟩) Y Y (Nm.trim zb)) := ⟨(Nm.trim_length zb).trans HYY.out, Nat.le_refl _, by omega, O2.out.lies, HB.out.2.2.2.2.trim⟩
  by_cases hlt : A < b
  · have HLT := hid hlt
    clear hlt
    go_wp2_with fail
    refine (order_is (-1) _ _ N N Y Y (Nm.trim za) (Nm.trim zb) _ A1.out A2.out (cmpI_lt (by rw [Nm.val_trim, Nm.val_trim, HVA.out, HVB.out]; exact HLT.out))).mono ?_
    rintro e w3 ⟨rfl, d3⟩
    have F : Hid (Parts A b w (.returned (.tuple #[.slice none 0 0, .slice (some ⟨w.heap.size, 0, none⟩) N N])) w3) := by
      have hd := div_is (A := A) (B := b) (q := 0) (r := A) a0 HLT.out (by omega)
      have hl : (Nm.trim za).length = N := (Nm.trim_length za).trans HN.out
      refine ⟨none, [], some ⟨w.heap.size, 0, none⟩, Nm.trim za, by rw [hl]; rfl, ?_, ?_, chain D2.out d3 (Nat.le_refl _)⟩
      · rw [hd.1]; exact ans_none _ _ _ (fun a h => by cases h)
      · rw [hd.2, ← HVA.out]; exact (O1'.out.below d3 O1'.out.lt).ans HA.out.2.2.2.2 (Nat.le_refl _)
    clear d3
    go_wp2_with fail
    go_ret2
    exact F.out
  · obtain ⟨c, hc0, HC⟩ : ∃ c : Int, 0 ≤ c ∧ Hid (cmpI A b = c) := by
      rcases (show A = b ∨ b < A by omega) with h | h
      · exact ⟨0, by omega, cmpI_eq h⟩
      · exact ⟨1, by omega, cmpI_gt h⟩
    have hNY : Y ≤ N := by
      rcases Nat.lt_or_ge N Y with h | h
      · exact absurd (NM.out h) hlt
      · exact h
    clear hlt NM
    go_wp2_with fail
    refine (order_is c _ _ N N Y Y (Nm.trim za) (Nm.trim zb) _ A1.out A2.out (by rw [Nm.val_trim, Nm.val_trim, HVA.out, HVB.out]; exact HC.out)).mono ?_
    rintro e w3 ⟨rfl, d3⟩
    have D3 := hid (chain D2.out d3 (Nat.le_refl _))
    have HB3 := hid (HB.out.below D3.out (Nat.le_refl _))
    clear d3 O1' O2 A1 A2 D2
    go_wp2_with fail
    refine (short_any q m cap' zb Y _ HB3.out.1 (by omega) HB3.out.2.2.2.1 HYY.out).mono ?_
    rintro e w4 ⟨rfl, o4, d4⟩
    obtain ⟨c4, w5, ap, hc5, o5, d5⟩ := grow64 w3.heap.size Y (Nm.trim zb) 0 w4 ((Nm.trim_length zb).trans HYY.out) (by omega) o4
    have AP := hid ap
    have D5 := hid (chain (chain D3.out d4 (Nat.le_refl _)) d5 (Nat.le_refl _))
    have M5 : Hid (Mv Y (b * 2 ^ 0) w5 (w4.heap.size + 1)) := by
      refine ⟨_, o5, by simp [Nm.trim_length, HYY.out], ?_, ?_⟩
      · exact ((HB.out.2.2.2.2.trim).append (limb_one (by omega))).append (Nm.Limbs.replicate _)
      · rw [Nm.val_append, Nm.val_append, Nm.val_replicate, Nm.val_trim, HVB.out]
        simp [Nm.val]
    have hs5 := D5.out.size
    clear ap o4 d4 o5 d5 D3 HB3
    go_wp2_with (at_builtin; refine wpList_append_q rfl _ _ rfl AP.out (by rfl) (by rfl) ?_; clear AP)
    go_loopw [8, 9, 10] (fun a c i wr => ∃ (k : Nat) (mv : Value) (l : List (Nat × Nat)) (gm cm : Nat), k ≤ 64 ∧ i = .int .i64 k ∧ a = mv ∧ c = .slice (some ⟨gm, 0, none⟩) (Y + 1) cm ∧ Hid (Y + 1 ≤ cm) ∧ Hid (l.length = k ∧ wr.ownsRow w.heap.size 43 1 mv k (l.map (hdr Y)) ∧ (∀ t e, l[t]? = some e → Mv Y (b * 2 ^ t) wr e.1) ∧ Mv Y (b * 2 ^ k) wr gm ∧ Below w.heap.size w wr)) (fun _ _ i _ => 64 - (intOf i).toNat)
    case atStart => exact ⟨0, .slice none 0 0, [], w4.heap.size + 1, c4, by omega, rfl, rfl, rfl, hc5, rfl, World.ownsRow_nil _ _ _ _, fun t e h => by simp at h, M5.out, D5.out⟩
    case round =>
      clear M5 D5 hs5
      obtain ⟨k, mv, l, gm, cm, hk, rfl, hmv, rfl, HCM, I⟩ := hrel
      have hmv := hmv.symm
      subst hmv
      by_cases hk64 : k < 64
      · obtain ⟨i1, i2, i3, i4, i5⟩ := I.out
        obtain ⟨mv', w6, ap, j1, j2, j3, j4⟩ := pushHdr w.heap.size Y k mv l (gm, cm) wr i1 (by omega) i5.size i2
        have AP : Hid ((Builtin.append_ #[84, 84] 84 #[mv, .slice (some ⟨wr.heap.size, 0, none⟩) 1 1]).run Tryz.prog (wr.alloc (.cells #[.slice (some ⟨gm, 0, none⟩) (Y + 1) cm] 43)) = .ok mv' w6) := ap
        obtain ⟨ms, m1, m2, m3, m4⟩ := (j3 _ _ i4).lies (qtwo_lt HbY.out b0 (by omega))
        have J1 := hid j1
        have J2 := hid (i5.trans j2)
        have J3 : Hid ((∀ t e, (l ++ [(gm, cm)])[t]? = some e → Mv Y (b * 2 ^ t) w6 e.1) ∧ (l ++ [(gm, cm)]).length = k + 1) := by
          refine ⟨fun t e h => ?_, by simp [i1]⟩
          by_cases ht : t < l.length
          · rw [List.getElem?_append_left ht] at h
            exact j3 _ _ (i3 t e h)
          · have hlt := (List.getElem?_eq_some_iff.1 h).1
            simp only [List.length_append, List.length_cons, List.length_nil] at hlt
            have ht2 : t = k := by omega
            subst ht2
            rw [List.getElem?_append_right (by omega), i1, Nat.sub_self] at h
            simp at h
            subst h
            exact j3 _ _ i4
        have DB := hid (doubled_any (some ⟨gm, 0, none⟩) (Y + 1) cm ms 0 w6 m2 (by omega) m1 m3 (by omega) (by omega))
        have M4 := hid m4
        clear ap i1 i2 i3 i4 i5 j1 j2 j3 j4 m1 m2 m3 m4 I
        go_wp2_with (at_builtin; refine wpList_append_q rfl _ _ rfl AP.out (by rfl) (by rfl) ?_; clear AP)
        refine DB.out.mono ?_
        rintro e w7 ⟨os, rfl, K⟩
        have KK : Hid ((l ++ [(gm, cm)]).length = k + 1 ∧ w7.ownsRow w.heap.size 43 1 mv' (k + 1) ((l ++ [(gm, cm)]).map (hdr Y)) ∧ (∀ t e, (l ++ [(gm, cm)])[t]? = some e → Mv Y (b * 2 ^ t) w7 e.1) ∧ Mv Y (b * 2 ^ (k + 1)) w7 w6.heap.size ∧ Below w.heap.size w w7) := by
          obtain ⟨k1, k2, k3, k4, k5⟩ := K.out
          refine ⟨J3.out.2, ?_, fun t e h => (J3.out.1 t e h).below k5, ⟨os, k1, by omega, k3, ?_⟩, chain J2.out k5 (Nat.le_refl _)⟩
          · exact J1.out.kept (row := none) ⟨k5.os, k5.tape, k5.output, k5.size, fun j hj _ => k5.block j hj⟩ (by cases h : Value.ownBlock mv' <;> simp)
          · rw [k4, M4.out, Nm.two_succ, Int.mul_left_comm]; omega
        clear K DB J1 J2 J3 M4
        go_wp2_with fail
        go_roundw
        case rel => exact ⟨k + 1, mv', l ++ [(gm, cm)], w6.heap.size, Y + 1 + 1, by omega, by go_num, rfl, rfl, by show _ ≤ _; omega, KK.out⟩
        case measure => simp [intOf]; omega
      · have hk2 : k = 64 := by omega
        subst hk2
        obtain ⟨i1, i2, i3, i4, i5⟩ := I.out
        obtain ⟨gv, cv, rfl, MV⟩ := moved_of b0 HbY.out i1 i2 i3
        have HMV := hid MV
        have D6 := hid i5
        have HA6 := hid (HA.out.below i5 (Nat.le_refl _))
        clear MV i1 i2 i3 i4 i5 I
        go_wp2_with fail
        refine (short_any p n cap za N _ HA6.out.1 (by omega) HA6.out.2.2.2.1 HN.out).mono ?_
        rintro e w7 ⟨rfl, o7, d7⟩
        obtain ⟨C, w8, ap, hc8, o8, d8⟩ := grow64 wr.heap.size N (Nm.trim za) 0 w7 ((Nm.trim_length za).trans HN.out) (by omega) o7
        have AP := hid ap
        have D8 := hid (chain d7 d8 (Nat.le_refl _))
        obtain ⟨J, HJ⟩ : ∃ J, Hid (J = N - Y) := ⟨_, rfl⟩
        have hJ : J ≤ 4096 := by rw [HJ.out]; omega
        have r1 : (N : Int) - (Y : Int) = (J : Int) := by rw [HJ.out]; omega
        have hmk := make64 (J + 1) (by omega) w8
        have em : ((J + 1 : Nat) : Int) = (J : Int) + 1 := by omega
        rw [em] at hmk
        clear em
        have hb9 : Below w8.heap.size w8 (w8.alloc (.cells (madeCells #[.int .u64 0] (J + 1)) 26)) := (Below.refl _ _).alloc (Nat.le_refl _) _
        have ho9 : Own (w8.alloc (.cells (madeCells #[.int .u64 0] (J + 1)) 26)) w8.heap.size (List.replicate (J + 1) 0) := by
          rw [made_zero]; exact Own.alloc w8 _
        obtain ⟨W0, hW0⟩ : ∃ W0, w8.alloc (.cells (madeCells #[.int .u64 0] (J + 1)) 26) = W0 := ⟨_, rfl⟩
        rw [hW0] at hmk hb9 ho9
        clear hW0
        have hg : w7.heap.size + 1 < w8.heap.size := o8.lt
        have d78 := chain d7 d8 (Nat.le_refl _)
        have HM8 := hid (HMV.out.lift d78 (show wr.heap.size ≤ w7.heap.size + 1 by have := d7.size; omega))
        have I0 : Hid (DivI w8 (w7.heap.size + 1) w8.heap.size C (J + 1) A b (J + 1) (List.replicate (J + 1) 0) (Nm.trim za ++ [0] ++ List.replicate (C - (N + 1)) 0) W0) := by
          have ev : Nm.val (Nm.trim za ++ [0] ++ List.replicate (C - (N + 1)) 0) = A := by
            rw [Nm.val_append, Nm.val_append, Nm.val_replicate, Nm.val_trim, HVA.out]
            simp [Nm.val]
          refine ⟨o8.below hb9 o8.lt, by simp [Nm.trim_length, HN.out]; omega, ((HA.out.2.2.2.2.trim).append (limb_one (by omega))).append (Nm.Limbs.replicate _), ho9, by simp, Nm.Limbs.replicate _, fun i _ => getD_replicate _ _, ?_, ?_, hb9.mono (Nat.le_of_lt hg)⟩
          · rw [Nm.val_replicate, ev]; omega
          · rw [ev]; exact RM.out (J + 1) (by rw [HJ.out]; omega)
        have D8 := hid (chain D6.out d78 (Nat.le_refl _))
        obtain ⟨g, hge⟩ : ∃ g, w7.heap.size + 1 = g := ⟨_, rfl⟩
        obtain ⟨gq, hgq⟩ : ∃ gq, w8.heap.size = gq := ⟨_, rfl⟩
        rw [hge] at I0 HM8 hg AP
        rw [hgq] at I0 hg hmk
        have hbase : Hid (w.heap.size ≤ g) := by
          show _ ≤ _
          have := D6.out.size
          have := d7.size
          omega
        clear ap o7 d7 o8 d8 d78 hb9 ho9 HMV HA6 hge hgq
        go_wp2_with (at_builtin; refine wpList_append_q rfl _ _ rfl AP.out (by rfl) (by rfl) ?_; clear AP)
        go_loopg [13] (J + 1) (fun j i wx => ∃ (os rs : List Int), j ≤ J + 1 ∧ i = .int .i64 ((j : Int) - 1) ∧ Hid (DivI w8 g gq C (J + 1) A b j os rs wx))
        case atStart => exact ⟨_, _, Nat.le_refl _, by go_num, I0.out⟩
        case round =>
          clear I0 hmk r1
          obtain ⟨os, rs, hj, rfl, I⟩ := hrel
          cases gk with
          | zero =>
            have HO := hid I.out.own2
            have HR := hid I.out.own
            have HE : Hid (A / b = Nm.val os ∧ A % b = Nm.val rs) := by
              have h1 := I.out.eq
              have h2 := I.out.lt
              simp only [Nm.pw, Int.one_mul] at h2
              exact div_is (Nm.val_bd rs I.out.lim).1 h2 h1
            have hrs : Hid (Nm.val (rs.take (N + 1)) = Nm.val rs) := by
              have h2 := I.out.lt
              simp only [Nm.pw, Int.one_mul] at h2
              refine Nm.val_take_of_zero rs (N + 1) (fun i hi => Nm.zero_of_lt I.out.lim (k := Y) (by have := HbY.out; omega) i (by omega))
            have hlen : Hid ((rs.take (N + 1)).length = N + 1) := by
              show _ = _
              rw [List.length_take, I.out.len]
              omega
            obtain ⟨T1, hT1⟩ : ∃ T, Hid (Nm.tsize os = T) := ⟨_, rfl⟩
            obtain ⟨T2, hT2⟩ : ∃ T, Hid (Nm.tsize (rs.take (N + 1)) = T) := ⟨_, rfl⟩
            have DX := hid (D8.out.trans (I.out.low.mono hbase.out))
            have hq1 : Hid (os.length = J + 1) := I.out.len2
            have L1 := hid I.out.lim
            have L2 := hid I.out.lim2
            clear I
            go_wp2_with fail
            refine (short_any (some ⟨gq, 0, none⟩) (J + 1) (J + 1) os T1 _ hq1.out (by omega) HO.out.lies hT1.out).mono ?_
            rintro e w10 ⟨rfl, o10, d10⟩
            have O10 := hid o10
            have D10 := hid d10
            have HR2 := hid (HR.out.below d10 HR.out.lt)
            have hsz : Hid (w.heap.size ≤ wr.heap.size) := DX.out.size
            clear o10 d10 HR
            go_wp2_with fail
            refine (short_any (some ⟨g, 0, none⟩) (N + 1) C (rs.take (N + 1)) T2 _ hlen.out (by omega) (HR2.out.lies.take _) hT2.out).mono ?_
            rintro e w11 ⟨rfl, o11, d11⟩
            have F : Hid (Parts A b w (.returned (.tuple #[.slice (some ⟨wr.heap.size, 0, none⟩) T1 T1, .slice (some ⟨w10.heap.size, 0, none⟩) T2 T2])) w11) := by
              have l1 : (Nm.trim os).length = T1 := (Nm.trim_length os).trans hT1.out
              have l2 : (Nm.trim (rs.take (N + 1))).length = T2 := (Nm.trim_length _).trans hT2.out
              refine ⟨_, Nm.trim os, _, Nm.trim (rs.take (N + 1)), by rw [l1, l2], ?_, ?_, chain (chain DX.out D10.out (Nat.le_refl _)) d11 (Nat.le_refl _)⟩
              · rw [HE.out.1]; exact (O10.out.below d11 O10.out.lt).ans L2.out hsz.out
              · rw [HE.out.2, ← hrs.out]; exact o11.ans (L1.out.take _) (Nat.le_trans hsz.out D10.out.size)
            clear o11 d11
            go_wp2_with fail
            go_ret2
            exact F.out
          | succ t =>
            have II := hid (InI.first I.out)
            have htJ : (t : Int) < (J : Int) + 1 := by omega
            clear I
            rw [show ((t + 1 : Nat) : Int) - 1 = (t : Int) by omega]
            go_wp2_with fail
            go_loopg [14] 64 (fun k i wy => ∃ (os rs : List Int), k ≤ 64 ∧ i = .int .i64 ((k : Int) - 1) ∧ Hid (InI w8 g gq C (J + 1) A b t k os rs wy))
            case atStart => exact ⟨os, rs, Nat.le_refl _, rfl, II.out⟩
            case round =>
              clear II
              obtain ⟨os, rs, hk, rfl, I⟩ := hrel
              cases gk with
              | zero =>
                have IL := hid I.out.last
                clear I
                go_wp2_with fail
                go_roundg t
                case measure => omega
                case rel => exact ⟨os, rs, by omega, by go_num, IL.out⟩
              | succ s =>
                obtain ⟨gs, cs, ms, hcell, m2, m3, m4, m5, m6⟩ := (HM8.out.lift I.out.low (Nat.le_refl _)).at' s (by omega)
                have hgv := HM8.out.lt
                have M2 := hid m2
                have M3 := hid m3
                have M4 := hid m4
                have M5 := hid m5
                have hlen : Hid ((rs.take (N + 1)).length = N + 1) := by
                  show _ = _
                  rw [List.length_take, I.out.len]
                  omega
                have hNt : Hid (t + (Y + 1) ≤ N + 1) := by show _ ≤ _; have := HJ.out; omega
                have hlt2 : Hid (t + (Y + 1) ≤ rs.length) := by show _ ≤ _; rw [I.out.len]; have := hNt.out; omega
                have RO := hid (I.out.room hk HbY.out b0)
                have HI := hid (holds_iff I.out.lim hlt2.out RO.out (b * 2 ^ s))
                have hs64 : (s : Int) < 64 := by omega
                clear m2 m3 m4 m5
                by_cases hle : Nm.pw t * (b * 2 ^ s) ≤ Nm.val rs
                · have HO := hid (holds_is true (some ⟨g, 0, none⟩) (some ⟨gs, 0, none⟩) (N + 1) C (Y + 1) cs t (rs.take (N + 1)) ms (t : Int) wr hlen.out (by omega) M3.out (by omega) hNt.out (I.out.own.lies.take _) M2.out (I.out.lim.take _) M4.out rfl (by rw [part_take hNt.out, M5.out]; simp only [decide_eq_true_eq]; exact HI.out.2 hle))
                  have HLE := hid hle
                  clear hle HI
                  go_wp2_with fail
                  refine HO.out.mono ?_
                  rintro e w12 ⟨rfl, d12⟩
                  have hcell2 : w12.cell? ⟨gv, s, none⟩ = some (.slice (some ⟨gs, 0, none⟩) (Y + 1) cs) := by
                    rw [d12.cell (p := ⟨gv, s, none⟩) (by show gv < wr.heap.size; have := I.out.own.lt; omega)]
                    exact hcell
                  have D12 := hid d12
                  have OR := hid (I.out.orr (by omega))
                  have TO := hid (takeOff_any g C (N + 1) C (Y + 1) cs t rs (some ⟨gs, 0, none⟩) ms (t : Int) w12 (I.out.own.below d12 I.out.own.lt) I.out.len hc8 (by omega) M3.out (by omega) hNt.out I.out.lim (M2.out.below d12 (Nat.le_refl _)) M4.out (fun a ha => by cases ha; show gs ≠ g; omega) rfl (by rw [M5.out]; exact HLE.out) RO.out)
                  rw [M5.out] at TO
                  clear hcell d12 HO
                  go_wp2_with fail
                  refine TO.out.mono ?_
                  rintro e w13 ⟨rs', rfl, P⟩
                  obtain ⟨o2, IN⟩ := I.out.take (by omega) hg D12.out P.out.1 P.out.2.1 P.out.2.2.1 P.out.2.2.2.1 P.out.2.2.2.2.1 P.out.2.2.2.2.2.2 (by omega)
                  obtain ⟨y, hy, YE⟩ : ∃ y, w13.cell? ⟨gq, t, none⟩ = some (.int .u64 y) ∧ Hid (os.getD t 0 = y) := ⟨_, o2.cell t (by have := I.out.len2; omega), rfl⟩
                  have hfr := o2.free t
                  rw [YE.out] at IN OR
                  obtain ⟨PP, HP⟩ : ∃ P : Int, Hid (2 ^ s = P) := ⟨_, rfl⟩
                  have q1 : IntKind.u64.wrap (2 ^ s) = PP := by
                    have h1 := Nm.two_pos s
                    have h2 := Nm.two_mono (show s ≤ 63 by omega)
                    rw [show (2 : Int) ^ 63 = 9223372036854775808 by decide] at h2
                    rw [← HP.out, wrap_mod]
                    omega
                  rw [HP.out] at OR IN
                  have q2 := OR.out.1
                  obtain ⟨z, HZ⟩ : ∃ z, Hid (y + PP = z) := ⟨_, rfl⟩
                  rw [HZ.out] at q2 IN
                  have HIN := hid IN
                  clear IN o2 P I TO OR
                  go_wp2_with fail
                  go_roundg s
                  case measure => omega
                  case rel => exact ⟨_, rs', by omega, by go_num, HIN.out⟩
                · have HO := hid (holds_is false (some ⟨g, 0, none⟩) (some ⟨gs, 0, none⟩) (N + 1) C (Y + 1) cs t (rs.take (N + 1)) ms (t : Int) wr hlen.out (by omega) M3.out (by omega) hNt.out (I.out.own.lies.take _) M2.out (I.out.lim.take _) M4.out rfl (by rw [part_take hNt.out, M5.out]; simp only [decide_eq_false_iff_not]; exact fun h => hle (HI.out.1 h)))
                  have HLE : Hid (Nm.val rs < Nm.pw t * (b * 2 ^ s)) := Int.not_le.1 hle
                  clear hle HI
                  go_wp2_with fail
                  refine HO.out.mono ?_
                  rintro e w12 ⟨rfl, d12⟩
                  have HIN := hid (I.out.skip d12 HLE.out)
                  clear d12 I
                  go_wp2_with fail
                  go_roundg s
                  case measure => omega
                  case rel => exact ⟨os, rs, by omega, by go_num, HIN.out⟩
end Go.Proofs.YtmakkfekomnpbaaGreatDoor

/-
  The document's layer 6: Fmod (made by mkufmod.py).
-/
namespace Go.Proofs.YtmakkfekomnpbaaGreatDoor
open Go Go.RowKit Go.Deep

set_option maxRecDepth 100000 in
set_option maxHeartbeats 8000000 in
theorem ufmod_any (a b : Int) (w : World) (a0 : 0 ≤ a) (a1 : a < 18446744073709551616) (b0 : 0 ≤ b) (b1 : b < 18446744073709551616) :
    Calls Tryz.prog 23 #[.int .u64 a, .int .u64 b] w fun e w' => ∃ r, e = .returned (.int .u64 r) ∧ Ie.LeftIs a b false r ∧ Below w.heap.size w w' := by
  have DA := hid (fun (wx : World) => zdecode_any a wx a0 a1)
  have DB := hid (fun (wx : World) => zdecode_any b wx b0 b1)
  rw [← Ie.ngd] at DA DB
  have a4 := Ie.isn_cls a
  have a3 := Ie.isi_cls a
  have az := Ie.isz_cls a
  have b4 := Ie.isn_cls b
  have b3 := Ie.isi_cls b
  have bz := Ie.isz_cls b
  rw [Bool.eq_iff_iff, beq_iff_eq] at a4 a3 az b4 b3 bz
  by_cases h1 : Ie.isn a = true ∨ Ie.isn b = true ∨ Ie.isi a = true ∨ Ie.isz b = true
  · have E : Hid (Ie.LeftIs a b false 9221120237041090560) := by
      refine ⟨fun _ => rfl, fun fa ib => ?_, fun fa fb zb => ?_⟩
      · exfalso
        rcases h1 with h | h | h | h
        · rw [(Ie.fin_kinds fa).1] at h; cases h
        · rw [(Ie.si_not ib).2] at h; cases h
        · rw [(Ie.fin_kinds fa).2] at h; cases h
        · rw [(Ie.sz_not h).1] at ib; cases ib
      · exfalso
        rcases h1 with h | h | h | h
        · rw [(Ie.fin_kinds fa).1] at h; cases h
        · rw [(Ie.fin_kinds fb).1] at h; cases h
        · rw [(Ie.fin_kinds fa).2] at h; cases h
        · rw [Ie.isz, decide_eq_true_iff] at h; exact zb h
    have hc : Ie.cls a = 4 ∨ Ie.cls b = 4 ∨ Ie.cls a = 3 ∨ Ie.cls b = 0 := by
      rcases h1 with h | h | h | h
      · exact .inl (a4.2 h)
      · exact .inr (.inl (b4.2 h))
      · exact .inr (.inr (.inl (a3.2 h)))
      · exact .inr (.inr (.inr (bz.2 h)))
    have EA := hid (fun (wx : World) => early_nan (Ie.ngd a) (Ie.ngd b) _ (Ie.dm a) (Ie.de a) _ (Ie.dm b) (Ie.de b) a wx hc)
    simp only [partsOf] at DA DB EA
    clear a4 a3 az b4 b3 bz h1 hc
    generalize Ie.ngd a = na at *
    generalize Ie.cls a = ca at *
    generalize Ie.dm a = ma at *
    generalize Ie.de a = ea at *
    generalize Ie.ngd b = nb at *
    generalize Ie.cls b = cb at *
    generalize Ie.dm b = mb at *
    generalize Ie.de b = eb at *
    go_enter Tryz.func23, Tryz.ntmps23
    go_wp2_with fail
    refine (DA.out _).mono ?_
    rintro e w1 ⟨rfl, hB⟩
    have hb := hB.trans ((alloc_b w1 (.cells #[.bool na, .int .i64 ca, .int .u64 ma, .int .i64 ea] 40)).mono hB.size)
    have P := Row4.new w1 40 (.bool na) (.int .i64 ca) (.int .u64 ma) (.int .i64 ea)
    go_upto_region 2 with fail
    have HB1 := hid hb
    have PH := hid P
    clear hB hb P DA
    generalize w1.alloc (.cells #[.bool na, .int .i64 ca, .int .u64 ma, .int .i64 ea] 40) = wA at *
    generalize w1.heap.size = ba at *
    go_wp2_with fail
    refine (DB.out _).mono ?_
    rintro e w2 ⟨rfl, hB⟩
    have hb := hB.trans ((alloc_b w2 (.cells #[.bool nb, .int .i64 cb, .int .u64 mb, .int .i64 eb] 40)).mono hB.size)
    have S0 : Hid (TwoR w (w2.alloc (.cells #[.bool nb, .int .i64 cb, .int .u64 mb, .int .i64 eb] 40)) ba w2.heap.size na nb ca ma ea cb mb eb) := ⟨HB1.out.trans (hb.mono HB1.out.size), PH.out.below hb PH.out.lt, Row4.new w2 _ _ _ _ _⟩
    go_upto_region 3 with fail
    clear hB hb DB HB1 PH
    generalize w2.alloc (.cells #[.bool nb, .int .i64 cb, .int .u64 mb, .int .i64 eb] 40) = wB at *
    generalize w2.heap.size = bb at *
    obtain ⟨⟨p0, p1, p2, p3⟩, -⟩ := S0.out.2.1.cells
    obtain ⟨⟨q0, q1, q2, q3⟩, -⟩ := S0.out.2.2.cells
    go_wp2_with fail
    refine (EA.out _).mono ?_
    rintro e w3 ⟨rfl, hB⟩
    have S1 := hid (S0.out.on hB)
    clear hB p0 p1 p2 p3 q0 q1 q2 q3 S0 EA
    go_wp2_with fail
    go_ret
    exact ⟨_, rfl, E.out, S1.out.1⟩
  · have n1 : Ie.cls a ≠ 4 := fun h => h1 (.inl (a4.1 h))
    have n2 : Ie.cls b ≠ 4 := fun h => h1 (.inr (.inl (b4.1 h)))
    have n3 : Ie.cls a ≠ 3 := fun h => h1 (.inr (.inr (.inl (a3.1 h))))
    have n4 : Ie.cls b ≠ 0 := fun h => h1 (.inr (.inr (.inr (bz.1 h))))
    have fa : Ie.fin a := by
      rcases Ie.kind3 a with k | k | k
      · exact absurd (.inl k) h1
      · exact absurd (.inr (.inr (.inl k))) h1
      · exact k
    by_cases h2 : Ie.isi b = true ∨ Ie.isz a = true
    · have E : Hid (Ie.LeftIs a b false a) := by
        refine ⟨fun h => absurd h h1, fun _ _ => rfl, fun _ fb zb => ?_⟩
        have za : Ie.isz a = true := by
          rcases h2 with h | h
          · rw [(Ie.fin_kinds fb).2] at h; cases h
          · exact h
        rw [Ie.isz, decide_eq_true_iff] at za
        have ea := Ie.sg_ab a a0 a1
        rw [za] at ea
        refine ⟨0, ?_, by omega, by omega, ?_⟩
        · rw [Bool.bne_false]; exact ea
        · rw [za, Ie.un_zero, Ie.lft, Int.zero_emod]; rfl
      have hc : Ie.cls b = 3 ∨ Ie.cls a = 0 := by
        rcases h2 with h | h
        · exact .inl (b3.2 h)
        · exact .inr (az.2 h)
      have EA := hid (fun (wx : World) => early_a (Ie.ngd a) (Ie.ngd b) _ (Ie.dm a) (Ie.de a) _ (Ie.dm b) (Ie.de b) a wx n1 n2 n3 n4 hc)
      simp only [partsOf] at DA DB EA
      clear a4 a3 az b4 b3 bz h1 h2 hc n1 n2 n3 n4 fa
      generalize Ie.ngd a = na at *
      generalize Ie.cls a = ca at *
      generalize Ie.dm a = ma at *
      generalize Ie.de a = ea at *
      generalize Ie.ngd b = nb at *
      generalize Ie.cls b = cb at *
      generalize Ie.dm b = mb at *
      generalize Ie.de b = eb at *
      go_enter Tryz.func23, Tryz.ntmps23
      go_wp2_with fail
      refine (DA.out _).mono ?_
      rintro e w1 ⟨rfl, hB⟩
      have hb := hB.trans ((alloc_b w1 (.cells #[.bool na, .int .i64 ca, .int .u64 ma, .int .i64 ea] 40)).mono hB.size)
      have P := Row4.new w1 40 (.bool na) (.int .i64 ca) (.int .u64 ma) (.int .i64 ea)
      go_upto_region 2 with fail
      have HB1 := hid hb
      have PH := hid P
      clear hB hb P DA
      generalize w1.alloc (.cells #[.bool na, .int .i64 ca, .int .u64 ma, .int .i64 ea] 40) = wA at *
      generalize w1.heap.size = ba at *
      go_wp2_with fail
      refine (DB.out _).mono ?_
      rintro e w2 ⟨rfl, hB⟩
      have hb := hB.trans ((alloc_b w2 (.cells #[.bool nb, .int .i64 cb, .int .u64 mb, .int .i64 eb] 40)).mono hB.size)
      have S0 : Hid (TwoR w (w2.alloc (.cells #[.bool nb, .int .i64 cb, .int .u64 mb, .int .i64 eb] 40)) ba w2.heap.size na nb ca ma ea cb mb eb) := ⟨HB1.out.trans (hb.mono HB1.out.size), PH.out.below hb PH.out.lt, Row4.new w2 _ _ _ _ _⟩
      go_upto_region 3 with fail
      clear hB hb DB HB1 PH
      generalize w2.alloc (.cells #[.bool nb, .int .i64 cb, .int .u64 mb, .int .i64 eb] 40) = wB at *
      generalize w2.heap.size = bb at *
      obtain ⟨⟨p0, p1, p2, p3⟩, -⟩ := S0.out.2.1.cells
      obtain ⟨⟨q0, q1, q2, q3⟩, -⟩ := S0.out.2.2.cells
      go_wp2_with fail
      refine (EA.out _).mono ?_
      rintro e w3 ⟨rfl, hB⟩
      have S1 := hid (S0.out.on hB)
      clear hB p0 p1 p2 p3 q0 q1 q2 q3 S0 EA
      go_wp2_with fail
      go_ret
      exact ⟨_, rfl, E.out, S1.out.1⟩
    · have n5 : Ie.cls b ≠ 3 := fun h => h2 (.inl (b3.1 h))
      have n6 : Ie.cls a ≠ 0 := fun h => h2 (.inr (az.1 h))
      have fb : Ie.fin b := by
        rcases Ie.kind3 b with k | k | k
        · exact absurd (.inr (.inl k)) h1
        · exact absurd (.inl k) h2
        · exact k
      have zb : Ie.ab b ≠ 0 := fun e => h1 (.inr (.inr (.inr (by rw [Ie.isz, decide_eq_true_iff]; exact e))))
      have EA := hid (fun (wx : World) => early_no (Ie.ngd a) (Ie.ngd b) _ (Ie.dm a) (Ie.de a) _ (Ie.dm b) (Ie.de b) a wx n1 n2 n3 n4 n5 n6)
      obtain ⟨⟨ma0, ma1⟩, ⟨ea0, ea1⟩, -, -⟩ := Ie.dec_f a fa
      obtain ⟨⟨mb0, mb1⟩, ⟨eb0, eb1⟩, -, -⟩ := Ie.dec_f b fb
      have CM := hid (fun (wx : World) => common_any (Ie.ngd a) (Ie.ngd b) (Ie.cls a) (Ie.dm a) (Ie.de a) (Ie.cls b) (Ie.dm b) (Ie.de b) wx ma0 ma1 mb0 mb1 ea0 ea1 eb0 eb1)
      have NU := hid (fun (x : Int) (i j : Nat) (hx : x = Ie.de a ∨ x = Ie.de b) (hi : (i : Int) = Ie.de a - x) (hj : (j : Int) = Ie.de b - x) => Ie.left_nums fa fb zb hx hi hj)
      have FI : Hid (∀ y, Ie.un y = Ie.lft (Ie.un (Ie.ab a)) (Ie.un (Ie.ab b)) false ∧ 0 ≤ y ∧ y < 9218868437227405312 → Ie.LeftIs a b false (Ie.sg (Ie.ngd a != false) y)) :=
        fun y hy => ⟨fun h => absurd h h1, fun _ ib => absurd (.inl ib) h2, fun _ _ _ => ⟨y, rfl, hy.2.1, hy.2.2, hy.1⟩⟩
      simp only [partsOf] at DA DB EA CM
      clear a4 a3 az b4 b3 bz h1 h2 n1 n2 n3 n4 n5 n6 fa fb zb ma0 ma1 mb0 mb1 ea0 ea1 eb0 eb1
      rw [Bool.bne_false] at FI
      generalize Ie.ngd a = na at *
      generalize Ie.cls a = ca at *
      generalize Ie.dm a = ma at *
      generalize Ie.de a = ea at *
      generalize Ie.ngd b = nb at *
      generalize Ie.cls b = cb at *
      generalize Ie.dm b = mb at *
      generalize Ie.de b = eb at *
      generalize Ie.un (Ie.ab a) = UA at *
      generalize Ie.un (Ie.ab b) = UB at *
      go_enter Tryz.func23, Tryz.ntmps23
      go_wp2_with fail
      refine (DA.out _).mono ?_
      rintro e w1 ⟨rfl, hB⟩
      have hb := hB.trans ((alloc_b w1 (.cells #[.bool na, .int .i64 ca, .int .u64 ma, .int .i64 ea] 40)).mono hB.size)
      have P := Row4.new w1 40 (.bool na) (.int .i64 ca) (.int .u64 ma) (.int .i64 ea)
      go_upto_region 2 with fail
      have HB1 := hid hb
      have PH := hid P
      clear hB hb P DA
      generalize w1.alloc (.cells #[.bool na, .int .i64 ca, .int .u64 ma, .int .i64 ea] 40) = wA at *
      generalize w1.heap.size = ba at *
      go_wp2_with fail
      refine (DB.out _).mono ?_
      rintro e w2 ⟨rfl, hB⟩
      have hb := hB.trans ((alloc_b w2 (.cells #[.bool nb, .int .i64 cb, .int .u64 mb, .int .i64 eb] 40)).mono hB.size)
      have S0 : Hid (TwoR w (w2.alloc (.cells #[.bool nb, .int .i64 cb, .int .u64 mb, .int .i64 eb] 40)) ba w2.heap.size na nb ca ma ea cb mb eb) := ⟨HB1.out.trans (hb.mono HB1.out.size), PH.out.below hb PH.out.lt, Row4.new w2 _ _ _ _ _⟩
      go_upto_region 3 with fail
      clear hB hb DB HB1 PH
      generalize w2.alloc (.cells #[.bool nb, .int .i64 cb, .int .u64 mb, .int .i64 eb] 40) = wB at *
      generalize w2.heap.size = bb at *
      obtain ⟨⟨p0, p1, p2, p3⟩, -⟩ := S0.out.2.1.cells
      obtain ⟨⟨q0, q1, q2, q3⟩, -⟩ := S0.out.2.2.cells
      go_wp2_with fail
      refine (EA.out _).mono ?_
      rintro e w3 ⟨rfl, hB⟩
      have S1 := hid (S0.out.on hB)
      clear hB p0 p1 p2 p3 q0 q1 q2 q3 S0 EA
      obtain ⟨⟨p0, p1, p2, p3⟩, -⟩ := S1.out.2.1.cells
      obtain ⟨⟨q0, q1, q2, q3⟩, -⟩ := S1.out.2.2.cells
      go_wp2_with fail
      refine (CM.out _).mono ?_
      rintro e w4 ⟨r1, o1, r2, o2, x, rfl, ⟨ka, kb, hka, hkb, hx, ⟨B1, A1⟩, B2, A2⟩, hB⟩
      have S2 := hid (S1.out.on hB)
      obtain ⟨⟨l1, l2, v2, v1⟩, -, -, N3⟩ := NU.out x ka kb hx hka hkb
      have DV := hid (refDivide_any r1 r2 _ _ _ _ o1 o2 w4 (A1.argT l1) (A2.argT l2) (A1.tsT l1) (A2.tsT l2) (by
        rcases Nat.eq_zero_or_pos (Nm.tsize o2) with z | z
        · exfalso
          have := (Nm.tsize_zero_iff (A2.argT l2).2.2.2.2).1 z
          rw [A2.2.2.2.1] at this
          omega
        · exact z))
      rw [A1.2.2.2.1, A2.2.2.2.1] at DV
      have l3 : ma * 2 ^ ka % (mb * 2 ^ kb) < Nm.pw 4096 := by have := Int.emod_lt_of_pos (ma * 2 ^ ka) v2; omega
      have WP : Hid (∀ y, Ie.Rnd (ma * 2 ^ ka % (mb * 2 ^ kb)) 1 x false y → Ie.LeftIs a b false (Ie.sg na y)) := fun y hy => FI.out y (N3 false y (fun h => (by cases h)) hy)
      have L3 := hid l3
      clear hB p0 p1 p2 p3 q0 q1 q2 q3 CM S1 NU FI N3 A1 A2 l1 l2 l3 v2 v1 hka hkb hx
      generalize hR0 : ma * 2 ^ ka % (mb * 2 ^ kb) = R at *
      have ER := hid hR0
      clear hR0
      go_wp2_with fail
      refine DV.out.mono ?_
      rintro e w5 ⟨rq, oq, rr, os, rfl, -, AR, hB⟩
      have S3 := hid (S2.out.on hB)
      rw [ER.out] at AR
      have RO := hid (zround_any na rr _ _ os w5 (AR.argT L3.out) (AR.tsT L3.out) R x false AR.2.2.2.1)
      obtain ⟨⟨p0, p1, p2, p3⟩, -⟩ := S3.out.2.1.cells
      clear hB AR S2 DV L3
      go_wp2_with fail
      refine RO.out.mono ?_
      rintro e wz ⟨y, rfl, hR, hz⟩
      have KK := hid (WP.out y hR)
      clear hR
      replace hz := hz.symm
      subst hz
      go_wp2_with fail
      go_ret
      exact ⟨_, rfl, KK.out, S3.out.1⟩
end Go.Proofs.YtmakkfekomnpbaaGreatDoor

/-
  remain: left, by Remainder's rule (made by mkmleft.py).
-/
namespace Go.Proofs.YtmakkfekomnpbaaGreatDoor
open Go Go.RowKit Go.Deep

set_option maxRecDepth 100000 in
set_option maxHeartbeats 8000000 in
theorem left_R (a b : Int) (up : Bool) (w : World) (hT : Tab w) (a0 : 0 ≤ a) (a1 : a < 18446744073709551616) (b0 : 0 ≤ b) (b1 : b < 18446744073709551616) (fa : Ie.fin a) (fb : Ie.fin b) (zb : Ie.ab b ≠ 0)
    (AW : ∀ wx : World, Below w.heap.size w wx → Calls Tryz.prog 54 #[.bool (Ie.un (Ie.ab a) / Ie.un (Ie.ab b) % 2 == 1), .int .i64 (cmpI (2 * (Ie.un (Ie.ab a) % Ie.un (Ie.ab b))) (Ie.un (Ie.ab b)))] wx fun e w' => e = .returned (.bool up) ∧ w' = wx)
    (UP : up = true → Ie.un (Ie.ab b) ≤ 2 * (Ie.un (Ie.ab a) % Ie.un (Ie.ab b))) :
    Calls Tryz.prog 38 #[.int .u64 a, .int .u64 b, .func (Fn.func 54) #[] #[]] w fun e w' => ∃ y, e = .returned (.int .u64 (Ie.sg (Ie.ngd a != up) y)) ∧ Hid (Ie.un y = Ie.lft (Ie.un (Ie.ab a)) (Ie.un (Ie.ab b)) up ∧ 0 ≤ y ∧ y < 9218868437227405312) ∧ Below w.heap.size w w' := by
  have NA := hid (fun (wx : World) => mnan_any a wx a0 a1)
  have NB := hid (fun (wx : World) => mnan_any b wx b0 b1)
  have IA := hid (fun (wx : World) => minfinite_any a wx a0 a1)
  have IB := hid (fun (wx : World) => minfinite_any b wx b0 b1)
  have ZB := hid (fun (wx : World) => mzero_any b wx b0 b1)
  rw [(Ie.fin_kinds fa).1] at NA
  rw [(Ie.fin_kinds fb).1] at NB
  rw [(Ie.fin_kinds fa).2] at IA
  rw [(Ie.fin_kinds fb).2] at IB
  have zb' : Ie.isz b = false := by rw [Ie.isz, decide_eq_false_iff_not]; exact zb
  rw [zb'] at ZB
  have AL := hid (aligned_any a b w a0 a1 b0 b1 fa fb)
  have SV := Ib.sign_and a a0 a1
  have HT := hid hT
  obtain ⟨⟨ma0, ma1⟩, ⟨ea0, ea1⟩, gA, -⟩ := Ie.dec_f a fa
  obtain ⟨⟨mb0, mb1⟩, ⟨eb0, eb1⟩, gB, mz⟩ := Ie.dec_f b fb
  have mbp : 0 < Ie.dm b := by have := fun g => zb (mz.1 g); omega
  have AW := hid AW
  have e53 : (2 : Int) ^ 53 = 9007199254740992 := by decide
  -- all that is said of numbers
  have NU : Hid (∀ (i j : Nat) (x : Int), x = min (Ie.de a) (Ie.de b) → (i : Int) = Ie.de a - x → (j : Int) = Ie.de b - x → ∃ V1 V2 : Int, V1 = Ie.dm a * 2 ^ i ∧ V2 = Ie.dm b * 2 ^ j ∧ V1 < Nm.pw 4096 ∧ V2 < Nm.pw 4096 ∧ 0 < V2 ∧ 0 ≤ V1 % V2 ∧ V1 % V2 < V2 ∧ V1 % V2 * 2 ^ 1 < Nm.pw 4096 ∧ V1 / V2 < Nm.pw 4096 ∧ V1 / V2 = Ie.un (Ie.ab a) / Ie.un (Ie.ab b) ∧ cmpI (V1 % V2 * 2 ^ 1) V2 = cmpI (2 * (Ie.un (Ie.ab a) % Ie.un (Ie.ab b))) (Ie.un (Ie.ab b)) ∧ (∀ y, Ie.Rnd (Ie.lft V1 V2 up) 1 x false y → Ie.un y = Ie.lft (Ie.un (Ie.ab a)) (Ie.un (Ie.ab b)) up ∧ 0 ≤ y ∧ y < 9218868437227405312)) := by
    intro i j x hx hi hj
    obtain ⟨c, hc, hc2, hA, hB⟩ := Ie.left_un hx hi hj ea0 eb0 ea1 gA gB
    obtain ⟨v2, v1, r0, r1, r2, r3⟩ := Ie.left_bd (i := i) (j := j) (by omega) ma0 ma1 mbp mb1
    have l1 := sh_room (m := Ie.dm a) (i := i) (K := 53) (by omega) (by omega)
    have l2 := sh_room (m := Ie.dm b) (i := j) (K := 53) (by omega) (by omega)
    have hp := Nm.two_pos c
    rw [hA, hB] at UP ⊢
    generalize Ie.dm a * 2 ^ i = V1 at *
    generalize Ie.dm b * 2 ^ j = V2 at *
    have q1 : V1 / V2 ≤ V1 := Int.ediv_le_self _ v1
    have t1 : 2 * (V1 * 2 ^ c % (V2 * 2 ^ c)) = V1 % V2 * 2 ^ 1 * 2 ^ c := by rw [Ie.emod_scale _ _ _ hp, Int.pow_one, Int.mul_comm (V1 % V2) 2, Int.mul_assoc]
    refine ⟨V1, V2, rfl, rfl, l1, l2, v2, r0, r1, ?_, by omega, (Ie.ediv_scale _ _ _ hp).symm, ?_, ?_⟩
    · exact sh_room (K := 53) (i := 1) (by omega) (by omega)
    · rw [t1]
      have g1 := Ie.lt_scale (a := V1 % V2 * 2 ^ 1) (b := V2) hp
      have g2 := Ie.eq_scale (a := V1 % V2 * 2 ^ 1) (b := V2) hp
      exact cmpI_iff g1.symm g2.symm
    · intro y hy
      have key : Ie.lft (V1 * 2 ^ c) (V2 * 2 ^ c) up = Ie.lft V1 V2 up * 2 ^ c := by
        rw [Ie.lft, Ie.lft, Ie.emod_scale _ _ _ hp]
        split
        · rw [Int.sub_mul]
        · rfl
      rw [key]
      refine Ie.rnd_rep hc ?_ ?_ hc2 hy
      · rw [Ie.lft]; split <;> omega
      · rw [Ie.lft]
        split
        · rename_i hu
          have u1 := UP hu
          rw [t1] at u1
          have u2 := Int.le_of_mul_le_mul_right u1 hp
          rw [Int.pow_one] at u2
          exact r3 (by omega)
        · exact r2
  have SG : (a / 9223372036854775808 * 9223372036854775808 != 0) = Ie.ngd a := by
    rcases (show a < 9223372036854775808 ∨ 9223372036854775808 ≤ a by omega) with g | g
    · rw [show a / 9223372036854775808 * 9223372036854775808 = 0 by omega, Ie.ngd, decide_eq_false (by omega)]; rfl
    · rw [show a / 9223372036854775808 * 9223372036854775808 = 9223372036854775808 by omega, Ie.ngd, decide_eq_true (by omega)]; rfl
  clear UP hT ma0 ma1 mb0 mb1 ea0 ea1 eb0 eb1 gA gB mz mbp zb zb' fa fb a0 a1 b0 b1 e53
  generalize a / 9223372036854775808 * 9223372036854775808 = sv at *
  generalize Ie.un (Ie.ab a) = UA at *
  generalize Ie.un (Ie.ab b) = UB at *
  generalize Ie.ngd a = neg at *
  go_enter Tryz.func38, Tryz.ntmps38
  go_wp2_with fail
  refine (NA.out _).mono ?_
  rintro e wz ⟨rfl, hz⟩
  replace hz := hz.symm
  subst hz
  go_wp2_with fail
  refine (NB.out _).mono ?_
  rintro e wz ⟨rfl, hz⟩
  replace hz := hz.symm
  subst hz
  go_wp2_with fail
  refine (IA.out _).mono ?_
  rintro e wz ⟨rfl, hz⟩
  replace hz := hz.symm
  subst hz
  go_wp2_with fail
  refine (ZB.out _).mono ?_
  rintro e wz ⟨rfl, hz⟩
  replace hz := hz.symm
  subst hz
  go_wp2_with fail
  refine (IB.out _).mono ?_
  rintro e wz ⟨rfl, hz⟩
  replace hz := hz.symm
  subst hz
  clear NA NB IA IB ZB
  go_wp2_with fail
  refine AL.out.mono ?_
  rintro e w1 ⟨p, q, os, qs, i, j, x, rfl, A1, A2, hx, hi, hj, hB1⟩
  obtain ⟨V1, V2, hV1, hV2, l1, l2, v2, r0, r1, l3, l4, hq, hc, hy⟩ := NU.out i j x hx hi hj
  rw [← hV1] at A1
  rw [← hV2] at A2
  have D1 := hid (a_div A1 A2 l1 l2 v2)
  have HA2 := hid A2
  have HB1 := hid hB1
  have R1 := hid (And.intro l1 (And.intro l2 (And.intro v2 (And.intro r0 r1))))
  have R2 := hid (And.intro l3 l4)
  have HQ := hid hq
  have HC := hid hc
  have HY := hid hy
  clear A1 A2 hB1 l1 l2 v2 r0 r1 l3 l4 hq hc hy hV1 hV2 hx hi hj NU AL
  go_wp2_with fail
  refine D1.out.mono ?_
  rintro e w2 ⟨r3, o3, r4, o4, rfl, A3, A4, hB⟩
  have HB2 := hid (HB1.out.trans (hB.mono HB1.out.size))
  have HA3 := hid A3
  have HA4 := hid A4
  have HA5 := hid (HA2.out.below hB (Nat.le_refl _))
  have S1 := hid (a_shl 1 A4 R2.out.1)
  clear A3 A4 hB D1 HA2 HB1
  go_wp2_with fail
  refine S1.out.mono ?_
  rintro e w3 ⟨r5, o5, rfl, A, hB⟩
  have HB3 := hid (HB2.out.trans (hB.mono HB2.out.size))
  have HA6 := hid (HA3.out.below hB (Nat.le_refl _))
  have HA7 := hid (HA4.out.below hB (Nat.le_refl _))
  have HA8 := hid (HA5.out.below hB (Nat.le_refl _))
  have BI := hid (a_bit0 HA6.out R2.out.2)
  have CM := hid (a_cmp A HA8.out R2.out.1 R1.out.2.1)
  rw [HQ.out] at BI
  rw [HC.out] at CM
  clear A hB HA3 HA4 HA5 S1 HB2 HA6 HQ HC
  go_wp2_with fail
  refine BI.out.mono ?_
  rintro e wz ⟨rfl, hz⟩
  replace hz := hz.symm
  subst hz
  clear BI
  go_wp2_with fail
  refine CM.out.mono ?_
  rintro e w4 ⟨rfl, hB⟩
  have HB4 := hid (HB3.out.trans (hB.mono HB3.out.size))
  have HA9 := hid (HA7.out.below hB (Nat.le_refl _))
  have HA10 := hid (HA8.out.below hB (Nat.le_refl _))
  have HT4 := hid (HT.out.below HB4.out)
  clear hB HA7 HA8 HB3 CM HT
  go_wp2_with fail
  refine (AW.out _ HB4.out).mono ?_
  rintro e wz ⟨rfl, hz⟩
  replace hz := hz.symm
  subst hz
  clear AW
  cases up
  · have RO := round_any neg r4 _ _ o4 w4 (HA9.out.argT (by have := R1.out.2.2.2.2; have := R1.out.2.1; omega)) HT4.out (HA9.out.tsT (by have := R1.out.2.2.2.2; have := R1.out.2.1; omega)) (V1 % V2) x false HA9.out.2.2.2.1
    have HRO := hid RO
    clear RO HA9 HA10 R1 R2
    go_wp2_with fail
    refine HRO.out.mono ?_
    rintro e w5 ⟨y, rfl, hR, hB⟩
    have HB5 := hid (HB4.out.trans (hB.mono HB4.out.size))
    have KY := hid (HY.out y hR)
    clear hB hR HRO HY HB4
    go_wp2_with fail
    go_ret
    exact ⟨y, i_retU (show Ie.sg neg y = _ by rw [Bool.bne_false]), KY.out, HB5.out⟩
  · have SU := hid (a_sub HA10.out HA9.out R1.out.2.1 (Int.le_of_lt R1.out.2.2.2.2))
    have RB : Hid (V2 - V1 % V2 < Nm.pw 4096) := by
      have := R1.out.2.2.2.1
      have := R1.out.2.1
      show V2 - V1 % V2 < Nm.pw 4096
      omega
    clear HA9 HA10 R1 R2
    go_wp2_with fail
    refine SU.out.mono ?_
    rintro e w5 ⟨r6, o6, rfl, A, hB⟩
    have HB5 := hid (HB4.out.trans (hB.mono HB4.out.size))
    have HT5 := hid (HT4.out.below hB)
    have HRO := hid (round_any (!neg) r6 _ _ o6 w5 (A.argT RB.out) HT5.out (A.tsT RB.out) (V2 - V1 % V2) x false A.2.2.2.1)
    clear A hB SU HB4 HT4 RB
    go_wp2_with fail
    refine HRO.out.mono ?_
    rintro e w6 ⟨y, rfl, hR, hB⟩
    have HB6 := hid (HB5.out.trans (hB.mono HB5.out.size))
    have KY := hid (HY.out y hR)
    clear hB hR HRO HY HB5
    go_wp2_with fail
    go_ret
    exact ⟨y, i_retU (show Ie.sg (!neg) y = _ by rw [Bool.bne_true]), KY.out, HB6.out⟩
end Go.Proofs.YtmakkfekomnpbaaGreatDoor

/-
  remain: left where nothing is divided; Fmod (made by mkmfmod.py).
-/
namespace Go.Proofs.YtmakkfekomnpbaaGreatDoor
open Go Go.RowKit Go.Deep

namespace Ie
theorem left_nan {a b : Int} (up : Bool) (h : isn a = true ∨ isn b = true ∨ isi a = true ∨ isz b = true) : LeftIs a b up 9221120237041090560 := by
  refine ⟨fun _ => rfl, fun fa ib => ?_, fun fa fb zb => ?_⟩
  · rcases h with h | h | h | h
    · rw [(fin_kinds fa).1] at h; cases h
    · simp only [isn, isi, decide_eq_true_iff] at h ib; omega
    · rw [(fin_kinds fa).2] at h; cases h
    · simp only [isz, isi, decide_eq_true_iff] at h ib; omega
  · rcases h with h | h | h | h
    · rw [(fin_kinds fa).1] at h; cases h
    · rw [(fin_kinds fb).1] at h; cases h
    · rw [(fin_kinds fa).2] at h; cases h
    · simp only [isz, decide_eq_true_iff] at h; exact absurd h zb
theorem left_inf {a b : Int} (up : Bool) (fa : fin a) (ib : isi b = true) : LeftIs a b up a := by
  refine ⟨fun h => ?_, fun _ _ => rfl, fun _ fb _ => ?_⟩
  · rcases h with h | h | h | h
    · rw [(fin_kinds fa).1] at h; cases h
    · simp only [isn, isi, decide_eq_true_iff] at h ib; omega
    · rw [(fin_kinds fa).2] at h; cases h
    · simp only [isz, isi, decide_eq_true_iff] at h ib; omega
  · rw [(fin_kinds fb).2] at ib; cases ib
theorem left_fin {a b y : Int} {up : Bool} (fa : fin a) (fb : fin b) (zb : ab b ≠ 0) (h : un y = lft (un (ab a)) (un (ab b)) up ∧ 0 ≤ y ∧ y < 9218868437227405312) : LeftIs a b up (sg (ngd a != up) y) := by
  refine ⟨fun h => ?_, fun _ ib => ?_, fun _ _ _ => ⟨y, rfl, h.2.1, h.2.2, h.1⟩⟩
  · rcases h with h | h | h | h
    · rw [(fin_kinds fa).1] at h; cases h
    · rw [(fin_kinds fb).1] at h; cases h
    · rw [(fin_kinds fa).2] at h; cases h
    · simp only [isz, decide_eq_true_iff] at h; exact absurd h zb
  · rw [(fin_kinds fb).2] at ib; cases ib
end Ie

set_option maxRecDepth 100000 in
theorem left_stay (fv : Value) (up : Bool) (a b : Int) (w : World) (a0 : 0 ≤ a) (a1 : a < 18446744073709551616) (b0 : 0 ≤ b) (b1 : b < 18446744073709551616) (h : ¬ (Ie.fin a ∧ Ie.fin b ∧ Ie.ab b ≠ 0)) :
    Calls Tryz.prog 38 #[.int .u64 a, .int .u64 b, fv] w fun e w' => ∃ r, e = .returned (.int .u64 r) ∧ Ie.LeftIs a b up r ∧ Below w.heap.size w w' := by
  have NA := hid (fun (wx : World) => mnan_any a wx a0 a1)
  have NB := hid (fun (wx : World) => mnan_any b wx b0 b1)
  have IA := hid (fun (wx : World) => minfinite_any a wx a0 a1)
  have IB := hid (fun (wx : World) => minfinite_any b wx b0 b1)
  have ZB := hid (fun (wx : World) => mzero_any b wx b0 b1)
  clear a0 a1 b0 b1
  rcases Ie.kinds a with ga | ⟨ga, ia, -⟩ | ⟨ga, ia, fa⟩
  · have E := hid (Ie.left_nan (a := a) (b := b) up (.inl ga))
    rw [ga] at NA
    clear ga h NB IA IB ZB
    go_enter Tryz.func38, Tryz.ntmps38
    go_wp2_with fail
    refine (NA.out _).mono ?_
    rintro e wz ⟨rfl, hz⟩
    replace hz := hz.symm
    subst hz
    go_wp2_with fail
    go_ret
    exact ⟨_, rfl, E.out, Below.refl _ _⟩
  · cases gb : Ie.isn b
    · have E := hid (Ie.left_nan (a := a) (b := b) up (.inr (.inr (.inl ia))))
      rw [ga] at NA
      rw [gb] at NB
      rw [ia] at IA
      clear ga gb ia h IB ZB
      go_enter Tryz.func38, Tryz.ntmps38
      go_wp2_with fail
      refine (NA.out _).mono ?_
      rintro e wz ⟨rfl, hz⟩
      replace hz := hz.symm
      subst hz
      go_wp2_with fail
      refine (NB.out _).mono ?_
      rintro e wz ⟨rfl, hz⟩
      replace hz := hz.symm
      subst hz
      go_wp2_with fail
      refine (IA.out _).mono ?_
      rintro e wz ⟨rfl, hz⟩
      replace hz := hz.symm
      subst hz
      go_wp2_with fail
      go_ret
      exact ⟨_, rfl, E.out, Below.refl _ _⟩
    · have E := hid (Ie.left_nan (a := a) (b := b) up (.inr (.inl gb)))
      rw [ga] at NA
      rw [gb] at NB
      clear ga gb ia h IA IB ZB
      go_enter Tryz.func38, Tryz.ntmps38
      go_wp2_with fail
      refine (NA.out _).mono ?_
      rintro e wz ⟨rfl, hz⟩
      replace hz := hz.symm
      subst hz
      go_wp2_with fail
      refine (NB.out _).mono ?_
      rintro e wz ⟨rfl, hz⟩
      replace hz := hz.symm
      subst hz
      go_wp2_with fail
      go_ret
      exact ⟨_, rfl, E.out, Below.refl _ _⟩
  · rcases Ie.kinds b with gb | ⟨gb, ib, -⟩ | ⟨gb, ib, fb⟩
    · have E := hid (Ie.left_nan (a := a) (b := b) up (.inr (.inl gb)))
      rw [ga] at NA
      rw [gb] at NB
      clear ga gb ia fa h IA IB ZB
      go_enter Tryz.func38, Tryz.ntmps38
      go_wp2_with fail
      refine (NA.out _).mono ?_
      rintro e wz ⟨rfl, hz⟩
      replace hz := hz.symm
      subst hz
      go_wp2_with fail
      refine (NB.out _).mono ?_
      rintro e wz ⟨rfl, hz⟩
      replace hz := hz.symm
      subst hz
      go_wp2_with fail
      go_ret
      exact ⟨_, rfl, E.out, Below.refl _ _⟩
    · have E := hid (Ie.left_inf (a := a) (b := b) up fa ib)
      have z : Ie.isz b = false := by simp only [Ie.isi, Ie.isz, decide_eq_true_iff, decide_eq_false_iff_not] at ib ⊢; omega
      rw [ga] at NA
      rw [gb] at NB
      rw [ia] at IA
      rw [ib] at IB
      rw [z] at ZB
      clear ga gb ia ib fa z h
      go_enter Tryz.func38, Tryz.ntmps38
      go_wp2_with fail
      refine (NA.out _).mono ?_
      rintro e wz ⟨rfl, hz⟩
      replace hz := hz.symm
      subst hz
      go_wp2_with fail
      refine (NB.out _).mono ?_
      rintro e wz ⟨rfl, hz⟩
      replace hz := hz.symm
      subst hz
      go_wp2_with fail
      refine (IA.out _).mono ?_
      rintro e wz ⟨rfl, hz⟩
      replace hz := hz.symm
      subst hz
      go_wp2_with fail
      refine (ZB.out _).mono ?_
      rintro e wz ⟨rfl, hz⟩
      replace hz := hz.symm
      subst hz
      go_wp2_with fail
      refine (IB.out _).mono ?_
      rintro e wz ⟨rfl, hz⟩
      replace hz := hz.symm
      subst hz
      go_wp2_with fail
      go_ret
      exact ⟨_, rfl, E.out, Below.refl _ _⟩
    · have z : Ie.isz b = true := by
        rw [Ie.isz, decide_eq_true_iff]
        rcases (show Ie.ab b = 0 ∨ Ie.ab b ≠ 0 by omega) with g | g
        · exact g
        · exact absurd ⟨fa, fb, g⟩ h
      have E := hid (Ie.left_nan (a := a) (b := b) up (.inr (.inr (.inr z))))
      rw [ga] at NA
      rw [gb] at NB
      rw [ia] at IA
      rw [z] at ZB
      clear ga gb ia ib fa fb z h IB
      go_enter Tryz.func38, Tryz.ntmps38
      go_wp2_with fail
      refine (NA.out _).mono ?_
      rintro e wz ⟨rfl, hz⟩
      replace hz := hz.symm
      subst hz
      go_wp2_with fail
      refine (NB.out _).mono ?_
      rintro e wz ⟨rfl, hz⟩
      replace hz := hz.symm
      subst hz
      go_wp2_with fail
      refine (IA.out _).mono ?_
      rintro e wz ⟨rfl, hz⟩
      replace hz := hz.symm
      subst hz
      go_wp2_with fail
      refine (ZB.out _).mono ?_
      rintro e wz ⟨rfl, hz⟩
      replace hz := hz.symm
      subst hz
      go_wp2_with fail
      go_ret
      exact ⟨_, rfl, E.out, Below.refl _ _⟩

set_option maxRecDepth 100000 in
theorem fmodRule_any (a b : Value) (w : World) : Calls Tryz.prog 39 #[a, b] w fun e w' => e = .returned (.bool false) ∧ w' = w := by
  go_enter Tryz.func39, Tryz.ntmps39
  go_wp2_with fail
  go_ret
  exact ⟨rfl, rfl⟩

set_option maxRecDepth 100000 in
theorem fmod_any (a b : Int) (w : World) (hT : Tab w) (a0 : 0 ≤ a) (a1 : a < 18446744073709551616) (b0 : 0 ≤ b) (b1 : b < 18446744073709551616) :
    Calls Tryz.prog 12 #[.int .u64 a, .int .u64 b] w fun e w' => ∃ r, e = .returned (.int .u64 r) ∧ Ie.LeftIs a b false r ∧ Below w.heap.size w w' := by
  have L : Hid (Calls Tryz.prog 38 #[.int .u64 a, .int .u64 b, .func (Fn.func 39) #[] #[]] w fun e w' => ∃ r, e = .returned (.int .u64 r) ∧ Hid (Ie.LeftIs a b false r ∧ Below w.heap.size w w')) := by
    by_cases h : Ie.fin a ∧ Ie.fin b ∧ Ie.ab b ≠ 0
    · refine (left_F a b false w hT a0 a1 b0 b1 h.1 h.2.1 h.2.2 (fun wx _ => fmodRule_any _ _ wx) (fun g => by cases g)).mono ?_
      rintro e w' ⟨y, rfl, hy, hB⟩
      exact ⟨_, rfl, Ie.left_fin h.1 h.2.1 h.2.2 hy.out, hB⟩
    · exact left_stay _ false a b w a0 a1 b0 b1 h
  clear hT
  go_enter Tryz.func12, Tryz.ntmps12
  go_wp2_with fail
  refine L.out.mono ?_
  rintro e w' ⟨r, rfl, h⟩
  go_wp2_with fail
  go_ret
  exact ⟨_, rfl, h.out⟩
end Go.Proofs.YtmakkfekomnpbaaGreatDoor

/-
  remain: Remainder.
-/
namespace Go.Proofs.YtmakkfekomnpbaaGreatDoor
open Go Go.RowKit Go.Deep

/-- Does the nearest whole number lie farther from nothing? -/
def Ie.nup (odd : Bool) (c : Int) : Bool := decide (0 < c ∨ (c = 0 ∧ odd = true))

theorem cmpI_cases (a b : Int) : (cmpI a b = -1 ∧ a < b) ∨ (cmpI a b = 0 ∧ a = b) ∨ (cmpI a b = 1 ∧ b < a) := by
  by_cases h : a < b
  · exact .inl ⟨cmpI_lt h, h⟩
  · by_cases g : a = b
    · exact .inr (.inl ⟨cmpI_eq g, g⟩)
    · exact .inr (.inr ⟨cmpI_gt (by omega), by omega⟩)

set_option maxRecDepth 100000 in
theorem remRule_any (odd : Bool) (c : Int) (w : World) (hc : c = -1 ∨ c = 0 ∨ c = 1) : Calls Tryz.prog 54 #[.bool odd, .int .i64 c] w fun e w' => e = .returned (.bool (Ie.nup odd c)) ∧ w' = w := by
  rcases hc with rfl | rfl | rfl
  · go_enter Tryz.func54, Tryz.ntmps54
    go_wp2_with fail
    go_ret
    exact ⟨by cases odd <;> rfl, rfl⟩
  · go_enter Tryz.func54, Tryz.ntmps54
    go_wp2_with fail
    go_ret
    exact ⟨by cases odd <;> rfl, rfl⟩
  · go_enter Tryz.func54, Tryz.ntmps54
    go_wp2_with fail
    go_ret
    exact ⟨by cases odd <;> rfl, rfl⟩

/-- Remainder's turn. -/
def Ie.rup (A B : Int) : Bool := Ie.nup (A / B % 2 == 1) (cmpI (2 * (A % B)) B)

set_option maxRecDepth 100000 in
theorem remainder_any (a b : Int) (w : World) (hT : Tab w) (a0 : 0 ≤ a) (a1 : a < 18446744073709551616) (b0 : 0 ≤ b) (b1 : b < 18446744073709551616) :
    Calls Tryz.prog 24 #[.int .u64 a, .int .u64 b] w fun e w' => ∃ r, e = .returned (.int .u64 r) ∧ Ie.LeftIs a b (Ie.rup (Ie.un (Ie.ab a)) (Ie.un (Ie.ab b))) r ∧ Below w.heap.size w w' := by
  have L : Hid (Calls Tryz.prog 38 #[.int .u64 a, .int .u64 b, .func (Fn.func 54) #[] #[]] w fun e w' => ∃ r, e = .returned (.int .u64 r) ∧ Hid (Ie.LeftIs a b (Ie.rup (Ie.un (Ie.ab a)) (Ie.un (Ie.ab b))) r ∧ Below w.heap.size w w')) := by
    by_cases h : Ie.fin a ∧ Ie.fin b ∧ Ie.ab b ≠ 0
    · refine (left_R a b _ w hT a0 a1 b0 b1 h.1 h.2.1 h.2.2 (fun wx _ => remRule_any _ _ wx ?_) (fun g => ?_)).mono ?_
      · rcases cmpI_cases (2 * (Ie.un (Ie.ab a) % Ie.un (Ie.ab b))) (Ie.un (Ie.ab b)) with g | g | g <;> omega
      · rw [Ie.nup, decide_eq_true_iff] at g
        rcases cmpI_cases (2 * (Ie.un (Ie.ab a) % Ie.un (Ie.ab b))) (Ie.un (Ie.ab b)) with k | k | k
        · rw [k.1] at g; omega
        · omega
        · omega
      · rintro e w' ⟨y, rfl, hy, hB⟩
        exact ⟨_, rfl, Ie.left_fin h.1 h.2.1 h.2.2 hy.out, hB⟩
    · exact left_stay _ _ a b w a0 a1 b0 b1 h
  clear hT
  go_enter Tryz.func24, Tryz.ntmps24
  go_wp2_with fail
  refine L.out.mono ?_
  rintro e w' ⟨r, rfl, h⟩
  go_wp2_with fail
  go_ret
  exact ⟨_, rfl, h.out⟩
end Go.Proofs.YtmakkfekomnpbaaGreatDoor

/-
  The document's layer 6: Remainder (made by mkurem.py).
-/
namespace Go.Proofs.YtmakkfekomnpbaaGreatDoor
open Go Go.RowKit Go.Deep

theorem Ie.rup_zero {B : Int} (h : 0 < B) : Ie.rup 0 B = false := by
  rw [Ie.rup, Ie.nup, Int.zero_emod, Int.mul_zero, cmpI_lt h]
  exact decide_eq_false (by omega)

theorem Ie.rup_le {A B : Int} (h : Ie.rup A B = true) : B ≤ 2 * (A % B) := by
  rw [Ie.rup, Ie.nup, decide_eq_true_iff] at h
  rcases cmpI_cases (2 * (A % B)) B with k | k | k
  · rw [k.1] at h; omega
  · omega
  · omega

theorem Ie.rup_at {A B V1 V2 P : Int} (P0 : 0 < P) (N1 : V1 / V2 = A / B) (N2 : B = V2 * P) (N3 : A % B = V1 % V2 * P) : Ie.rup A B = decide (V2 < 2 * (V1 % V2) ∨ (2 * (V1 % V2) = V2 ∧ V1 / V2 % 2 = 1)) := by
  rw [Ie.rup, Ie.nup, ← N1, N3]
  have e : cmpI (2 * (V1 % V2 * P)) B = cmpI (2 * (V1 % V2)) V2 := by
    rw [N2, ← Int.mul_assoc]
    exact cmpI_iff (Ie.lt_scale P0) (Ie.eq_scale P0)
  rw [e]
  clear e N1 N2 N3
  generalize V1 / V2 = Q at *
  generalize V1 % V2 = R at *
  rcases cmpI_cases (2 * R) V2 with k | k | k
  · rw [k.1]; rw [decide_eq_false (by omega), decide_eq_false (by omega)]
  · rw [k.1]
    rw [decide_eq_decide]
    rw [beq_iff_eq]
    omega
  · rw [k.1]; rw [decide_eq_true (by omega), decide_eq_true (by omega)]

set_option maxRecDepth 100000 in
set_option maxHeartbeats 8000000 in
theorem urem_any (a b : Int) (up : Bool) (w : World) (a0 : 0 ≤ a) (a1 : a < 18446744073709551616) (b0 : 0 ≤ b) (b1 : b < 18446744073709551616) (hup : up = Ie.rup (Ie.un (Ie.ab a)) (Ie.un (Ie.ab b))) :
    Calls Tryz.prog 25 #[.int .u64 a, .int .u64 b] w fun e w' => ∃ r, e = .returned (.int .u64 r) ∧ Ie.LeftIs a b up r ∧ Below w.heap.size w w' := by
  have DA := hid (fun (wx : World) => zdecode_any a wx a0 a1)
  have DB := hid (fun (wx : World) => zdecode_any b wx b0 b1)
  rw [← Ie.ngd] at DA DB
  have a4 := Ie.isn_cls a
  have a3 := Ie.isi_cls a
  have az := Ie.isz_cls a
  have b4 := Ie.isn_cls b
  have b3 := Ie.isi_cls b
  have bz := Ie.isz_cls b
  rw [Bool.eq_iff_iff, beq_iff_eq] at a4 a3 az b4 b3 bz
  by_cases h1 : Ie.isn a = true ∨ Ie.isn b = true ∨ Ie.isi a = true ∨ Ie.isz b = true
  · have E : Hid (Ie.LeftIs a b up 9221120237041090560) := by
      refine ⟨fun _ => rfl, fun fa ib => ?_, fun fa fb zb => ?_⟩
      · exfalso
        rcases h1 with h | h | h | h
        · rw [(Ie.fin_kinds fa).1] at h; cases h
        · rw [(Ie.si_not ib).2] at h; cases h
        · rw [(Ie.fin_kinds fa).2] at h; cases h
        · rw [(Ie.sz_not h).1] at ib; cases ib
      · exfalso
        rcases h1 with h | h | h | h
        · rw [(Ie.fin_kinds fa).1] at h; cases h
        · rw [(Ie.fin_kinds fb).1] at h; cases h
        · rw [(Ie.fin_kinds fa).2] at h; cases h
        · rw [Ie.isz, decide_eq_true_iff] at h; exact zb h
    have hc : Ie.cls a = 4 ∨ Ie.cls b = 4 ∨ Ie.cls a = 3 ∨ Ie.cls b = 0 := by
      rcases h1 with h | h | h | h
      · exact .inl (a4.2 h)
      · exact .inr (.inl (b4.2 h))
      · exact .inr (.inr (.inl (a3.2 h)))
      · exact .inr (.inr (.inr (bz.2 h)))
    have EA := hid (fun (wx : World) => early_nan (Ie.ngd a) (Ie.ngd b) _ (Ie.dm a) (Ie.de a) _ (Ie.dm b) (Ie.de b) a wx hc)
    simp only [partsOf] at DA DB EA
    clear a4 a3 az b4 b3 bz h1 hc
    generalize Ie.ngd a = na at *
    generalize Ie.cls a = ca at *
    generalize Ie.dm a = ma at *
    generalize Ie.de a = ea at *
    generalize Ie.ngd b = nb at *
    generalize Ie.cls b = cb at *
    generalize Ie.dm b = mb at *
    generalize Ie.de b = eb at *
    go_enter Tryz.func25, Tryz.ntmps25
    go_wp2_with fail
    refine (DA.out _).mono ?_
    rintro e w1 ⟨rfl, hB⟩
    have hb := hB.trans ((alloc_b w1 (.cells #[.bool na, .int .i64 ca, .int .u64 ma, .int .i64 ea] 40)).mono hB.size)
    have P := Row4.new w1 40 (.bool na) (.int .i64 ca) (.int .u64 ma) (.int .i64 ea)
    go_upto_region 2 with fail
    have HB1 := hid hb
    have PH := hid P
    clear hB hb P DA
    generalize w1.alloc (.cells #[.bool na, .int .i64 ca, .int .u64 ma, .int .i64 ea] 40) = wA at *
    generalize w1.heap.size = ba at *
    go_wp2_with fail
    refine (DB.out _).mono ?_
    rintro e w2 ⟨rfl, hB⟩
    have hb := hB.trans ((alloc_b w2 (.cells #[.bool nb, .int .i64 cb, .int .u64 mb, .int .i64 eb] 40)).mono hB.size)
    have S0 : Hid (TwoR w (w2.alloc (.cells #[.bool nb, .int .i64 cb, .int .u64 mb, .int .i64 eb] 40)) ba w2.heap.size na nb ca ma ea cb mb eb) := ⟨HB1.out.trans (hb.mono HB1.out.size), PH.out.below hb PH.out.lt, Row4.new w2 _ _ _ _ _⟩
    go_upto_region 3 with fail
    clear hB hb DB HB1 PH
    generalize w2.alloc (.cells #[.bool nb, .int .i64 cb, .int .u64 mb, .int .i64 eb] 40) = wB at *
    generalize w2.heap.size = bb at *
    obtain ⟨⟨p0, p1, p2, p3⟩, -⟩ := S0.out.2.1.cells
    obtain ⟨⟨q0, q1, q2, q3⟩, -⟩ := S0.out.2.2.cells
    go_wp2_with fail
    refine (EA.out _).mono ?_
    rintro e w3 ⟨rfl, hB⟩
    have S1 := hid (S0.out.on hB)
    clear hB p0 p1 p2 p3 q0 q1 q2 q3 S0 EA
    go_wp2_with fail
    go_ret
    exact ⟨_, rfl, E.out, S1.out.1⟩
  · have n1 : Ie.cls a ≠ 4 := fun h => h1 (.inl (a4.1 h))
    have n2 : Ie.cls b ≠ 4 := fun h => h1 (.inr (.inl (b4.1 h)))
    have n3 : Ie.cls a ≠ 3 := fun h => h1 (.inr (.inr (.inl (a3.1 h))))
    have n4 : Ie.cls b ≠ 0 := fun h => h1 (.inr (.inr (.inr (bz.1 h))))
    have fa : Ie.fin a := by
      rcases Ie.kind3 a with k | k | k
      · exact absurd (.inl k) h1
      · exact absurd (.inr (.inr (.inl k))) h1
      · exact k
    by_cases h2 : Ie.isi b = true ∨ Ie.isz a = true
    · have E : Hid (Ie.LeftIs a b up a) := by
        refine ⟨fun h => absurd h h1, fun _ _ => rfl, fun _ fb zb => ?_⟩
        have za : Ie.isz a = true := by
          rcases h2 with h | h
          · rw [(Ie.fin_kinds fb).2] at h; cases h
          · exact h
        rw [Ie.isz, decide_eq_true_iff] at za
        have ea := Ie.sg_ab a a0 a1
        rw [za] at ea
        have uf : up = false := by rw [hup, za, Ie.un_zero]; exact Ie.rup_zero (Ie.un_pos (by have := (Ie.ab_bd b).1; omega))
        subst uf
        refine ⟨0, ?_, by omega, by omega, ?_⟩
        · rw [Bool.bne_false]; exact ea
        · rw [za, Ie.un_zero, Ie.lft, Int.zero_emod]; rfl
      have hc : Ie.cls b = 3 ∨ Ie.cls a = 0 := by
        rcases h2 with h | h
        · exact .inl (b3.2 h)
        · exact .inr (az.2 h)
      have EA := hid (fun (wx : World) => early_a (Ie.ngd a) (Ie.ngd b) _ (Ie.dm a) (Ie.de a) _ (Ie.dm b) (Ie.de b) a wx n1 n2 n3 n4 hc)
      simp only [partsOf] at DA DB EA
      clear a4 a3 az b4 b3 bz h1 h2 hc n1 n2 n3 n4 fa
      generalize Ie.ngd a = na at *
      generalize Ie.cls a = ca at *
      generalize Ie.dm a = ma at *
      generalize Ie.de a = ea at *
      generalize Ie.ngd b = nb at *
      generalize Ie.cls b = cb at *
      generalize Ie.dm b = mb at *
      generalize Ie.de b = eb at *
      go_enter Tryz.func25, Tryz.ntmps25
      go_wp2_with fail
      refine (DA.out _).mono ?_
      rintro e w1 ⟨rfl, hB⟩
      have hb := hB.trans ((alloc_b w1 (.cells #[.bool na, .int .i64 ca, .int .u64 ma, .int .i64 ea] 40)).mono hB.size)
      have P := Row4.new w1 40 (.bool na) (.int .i64 ca) (.int .u64 ma) (.int .i64 ea)
      go_upto_region 2 with fail
      have HB1 := hid hb
      have PH := hid P
      clear hB hb P DA
      generalize w1.alloc (.cells #[.bool na, .int .i64 ca, .int .u64 ma, .int .i64 ea] 40) = wA at *
      generalize w1.heap.size = ba at *
      go_wp2_with fail
      refine (DB.out _).mono ?_
      rintro e w2 ⟨rfl, hB⟩
      have hb := hB.trans ((alloc_b w2 (.cells #[.bool nb, .int .i64 cb, .int .u64 mb, .int .i64 eb] 40)).mono hB.size)
      have S0 : Hid (TwoR w (w2.alloc (.cells #[.bool nb, .int .i64 cb, .int .u64 mb, .int .i64 eb] 40)) ba w2.heap.size na nb ca ma ea cb mb eb) := ⟨HB1.out.trans (hb.mono HB1.out.size), PH.out.below hb PH.out.lt, Row4.new w2 _ _ _ _ _⟩
      go_upto_region 3 with fail
      clear hB hb DB HB1 PH
      generalize w2.alloc (.cells #[.bool nb, .int .i64 cb, .int .u64 mb, .int .i64 eb] 40) = wB at *
      generalize w2.heap.size = bb at *
      obtain ⟨⟨p0, p1, p2, p3⟩, -⟩ := S0.out.2.1.cells
      obtain ⟨⟨q0, q1, q2, q3⟩, -⟩ := S0.out.2.2.cells
      go_wp2_with fail
      refine (EA.out _).mono ?_
      rintro e w3 ⟨rfl, hB⟩
      have S1 := hid (S0.out.on hB)
      clear hB p0 p1 p2 p3 q0 q1 q2 q3 S0 EA
      go_wp2_with fail
      go_ret
      exact ⟨_, rfl, E.out, S1.out.1⟩
    · have n5 : Ie.cls b ≠ 3 := fun h => h2 (.inl (b3.1 h))
      have n6 : Ie.cls a ≠ 0 := fun h => h2 (.inr (az.1 h))
      have fb : Ie.fin b := by
        rcases Ie.kind3 b with k | k | k
        · exact absurd (.inr (.inl k)) h1
        · exact absurd (.inl k) h2
        · exact k
      have zb : Ie.ab b ≠ 0 := fun e => h1 (.inr (.inr (.inr (by rw [Ie.isz, decide_eq_true_iff]; exact e))))
      have EA := hid (fun (wx : World) => early_no (Ie.ngd a) (Ie.ngd b) _ (Ie.dm a) (Ie.de a) _ (Ie.dm b) (Ie.de b) a wx n1 n2 n3 n4 n5 n6)
      obtain ⟨⟨ma0, ma1⟩, ⟨ea0, ea1⟩, -, -⟩ := Ie.dec_f a fa
      obtain ⟨⟨mb0, mb1⟩, ⟨eb0, eb1⟩, -, -⟩ := Ie.dec_f b fb
      have CM := hid (fun (wx : World) => common_any (Ie.ngd a) (Ie.ngd b) (Ie.cls a) (Ie.dm a) (Ie.de a) (Ie.cls b) (Ie.dm b) (Ie.de b) wx ma0 ma1 mb0 mb1 ea0 ea1 eb0 eb1)
      have NU := hid (fun (x : Int) (i j : Nat) (hx : x = Ie.de a ∨ x = Ie.de b) (hi : (i : Int) = Ie.de a - x) (hj : (j : Int) = Ie.de b - x) => Ie.left_nums fa fb zb hx hi hj)
      have FI : Hid (∀ y, Ie.un y = Ie.lft (Ie.un (Ie.ab a)) (Ie.un (Ie.ab b)) up ∧ 0 ≤ y ∧ y < 9218868437227405312 → Ie.LeftIs a b up (Ie.sg (Ie.ngd a != up) y)) :=
        fun y hy => ⟨fun h => absurd h h1, fun _ ib => absurd (.inl ib) h2, fun _ _ _ => ⟨y, rfl, hy.2.1, hy.2.2, hy.1⟩⟩
      have UPT : Hid (up = true → Ie.un (Ie.ab b) ≤ 2 * (Ie.un (Ie.ab a) % Ie.un (Ie.ab b))) := fun h => Ie.rup_le (hup.symm.trans h)
      have HU := hid hup
      simp only [partsOf] at DA DB EA CM
      clear hup
      clear a4 a3 az b4 b3 bz h1 h2 n1 n2 n3 n4 n5 n6 fa fb zb ma0 ma1 mb0 mb1 ea0 ea1 eb0 eb1
      generalize Ie.ngd a = na at *
      generalize Ie.cls a = ca at *
      generalize Ie.dm a = ma at *
      generalize Ie.de a = ea at *
      generalize Ie.ngd b = nb at *
      generalize Ie.cls b = cb at *
      generalize Ie.dm b = mb at *
      generalize Ie.de b = eb at *
      generalize Ie.un (Ie.ab a) = UA at *
      generalize Ie.un (Ie.ab b) = UB at *
      go_enter Tryz.func25, Tryz.ntmps25
      go_wp2_with fail
      refine (DA.out _).mono ?_
      rintro e w1 ⟨rfl, hB⟩
      have hb := hB.trans ((alloc_b w1 (.cells #[.bool na, .int .i64 ca, .int .u64 ma, .int .i64 ea] 40)).mono hB.size)
      have P := Row4.new w1 40 (.bool na) (.int .i64 ca) (.int .u64 ma) (.int .i64 ea)
      go_upto_region 2 with fail
      have HB1 := hid hb
      have PH := hid P
      clear hB hb P DA
      generalize w1.alloc (.cells #[.bool na, .int .i64 ca, .int .u64 ma, .int .i64 ea] 40) = wA at *
      generalize w1.heap.size = ba at *
      go_wp2_with fail
      refine (DB.out _).mono ?_
      rintro e w2 ⟨rfl, hB⟩
      have hb := hB.trans ((alloc_b w2 (.cells #[.bool nb, .int .i64 cb, .int .u64 mb, .int .i64 eb] 40)).mono hB.size)
      have S0 : Hid (TwoR w (w2.alloc (.cells #[.bool nb, .int .i64 cb, .int .u64 mb, .int .i64 eb] 40)) ba w2.heap.size na nb ca ma ea cb mb eb) := ⟨HB1.out.trans (hb.mono HB1.out.size), PH.out.below hb PH.out.lt, Row4.new w2 _ _ _ _ _⟩
      go_upto_region 3 with fail
      clear hB hb DB HB1 PH
      generalize w2.alloc (.cells #[.bool nb, .int .i64 cb, .int .u64 mb, .int .i64 eb] 40) = wB at *
      generalize w2.heap.size = bb at *
      obtain ⟨⟨p0, p1, p2, p3⟩, -⟩ := S0.out.2.1.cells
      obtain ⟨⟨q0, q1, q2, q3⟩, -⟩ := S0.out.2.2.cells
      go_wp2_with fail
      refine (EA.out _).mono ?_
      rintro e w3 ⟨rfl, hB⟩
      have S1 := hid (S0.out.on hB)
      clear hB p0 p1 p2 p3 q0 q1 q2 q3 S0 EA
      obtain ⟨⟨p0, p1, p2, p3⟩, -⟩ := S1.out.2.1.cells
      obtain ⟨⟨q0, q1, q2, q3⟩, -⟩ := S1.out.2.2.cells
      go_wp2_with fail
      refine (CM.out _).mono ?_
      rintro e w4 ⟨r1, o1, r2, o2, x, rfl, ⟨ka, kb, hka, hkb, hx, ⟨B1, A1⟩, B2, A2⟩, hB⟩
      have S2 := hid (S1.out.on hB)
      obtain ⟨⟨l1, l2, v2, v1⟩, N1, ⟨P, P0, N2, N2'⟩, N3⟩ := NU.out x ka kb hx hka hkb
      have DV := hid (refDivide_any r1 r2 _ _ _ _ o1 o2 w4 (A1.argT l1) (A2.argT l2) (A1.tsT l1) (A2.tsT l2) (by
        rcases Nat.eq_zero_or_pos (Nm.tsize o2) with z | z
        · exfalso
          have := (Nm.tsize_zero_iff (A2.argT l2).2.2.2.2).1 z
          rw [A2.2.2.2.1] at this
          omega
        · exact z))
      rw [A1.2.2.2.1, A2.2.2.2.1] at DV
      have HUP := HU.out
      rw [Ie.rup_at P0 N1 N2 N2'] at HUP
      have WP : Hid (∀ y, Ie.Rnd (Ie.lft (ma * 2 ^ ka) (mb * 2 ^ kb) up) 1 x false y → Ie.LeftIs a b up (Ie.sg (na != up) y)) := fun y hy => FI.out y (N3 up y UPT.out hy)
      have K2 := hid (And.intro A2 l2)
      clear hB p0 p1 p2 p3 q0 q1 q2 q3 CM S1 NU FI N3 A1 A2 hka hkb hx N1 N2 N2' HU UPT P0
      generalize ma * 2 ^ ka = V1 at *
      generalize mb * 2 ^ kb = V2 at *
      have HH := hid HUP
      have r0 := Int.emod_nonneg V1 (show V2 ≠ 0 by omega)
      have r1' := Int.emod_lt_of_pos V1 v2
      have qq : V1 / V2 ≤ V1 := Int.ediv_le_self _ v1
      have LL := hid (show V1 % V2 < Nm.pw 4096 ∧ V2 - V1 % V2 < Nm.pw 4096 ∧ V1 / V2 < Nm.pw 4096 ∧ V1 % V2 ≤ V2 from ⟨by omega, by omega, by omega, by omega⟩)
      clear l1 l2 v1 HUP qq
      go_wp2_with fail
      refine DV.out.mono ?_
      rintro e w5 ⟨rq, oq, rr, os, rfl, AQ, AR, hB⟩
      have S3 := hid (S2.out.on hB)
      have K5 := hid (K2.out.1.below hB (Nat.le_refl _))
      have LF : Hid (Ie.lft V1 V2 up = if up = true then V2 - V1 % V2 else V1 % V2) := by rw [Hid, Ie.lft]
      rw [LF.out] at WP
      clear DV LF
      obtain ⟨R, hR⟩ : ∃ R, V1 % V2 = R := ⟨_, rfl⟩
      obtain ⟨Q, hQ⟩ : ∃ Q, V1 / V2 = Q := ⟨_, rfl⟩
      rw [hR] at AR LL HH r0 r1' WP
      rw [hQ] at AQ LL HH
      have LS := hid (less_any r2 rr _ _ _ _ o2 os w5 (K5.out.argT K2.out.2) (AR.argT LL.out.1) (by have := K5.out.tsT K2.out.2; omega) (by rw [AR.2.2.2.1, K5.out.2.2.2.1]; exact LL.out.2.2.2))
      rw [AR.2.2.2.1, K5.out.2.2.2.1] at LS
      have HAQ := hid AQ
      have HAR := hid AR
      clear hB AQ AR S2 K2 K5 hR hQ
      go_wp2_with fail
      refine LS.out.mono ?_
      rintro e w6 ⟨rl, ol, rfl, AL, hB⟩
      have S4 := hid (S3.out.on hB)
      have HQ6 := hid (HAQ.out.below hB (Nat.le_refl _))
      have HR6 := hid (HAR.out.below hB (Nat.le_refl _))
      have CC := hid (refCmp_any rr rl _ _ _ _ os ol w6 (HR6.out.argT LL.out.1) (AL.argT LL.out.2.1))
      rw [HR6.out.2.2.2.1, AL.2.2.2.1] at CC
      have HL6 := hid AL
      clear hB AL S3 LS HAQ HAR
      rcases (show R < V2 - R ∨ R = V2 - R ∨ V2 - R < R by omega) with g | g | g
      · have uf : up = false := by rw [HH.out]; exact decide_eq_false (by omega)
        clear HH
        subst uf
        simp only [Bool.bne_false, Bool.false_eq_true, if_false] at WP
        rw [cmpI_lt g] at CC
        go_wp2_with fail
        refine CC.out.mono ?_
        rintro e w7 ⟨rfl, hB⟩
        have S5 := hid (S4.out.on hB)
        have HQ7 := hid (HQ6.out.below hB (Nat.le_refl _))
        have HR7 := hid (HR6.out.below hB (Nat.le_refl _))
        have HL7 := hid (HL6.out.below hB (Nat.le_refl _))
        obtain ⟨⟨p0, p1, p2, p3⟩, -⟩ := S5.out.2.1.cells
        clear hB S4 CC HQ6 HR6 HL6
        have RO := hid (zround_any na rr _ _ os w7 (HR7.out.argT LL.out.1) (HR7.out.tsT LL.out.1) (R) x false HR7.out.2.2.2.1)
        clear HQ7 HR7 HL7 LL
        go_wp2_with fail
        refine RO.out.mono ?_
        rintro e wz ⟨y, rfl, hy, hz⟩
        have KK := hid (WP.out y hy)
        clear hy
        replace hz := hz.symm
        subst hz
        go_wp2_with fail
        go_ret
        exact ⟨_, rfl, KK.out, S5.out.1⟩
      · rcases (show Q % 2 = 0 ∨ Q % 2 = 1 by omega) with o | o
        · have uf : up = false := by rw [HH.out]; exact decide_eq_false (by omega)
          clear HH
          subst uf
          simp only [Bool.bne_false, Bool.false_eq_true, if_false] at WP
          rw [cmpI_eq g] at CC
          go_wp2_with fail
          refine CC.out.mono ?_
          rintro e w7 ⟨rfl, hB⟩
          have S5 := hid (S4.out.on hB)
          have HQ7 := hid (HQ6.out.below hB (Nat.le_refl _))
          have HR7 := hid (HR6.out.below hB (Nat.le_refl _))
          have HL7 := hid (HL6.out.below hB (Nat.le_refl _))
          obtain ⟨⟨p0, p1, p2, p3⟩, -⟩ := S5.out.2.1.cells
          clear hB S4 CC HQ6 HR6 HL6
          have BI := hid (refBit_any rq _ _ oq 0 0 w7 (HQ7.out.argT LL.out.2.2.1) (by omega) rfl)
          rw [HQ7.out.2.2.2.1, Int.pow_zero, Int.ediv_one, o] at BI
          go_wp2_with fail
          refine BI.out.mono ?_
          rintro e wz ⟨rfl, hz⟩
          replace hz := hz.symm
          subst hz
          have RO := hid (zround_any na rr _ _ os w7 (HR7.out.argT LL.out.1) (HR7.out.tsT LL.out.1) (R) x false HR7.out.2.2.2.1)
          clear HQ7 HR7 HL7 LL
          go_wp2_with fail
          refine RO.out.mono ?_
          rintro e wz ⟨y, rfl, hy, hz⟩
          have KK := hid (WP.out y hy)
          clear hy
          replace hz := hz.symm
          subst hz
          go_wp2_with fail
          go_ret
          exact ⟨_, rfl, KK.out, S5.out.1⟩
        · have uf : up = true := by rw [HH.out]; exact decide_eq_true (by omega)
          clear HH
          subst uf
          simp only [Bool.bne_true, if_true] at WP
          rw [cmpI_eq g] at CC
          go_wp2_with fail
          refine CC.out.mono ?_
          rintro e w7 ⟨rfl, hB⟩
          have S5 := hid (S4.out.on hB)
          have HQ7 := hid (HQ6.out.below hB (Nat.le_refl _))
          have HR7 := hid (HR6.out.below hB (Nat.le_refl _))
          have HL7 := hid (HL6.out.below hB (Nat.le_refl _))
          obtain ⟨⟨p0, p1, p2, p3⟩, -⟩ := S5.out.2.1.cells
          clear hB S4 CC HQ6 HR6 HL6
          have BI := hid (refBit_any rq _ _ oq 0 0 w7 (HQ7.out.argT LL.out.2.2.1) (by omega) rfl)
          rw [HQ7.out.2.2.2.1, Int.pow_zero, Int.ediv_one, o] at BI
          go_wp2_with fail
          refine BI.out.mono ?_
          rintro e wz ⟨rfl, hz⟩
          replace hz := hz.symm
          subst hz
          have RO := hid (zround_any (!na) rl _ _ ol w7 (HL7.out.argT LL.out.2.1) (HL7.out.tsT LL.out.2.1) (V2 - R) x false HL7.out.2.2.2.1)
          clear HQ7 HR7 HL7 LL
          go_wp2_with fail
          refine RO.out.mono ?_
          rintro e wz ⟨y, rfl, hy, hz⟩
          have KK := hid (WP.out y hy)
          clear hy
          replace hz := hz.symm
          subst hz
          go_wp2_with fail
          go_ret
          exact ⟨_, rfl, KK.out, S5.out.1⟩
      · have uf : up = true := by rw [HH.out]; exact decide_eq_true (by omega)
        clear HH
        subst uf
        simp only [Bool.bne_true, if_true] at WP
        rw [cmpI_gt g] at CC
        go_wp2_with fail
        refine CC.out.mono ?_
        rintro e w7 ⟨rfl, hB⟩
        have S5 := hid (S4.out.on hB)
        have HQ7 := hid (HQ6.out.below hB (Nat.le_refl _))
        have HR7 := hid (HR6.out.below hB (Nat.le_refl _))
        have HL7 := hid (HL6.out.below hB (Nat.le_refl _))
        obtain ⟨⟨p0, p1, p2, p3⟩, -⟩ := S5.out.2.1.cells
        clear hB S4 CC HQ6 HR6 HL6
        have RO := hid (zround_any (!na) rl _ _ ol w7 (HL7.out.argT LL.out.2.1) (HL7.out.tsT LL.out.2.1) (V2 - R) x false HL7.out.2.2.2.1)
        clear HQ7 HR7 HL7 LL
        go_wp2_with fail
        refine RO.out.mono ?_
        rintro e wz ⟨y, rfl, hy, hz⟩
        have KK := hid (WP.out y hy)
        clear hy
        replace hz := hz.symm
        subst hz
        go_wp2_with fail
        go_ret
        exact ⟨_, rfl, KK.out, S5.out.1⟩
end Go.Proofs.YtmakkfekomnpbaaGreatDoor

/-
  The document's against: how a double, or the middle above it, lies against a fraction.
-/
namespace Go.Proofs.YtmakkfekomnpbaaGreatDoor
open Go Go.RowKit Go.Deep

/-- The double's mantissa, doubled, and one more for the middle. -/
def Ie.mm (x : Int) (middle : Bool) : Int := if middle = true then 2 * Ie.man x + 1 else 2 * Ie.man x

set_option maxRecDepth 100000 in
set_option maxHeartbeats 8000000 in
theorem against_any (x : Int) (middle : Bool) (p q : Option Addr) (n cap n' cap' : Nat) (zs ys : List Int) (w : World) (ha : Arg w p n cap zs) (hb : Arg w q n' cap' ys) (tz : Nm.tsize zs ≤ 4096) (ty : Nm.tsize ys ≤ 4096) (x0 : 0 ≤ x) (x1 : x ≤ 9218868437227405312)
    (e : Int) (e0 : -1048576 ≤ e) (e1 : e ≤ 1048576) (V D : Int) (hV : Nm.val zs = V) (hD : Nm.val ys = D) (s t : Nat) (hst : (s : Int) - t = (Ie.ex x : Int) - 1075 - e) (h0 : s = 0 ∨ t = 0) :
    Calls Tryz.prog 98 #[.int .u64 x, .bool middle, .slice p n cap, .slice q n' cap', .int .i64 e] w fun r w' => r = .returned (.int .i64 (cmpI (D * Ie.mm x middle * 2 ^ s) (V * 2 ^ t))) ∧ Below w.heap.size w w' := by
  obtain ⟨m, hm⟩ : ∃ m, Ie.mm x middle = m := ⟨_, rfl⟩
  obtain ⟨k, hk⟩ : ∃ k, (Ie.ex x : Int) - 1075 = k := ⟨_, rfl⟩
  have mb := Ie.man_nn x x0
  have m0 : 0 ≤ m ∧ m < 18446744073709551616 := by rw [← hm, Ie.mm]; split <;> omega
  have kb : -1075 ≤ k ∧ k ≤ 972 := by rw [← hk]; have : (Ie.ex x : Int) ≤ 2046 := by simp only [Ie.ex]; omega
                                      omega
  have d0 : 0 ≤ D := by rw [← hD]; exact (Nm.val_bd ys hb.2.2.2.2).1
  have d1 : D < Nm.pw 4096 := by rw [← hD]; exact (Nm.tsize_le_iff hb.2.2.2.2 4096).1 ty
  have v1 : V < Nm.pw 4096 := by rw [← hV]; exact (Nm.tsize_le_iff ha.2.2.2.2 4096).1 tz
  have dm : D * m < Nm.pw 4097 := by
    have g1 : D * m ≤ D * 18446744073709551616 := Int.mul_le_mul_of_nonneg_left (by omega) d0
    have e2 : Nm.pw 4097 = 18446744073709551616 * Nm.pw 4096 := Nm.pw_succ 4096
    omega
  -- the product
  have MU : Hid (∀ g : Obj, g = .cells #[.int .u64 m] 26 → Calls Tryz.prog 97 #[.slice q n' cap', .slice (some ⟨w.heap.size, 0, none⟩) 1 1] (w.alloc g) fun e w' => ∃ r os, e = .returned (.slice r (List.length os) (List.length os)) ∧ (Arg w' r os.length os.length os ∧ Nm.val os = D * m ∧ Nm.tsize os ≤ 1099511627776) ∧ Below w.heap.size w w') := by
    intro g hg
    subst hg
    have hB := alloc_below w (.cells #[.int .u64 m] 26)
    have hmv : Nm.val [m] = m := by simp [Nm.val]
    have := times_any q (some ⟨w.heap.size, 0, none⟩) n' cap' 1 1 ys [m] _ (hb.below hB (Nat.le_refl _)) (arg_z (heap_alloc_new w _) m0.1 m0.2) (by omega) (by have := Nm.tsize_le [m]; simp at this; omega)
    rw [hD, hmv] at this
    refine this.mono ?_
    rintro e w' ⟨r, os, rfl, A, hB2⟩
    have l := ans_small A 4097 dm
    exact ⟨r, os, rfl, ⟨A.arg (by omega), A.2.2.2.1, by rw [A.2.2.1]; omega⟩, hB.trans (hB2.mono hB.size)⟩
  have LI : Hid (∀ (wx : World) (r : Option Addr) (n1 c1 : Nat) (os : List Int) (v kk : Int) (j : Nat), Arg wx r n1 c1 os → Nm.val os = v → Nm.tsize os ≤ 1099511627776 → kk = (j : Int) → j ≤ 4194304 → v < Nm.pw 4097 → Calls Tryz.prog 48 #[.slice r n1 c1, .int .i64 kk] wx fun e w' => ∃ r os, e = .returned (.slice r (List.length os) (List.length os)) ∧ (Arg w' r os.length os.length os ∧ Nm.val os = v * 2 ^ j) ∧ Below wx.heap.size wx w') := by
    intro wx r n1 c1 os v kk j A hv hs hkk hj hvb
    have := lift_any r n1 c1 os kk j wx A hs hkk hj
    rw [hv] at this
    refine this.mono ?_
    rintro e w' ⟨r', os', rfl, A', hB2⟩
    have hb2 : v * 2 ^ j < Nm.pw 100000 := by
      have g1 : v * 2 ^ j < Nm.pw 4097 * 2 ^ j := Int.mul_lt_mul_of_pos_right hvb (Nm.two_pos j)
      have g2 : Nm.pw 4097 * 2 ^ j ≤ Nm.pw 100000 := by rw [Nm.pw_two, Nm.pw_two, ← Nm.two_add]; exact Nm.two_mono (by omega)
      exact Int.lt_of_lt_of_le g1 g2
    have l := ans_small A' 100000 hb2
    exact ⟨r', os', rfl, ⟨A'.arg (by omega), A'.2.2.2.1⟩, hB2⟩
  have CM := hid (fun (wx : World) (r r' : Option Addr) (n1 c1 n2 c2 : Nat) (os os' : List Int) (A : Arg wx r n1 c1 os) (A' : Arg wx r' n2 c2 os') => refCmp_any r r' n1 c1 n2 c2 os os' wx A A')
  have HA := hid ha
  have HV := hid hV
  have TZ := hid tz
  have V1 : Hid (V < Nm.pw 4097) := by
    have e2 : Nm.pw 4097 = 18446744073709551616 * Nm.pw 4096 := Nm.pw_succ 4096
    have := Nm.pw_pos 4096
    rw [Hid]; omega
  have DM := hid dm
  rw [hk] at hst
  have HST := hid hst
  have HM : Hid (Ie.mm x middle = m) := hm
  have MX : (x < 4503599627370496 ∧ Ie.man x = x ∧ k = -1075) ∨ (4503599627370496 ≤ x ∧ Ie.man x = x % 4503599627370496 + 4503599627370496 ∧ k = x / 4503599627370496 - 1076) := by
    by_cases h : x < 4503599627370496
    · left; refine ⟨h, by rw [Ie.man, if_pos h], ?_⟩; rw [← hk, Ie.ex]; omega
    · right; refine ⟨by omega, by rw [Ie.man, if_neg h]; omega, ?_⟩; rw [← hk, Ie.ex]; omega
  obtain ⟨kb0, kb1⟩ := kb
  have MM : Hid (m = if middle = true then 2 * Ie.man x + 1 else 2 * Ie.man x) := by rw [Hid, ← hm, Ie.mm]
  rw [hm]
  clear ha hb tz ty hV hD d0 d1 v1 dm hst hm hk mb m0
  rcases MX with ⟨hx, hmx, hkx⟩ | ⟨hx, hmx, hkx⟩ <;> cases middle <;> rcases (show e ≤ k ∨ k < e by omega) with hke | hke
  · have hM : m = 2 * x := by rw [MM.out, hmx]; rfl
    have HMM := hid hM
    have HKX := hid hkx
    clear hmx hM MM
    have hz : t = 0 := by have := HST.out; omega
    subst hz
    rw [Int.pow_zero, Int.mul_one]
    have c1 : ¬ (-1075) < e := by have := HKX.out; omega
    clear hkx hke
    go_enter Tryz.func98, Tryz.ntmps98
    go_wp2_with fail
    have EM := HMM.out
    refine (MU.out _ (by rw [EM])).mono ?_
    rintro e' w1 ⟨r, os, rfl, A, hB1⟩
    have AA := hid A
    have HB1 := hid hB1
    clear A hB1 MU EM
    go_wp2_with fail
    refine (LI.out _ r _ _ os _ _ s AA.out.1 AA.out.2.1 AA.out.2.2 (by have := HST.out; have := HKX.out; omega) (by have := HST.out; omega) DM.out).mono ?_
    rintro e' w2 ⟨r2, o2, rfl, A2, hB2⟩
    have HB2 := hid (HB1.out.trans (hB2.mono HB1.out.size))
    have C1 := CM.out w2 r2 p _ _ n cap o2 zs A2.1 (HA.out.below HB2.out (Nat.le_refl _))
    rw [A2.2, HV.out] at C1
    have CC := hid C1
    clear A2 hB2 C1 LI
    go_wp2_with fail
    refine CC.out.mono ?_
    rintro e' w3 ⟨rfl, hB3⟩
    have HB3 := hid (HB2.out.trans (hB3.mono HB2.out.size))
    clear hB3
    go_wp2_with fail
    go_ret
    exact ⟨rfl, HB3.out⟩
  · have hM : m = 2 * x := by rw [MM.out, hmx]; rfl
    have HMM := hid hM
    have HKX := hid hkx
    clear hmx hM MM
    have hz : s = 0 := by have := HST.out; omega
    subst hz
    rw [Int.pow_zero, Int.mul_one]
    have c1 : (-1075) < e := by have := HKX.out; omega
    clear hkx hke
    go_enter Tryz.func98, Tryz.ntmps98
    go_wp2_with fail
    have EM := HMM.out
    refine (MU.out _ (by rw [EM])).mono ?_
    rintro e' w1 ⟨r, os, rfl, A, hB1⟩
    have AA := hid A
    have HB1 := hid hB1
    clear A hB1 MU EM
    go_wp2_with fail
    refine (LI.out _ p n cap zs V _ t (HA.out.below HB1.out (Nat.le_refl _)) HV.out (by have := TZ.out; omega) (by have := HST.out; have := HKX.out; omega) (by have := HST.out; omega) V1.out).mono ?_
    rintro e' w2 ⟨r2, o2, rfl, A2, hB2⟩
    have HB2 := hid (HB1.out.trans (hB2.mono HB1.out.size))
    have C1 := CM.out w2 r r2 _ _ _ _ os o2 (AA.out.1.below hB2 (Nat.le_refl _)) A2.1
    rw [A2.2, AA.out.2.1] at C1
    have CC := hid C1
    clear A2 hB2 C1 LI
    go_wp2_with fail
    refine CC.out.mono ?_
    rintro e' w3 ⟨rfl, hB3⟩
    have HB3 := hid (HB2.out.trans (hB3.mono HB2.out.size))
    clear hB3
    go_wp2_with fail
    go_ret
    exact ⟨rfl, HB3.out⟩
  · have hM : m = 2 * x + 1 := by rw [MM.out, hmx]; rfl
    have HMM := hid hM
    have HKX := hid hkx
    clear hmx hM MM
    have hz : t = 0 := by have := HST.out; omega
    subst hz
    rw [Int.pow_zero, Int.mul_one]
    have c1 : ¬ (-1075) < e := by have := HKX.out; omega
    clear hkx hke
    go_enter Tryz.func98, Tryz.ntmps98
    go_wp2_with fail
    have EM := HMM.out
    refine (MU.out _ (by rw [EM])).mono ?_
    rintro e' w1 ⟨r, os, rfl, A, hB1⟩
    have AA := hid A
    have HB1 := hid hB1
    clear A hB1 MU EM
    go_wp2_with fail
    refine (LI.out _ r _ _ os _ _ s AA.out.1 AA.out.2.1 AA.out.2.2 (by have := HST.out; have := HKX.out; omega) (by have := HST.out; omega) DM.out).mono ?_
    rintro e' w2 ⟨r2, o2, rfl, A2, hB2⟩
    have HB2 := hid (HB1.out.trans (hB2.mono HB1.out.size))
    have C1 := CM.out w2 r2 p _ _ n cap o2 zs A2.1 (HA.out.below HB2.out (Nat.le_refl _))
    rw [A2.2, HV.out] at C1
    have CC := hid C1
    clear A2 hB2 C1 LI
    go_wp2_with fail
    refine CC.out.mono ?_
    rintro e' w3 ⟨rfl, hB3⟩
    have HB3 := hid (HB2.out.trans (hB3.mono HB2.out.size))
    clear hB3
    go_wp2_with fail
    go_ret
    exact ⟨rfl, HB3.out⟩
  · have hM : m = 2 * x + 1 := by rw [MM.out, hmx]; rfl
    have HMM := hid hM
    have HKX := hid hkx
    clear hmx hM MM
    have hz : s = 0 := by have := HST.out; omega
    subst hz
    rw [Int.pow_zero, Int.mul_one]
    have c1 : (-1075) < e := by have := HKX.out; omega
    clear hkx hke
    go_enter Tryz.func98, Tryz.ntmps98
    go_wp2_with fail
    have EM := HMM.out
    refine (MU.out _ (by rw [EM])).mono ?_
    rintro e' w1 ⟨r, os, rfl, A, hB1⟩
    have AA := hid A
    have HB1 := hid hB1
    clear A hB1 MU EM
    go_wp2_with fail
    refine (LI.out _ p n cap zs V _ t (HA.out.below HB1.out (Nat.le_refl _)) HV.out (by have := TZ.out; omega) (by have := HST.out; have := HKX.out; omega) (by have := HST.out; omega) V1.out).mono ?_
    rintro e' w2 ⟨r2, o2, rfl, A2, hB2⟩
    have HB2 := hid (HB1.out.trans (hB2.mono HB1.out.size))
    have C1 := CM.out w2 r r2 _ _ _ _ os o2 (AA.out.1.below hB2 (Nat.le_refl _)) A2.1
    rw [A2.2, AA.out.2.1] at C1
    have CC := hid C1
    clear A2 hB2 C1 LI
    go_wp2_with fail
    refine CC.out.mono ?_
    rintro e' w3 ⟨rfl, hB3⟩
    have HB3 := hid (HB2.out.trans (hB3.mono HB2.out.size))
    clear hB3
    go_wp2_with fail
    go_ret
    exact ⟨rfl, HB3.out⟩
  · have hM : m = 2 * (x % 4503599627370496 + 4503599627370496) := by rw [MM.out, hmx]; rfl
    have y1 : x % 4503599627370496 < 4503599627370496 := by omega
    have y0 : 0 ≤ x % 4503599627370496 := by omega
    have f0 : 0 ≤ x / 4503599627370496 := by omega
    have f1 : x / 4503599627370496 ≤ 2047 := by omega
    have HMM := hid hM
    have HKX := hid hkx
    clear hmx hM MM
    have hz : t = 0 := by have := HST.out; omega
    subst hz
    rw [Int.pow_zero, Int.mul_one]
    have c1 : ¬ (x / 4503599627370496 - 1076) < e := by have := HKX.out; omega
    clear hkx hke
    go_enter Tryz.func98, Tryz.ntmps98
    go_wp2_with fail
    have EM := HMM.out
    refine (MU.out _ (by rw [EM])).mono ?_
    rintro e' w1 ⟨r, os, rfl, A, hB1⟩
    have AA := hid A
    have HB1 := hid hB1
    clear A hB1 MU EM
    go_wp2_with fail
    refine (LI.out _ r _ _ os _ _ s AA.out.1 AA.out.2.1 AA.out.2.2 (by have := HST.out; have := HKX.out; omega) (by have := HST.out; omega) DM.out).mono ?_
    rintro e' w2 ⟨r2, o2, rfl, A2, hB2⟩
    have HB2 := hid (HB1.out.trans (hB2.mono HB1.out.size))
    have C1 := CM.out w2 r2 p _ _ n cap o2 zs A2.1 (HA.out.below HB2.out (Nat.le_refl _))
    rw [A2.2, HV.out] at C1
    have CC := hid C1
    clear A2 hB2 C1 LI
    go_wp2_with fail
    refine CC.out.mono ?_
    rintro e' w3 ⟨rfl, hB3⟩
    have HB3 := hid (HB2.out.trans (hB3.mono HB2.out.size))
    clear hB3
    go_wp2_with fail
    go_ret
    exact ⟨rfl, HB3.out⟩
  · have hM : m = 2 * (x % 4503599627370496 + 4503599627370496) := by rw [MM.out, hmx]; rfl
    have y1 : x % 4503599627370496 < 4503599627370496 := by omega
    have y0 : 0 ≤ x % 4503599627370496 := by omega
    have f0 : 0 ≤ x / 4503599627370496 := by omega
    have f1 : x / 4503599627370496 ≤ 2047 := by omega
    have HMM := hid hM
    have HKX := hid hkx
    clear hmx hM MM
    have hz : s = 0 := by have := HST.out; omega
    subst hz
    rw [Int.pow_zero, Int.mul_one]
    have c1 : (x / 4503599627370496 - 1076) < e := by have := HKX.out; omega
    clear hkx hke
    go_enter Tryz.func98, Tryz.ntmps98
    go_wp2_with fail
    have EM := HMM.out
    refine (MU.out _ (by rw [EM])).mono ?_
    rintro e' w1 ⟨r, os, rfl, A, hB1⟩
    have AA := hid A
    have HB1 := hid hB1
    clear A hB1 MU EM
    go_wp2_with fail
    refine (LI.out _ p n cap zs V _ t (HA.out.below HB1.out (Nat.le_refl _)) HV.out (by have := TZ.out; omega) (by have := HST.out; have := HKX.out; omega) (by have := HST.out; omega) V1.out).mono ?_
    rintro e' w2 ⟨r2, o2, rfl, A2, hB2⟩
    have HB2 := hid (HB1.out.trans (hB2.mono HB1.out.size))
    have C1 := CM.out w2 r r2 _ _ _ _ os o2 (AA.out.1.below hB2 (Nat.le_refl _)) A2.1
    rw [A2.2, AA.out.2.1] at C1
    have CC := hid C1
    clear A2 hB2 C1 LI
    go_wp2_with fail
    refine CC.out.mono ?_
    rintro e' w3 ⟨rfl, hB3⟩
    have HB3 := hid (HB2.out.trans (hB3.mono HB2.out.size))
    clear hB3
    go_wp2_with fail
    go_ret
    exact ⟨rfl, HB3.out⟩
  · have hM : m = 2 * (x % 4503599627370496 + 4503599627370496) + 1 := by rw [MM.out, hmx]; rfl
    have y1 : x % 4503599627370496 < 4503599627370496 := by omega
    have y0 : 0 ≤ x % 4503599627370496 := by omega
    have f0 : 0 ≤ x / 4503599627370496 := by omega
    have f1 : x / 4503599627370496 ≤ 2047 := by omega
    have HMM := hid hM
    have HKX := hid hkx
    clear hmx hM MM
    have hz : t = 0 := by have := HST.out; omega
    subst hz
    rw [Int.pow_zero, Int.mul_one]
    have c1 : ¬ (x / 4503599627370496 - 1076) < e := by have := HKX.out; omega
    clear hkx hke
    go_enter Tryz.func98, Tryz.ntmps98
    go_wp2_with fail
    have EM := HMM.out
    refine (MU.out _ (by rw [EM])).mono ?_
    rintro e' w1 ⟨r, os, rfl, A, hB1⟩
    have AA := hid A
    have HB1 := hid hB1
    clear A hB1 MU EM
    go_wp2_with fail
    refine (LI.out _ r _ _ os _ _ s AA.out.1 AA.out.2.1 AA.out.2.2 (by have := HST.out; have := HKX.out; omega) (by have := HST.out; omega) DM.out).mono ?_
    rintro e' w2 ⟨r2, o2, rfl, A2, hB2⟩
    have HB2 := hid (HB1.out.trans (hB2.mono HB1.out.size))
    have C1 := CM.out w2 r2 p _ _ n cap o2 zs A2.1 (HA.out.below HB2.out (Nat.le_refl _))
    rw [A2.2, HV.out] at C1
    have CC := hid C1
    clear A2 hB2 C1 LI
    go_wp2_with fail
    refine CC.out.mono ?_
    rintro e' w3 ⟨rfl, hB3⟩
    have HB3 := hid (HB2.out.trans (hB3.mono HB2.out.size))
    clear hB3
    go_wp2_with fail
    go_ret
    exact ⟨rfl, HB3.out⟩
  · have hM : m = 2 * (x % 4503599627370496 + 4503599627370496) + 1 := by rw [MM.out, hmx]; rfl
    have y1 : x % 4503599627370496 < 4503599627370496 := by omega
    have y0 : 0 ≤ x % 4503599627370496 := by omega
    have f0 : 0 ≤ x / 4503599627370496 := by omega
    have f1 : x / 4503599627370496 ≤ 2047 := by omega
    have HMM := hid hM
    have HKX := hid hkx
    clear hmx hM MM
    have hz : s = 0 := by have := HST.out; omega
    subst hz
    rw [Int.pow_zero, Int.mul_one]
    have c1 : (x / 4503599627370496 - 1076) < e := by have := HKX.out; omega
    clear hkx hke
    go_enter Tryz.func98, Tryz.ntmps98
    go_wp2_with fail
    have EM := HMM.out
    refine (MU.out _ (by rw [EM])).mono ?_
    rintro e' w1 ⟨r, os, rfl, A, hB1⟩
    have AA := hid A
    have HB1 := hid hB1
    clear A hB1 MU EM
    go_wp2_with fail
    refine (LI.out _ p n cap zs V _ t (HA.out.below HB1.out (Nat.le_refl _)) HV.out (by have := TZ.out; omega) (by have := HST.out; have := HKX.out; omega) (by have := HST.out; omega) V1.out).mono ?_
    rintro e' w2 ⟨r2, o2, rfl, A2, hB2⟩
    have HB2 := hid (HB1.out.trans (hB2.mono HB1.out.size))
    have C1 := CM.out w2 r r2 _ _ _ _ os o2 (AA.out.1.below hB2 (Nat.le_refl _)) A2.1
    rw [A2.2, AA.out.2.1] at C1
    have CC := hid C1
    clear A2 hB2 C1 LI
    go_wp2_with fail
    refine CC.out.mono ?_
    rintro e' w3 ⟨rfl, hB3⟩
    have HB3 := hid (HB2.out.trans (hB3.mono HB2.out.size))
    clear hB3
    go_wp2_with fail
    go_ret
    exact ⟨rfl, HB3.out⟩
end Go.Proofs.YtmakkfekomnpbaaGreatDoor
