/-
  layer 2's reference: the walk of Divide.
-/
import Derived.Test.YthfechigdiefpaaQRef4
import Derived.Test.YthfechigdiefpaaQDivOk
import Derived.OwnWalk
import Derived.Deep.LoopGhost
namespace Go.Proofs.Ythfechigdiefpaa
open Go.RowKit Go.Deep

/-- An own block of a trimmed list, as an answer. -/
theorem Own.ans {B g : Nat} {w : World} {zs : List Int} (h : Own w g (Nm.trim zs)) (hz : Nm.Limbs zs) (hB : B ≤ g) : Ans B w (some ⟨g, 0, none⟩) (Nm.trim zs) (Nm.val zs) :=
  ⟨h.lies, hz.trim, by rw [Nm.trim_trim, Nm.trim_length], Nm.val_trim zs, fun a ha => by cases ha; exact hB⟩

/-- Quotient and rest, as the reference tells them. -/
def Parts (A B : Int) (w : World) (e : Ending) (w' : World) : Prop :=
  ∃ r1 os r2 rs, e = .returned (.tuple #[.slice r1 (List.length os) (List.length os), .slice r2 (List.length rs) (List.length rs)]) ∧ Ans w.heap.size w' r1 os (A / B) ∧ Ans w.heap.size w' r2 rs (A % B) ∧ Below w.heap.size w w'

/-- What the list of the divisors moved up is, behind its making: all of it below block g. -/
structure Moved (Y : Nat) (b : Int) (gm g : Nat) (w : World) : Prop where
  at' : ∀ s, s < 64 → ∃ gs cs ms, w.cell? ⟨gm, s, none⟩ = some (.slice (some ⟨gs, 0, none⟩) (Y + 1) cs) ∧ Lies w (some ⟨gs, 0, none⟩) ms ∧ ms.length = Y + 1 ∧ Nm.Limbs ms ∧ Nm.val ms = b * 2 ^ s ∧ gs < g
  lt : gm < g

theorem Moved.lift {Y : Nat} {b : Int} {gm g g' : Nat} {w w' : World} (h : Moved Y b gm g w) (hb : Below g w w') (hg : g ≤ g') : Moved Y b gm g' w' := by
  refine ⟨fun s hs => ?_, by have := h.lt; omega⟩
  obtain ⟨gs, cs, ms, h1, h2, h3, h4, h5, h6⟩ := h.at' s hs
  exact ⟨gs, cs, ms, by rw [hb.cell (p := ⟨gm, s, none⟩) h.lt]; exact h1, h2.low hb (fun a ha => by cases ha; exact h6), h3, h4, h5, by omega⟩

/-- Of the headers' list, when all 64 are in. -/
theorem moved_of {base Y : Nat} {b : Int} {mv : Value} {l : List (Nat × Nat)} {w : World} (hb0 : 0 ≤ b) (hb : b < Nm.pw Y) (hl : l.length = 64) (ho : w.ownsRow base 24 1 mv 64 (l.map (hdr Y))) (hm : ∀ t e, l[t]? = some e → Mv Y (b * 2 ^ t) w e.1) :
    ∃ gm cp, mv = .slice (some ⟨gm, 0, none⟩) 64 cp ∧ Moved Y b gm w.heap.size w := by
  rcases ho.2 with ⟨_, h⟩ | ⟨gm, cp, cur, rfl, _, hcur, _, _, _, _⟩
  · omega
  · refine ⟨gm, cp, rfl, fun s hs => ?_, ?_⟩
    · have hs' : s < l.length := by omega
      have he : l[s]? = some l[s] := List.getElem?_eq_getElem hs'
      obtain ⟨ms, m1, m2, m3, m4⟩ := (hm s _ he).lies (two_lt hb hb0 (by omega))
      refine ⟨(l[s]).1, (l[s]).2, ms, ?_, m1, m2, m3, m4, (hm s _ he).lt⟩
      have := ho.cells (g := gm) rfl s (hdr Y l[s]) (by rw [List.getElem?_map, he]; rfl)
      rw [Go.WideShapes.add_plain, Nat.zero_add] at this
      exact this
    · rcases Nat.lt_or_ge gm w.heap.size with h | h
      · exact h
      · rw [Array.getElem?_eq_none h] at hcur
        exact absurd hcur (by simp)

theorem part_take {rs : List Int} {R t M : Nat} (h : t + M ≤ R) : Qd.part (rs.take R) t M = Qd.part rs t M := by
  rw [Qd.part, Qd.part, List.drop_take, List.take_take, Nat.min_eq_left (by omega)]

/-- What holds tells, of the whole. -/
theorem holds_iff {rs : List Int} (hr : Nm.Limbs rs) {t M : Nat} (hl : t + M ≤ rs.length) (hv : Nm.val rs < Nm.pw (t + M)) (V : Int) : V ≤ Nm.val (Qd.part rs t M) ↔ Nm.pw t * V ≤ Nm.val rs := by
  have h1 := Qd.part_val hr hl hv
  have h2 := Nm.val_bd _ (hr.take t)
  rw [List.length_take, Nat.min_eq_left (by omega)] at h2
  have hp := Nm.pw_pos t
  constructor
  · intro h
    have := Int.mul_le_mul_of_nonneg_left h (show 0 ≤ Nm.pw t by omega)
    omega
  · intro h
    rcases (show V ≤ Nm.val (Qd.part rs t M) ∨ Nm.val (Qd.part rs t M) + 1 ≤ V by omega) with c | c
    · exact c
    · exfalso
      have := Int.mul_le_mul_of_nonneg_left c (show 0 ≤ Nm.pw t by omega)
      rw [Int.mul_add, Int.mul_one] at this
      omega

theorem InI.room {w : World} {g g2 C K : Nat} {A b : Int} {t k Y : Nat} {os rs : List Int} {wr : World} (h : InI w g g2 C K A b t k os rs wr) (hk : k ≤ 64) (hb : b < Nm.pw Y) (hb0 : 0 ≤ b) : Nm.val rs < Nm.pw (t + (Y + 1)) := by
  have h1 := h.lt
  have h2 := two_lt hb hb0 hk
  have h3 : Nm.pw t * (b * 2 ^ k) ≤ Nm.pw t * Nm.pw (Y + 1) := Int.mul_le_mul_of_nonneg_left (by omega) (by have := Nm.pw_pos t; omega)
  rw [← Nm.pw_add] at h3
  omega

theorem holds_is (s : Bool) (p q : Option Addr) (R cap M cap' j : Nat) (rs ms : List Int) (ji : Int) (w : World) (hr : rs.length = R) (hR : R ≤ 17592186044416) (hm : ms.length = M) (hM : 0 < M) (hjM : j + M ≤ R) (h1 : Lies w p rs) (h2 : Lies w q ms) (hlr : Nm.Limbs rs) (hlm : Nm.Limbs ms) (hji : ji = (j : Int)) (hs : decide (Nm.val ms ≤ Nm.val (Qd.part rs j M)) = s) :
    Calls Try.prog 66 #[.slice p R cap, .int .i64 ji, .slice q M cap'] w fun e w' => e = .returned (.bool s) ∧ Below w.heap.size w w' := by
  rw [← hs]
  exact holds_any p q R cap M cap' j rs ms ji w hr hR hm hM hjM h1 h2 hlr hlm hji

set_option maxRecDepth 100000 in
set_option maxHeartbeats 4000000 in
theorem refDivide_any (p q : Option Addr) (n cap m cap' : Nat) (za zb : List Int) (w : World) (ha : Arg w p n cap za) (hb : Arg w q m cap' zb) (tz : Nm.tsize za ≤ 4096) (ty : Nm.tsize zb ≤ 4096) (hy : 0 < Nm.tsize zb) :
    Calls Try.prog 48 #[.slice p n cap, .slice q m cap'] w fun e w' => Parts (Nm.val za) (Nm.val zb) w e w' := by
  obtain ⟨N, hN⟩ : ∃ N, Nm.tsize za = N := ⟨_, rfl⟩
  obtain ⟨Y, hY⟩ : ∃ Y, Nm.tsize zb = Y := ⟨_, rfl⟩
  have ha1 := ha.2.1
  have ha2 := ha.2.2.1
  have hb1 := hb.2.1
  have hb2 := hb.2.2.1
  have S1 := short_any p n cap za N w ha.1 (by omega) ha.2.2.2.1 hN
  have b0 := (Nm.val_bd zb hb.2.2.2.2).1
  have a0 := (Nm.val_bd za ha.2.2.2.2).1
  have bY := Nm.val_lt_tsize hb.2.2.2.2
  rw [hY] at bY
  have HN := hid hN
  have HYY := hid hY
  have HA := hid ha
  have HB := hid hb
  have HS1 := hid S1
  have hN4 : N ≤ 4096 := by omega
  have hY4 : Y ≤ 4096 := by omega
  have hY0 : 0 < Y := by omega
  have RM : Hid (∀ K, N + 1 = K + Y → Nm.val za < Nm.pw K * Nm.val zb) := fun K hK => first_room ha.2.2.2.2 hb.2.2.2.2 hN hY hY0 hK
  have NM : Hid (N < Y → Nm.val za < Nm.val zb) := fun h => val_lt_of_tsize ha.2.2.2.2 hb.2.2.2.2 (by omega)
  obtain ⟨A, hAv⟩ : ∃ A, Nm.val za = A := ⟨_, rfl⟩
  obtain ⟨b, hbv⟩ : ∃ b, Nm.val zb = b := ⟨_, rfl⟩
  have HVA := hid hAv
  have HVB := hid hbv
  rw [hAv, hbv] at RM NM
  rw [hAv] at a0
  rw [hbv] at b0 bY
  rw [hAv, hbv]
  have HbY := hid bY
  clear ha hb tz ty hy S1 bY hN hY hAv hbv
  go_enter Try.func48, Try.ntmps48
  go_wp2_with fail
  refine HS1.out.mono ?_
  rintro e w1 ⟨rfl, o1, d1⟩
  have O1 := hid o1
  have D1 := hid d1
  clear o1 d1 HS1
  go_wp2_with fail
  refine (short_any q m cap' zb Y _ HB.out.1 (by omega) (HB.out.2.2.2.1.below D1.out (Nat.le_refl _)) HYY.out).mono ?_
  rintro e w2 ⟨rfl, o2, d2⟩
  have O1' := hid (O1.out.below d2 O1.out.lt)
  have O2 := hid o2
  have D2 := hid (chain D1.out d2 (Nat.le_refl _))
  have hw1 : w.heap.size ≤ w1.heap.size := D1.out.size
  clear o2 d2 O1 D1
  have A1 : Hid (Arg w2 (some ⟨w.heap.size, 0, none⟩) N N (Nm.trim za)) := ⟨(Nm.trim_length za).trans HN.out, Nat.le_refl _, by omega, O1'.out.lies, HA.out.2.2.2.2.trim⟩
  have A2 : Hid (Arg w2 (some ⟨w1.heap.size, 0, none⟩) Y Y (Nm.trim zb)) := ⟨(Nm.trim_length zb).trans HYY.out, Nat.le_refl _, by omega, O2.out.lies, HB.out.2.2.2.2.trim⟩
  by_cases hlt : A < b
  · have HLT := hid hlt
    clear hlt
    go_wp2_with fail
    refine (order_is (-1) _ _ N N Y Y (Nm.trim za) (Nm.trim zb) _ A1.out A2.out (cmpI_lt (by rw [Nm.val_trim, Nm.val_trim, HVA.out, HVB.out]; exact HLT.out))).mono ?_
    rintro e w3 ⟨rfl, d3⟩
    have F : Hid (Parts A b w (.returned (.tuple #[.slice none 0 0, .slice (some ⟨w.heap.size, 0, none⟩) N N])) w3) := by
      have hd := div_is (A := A) (B := b) (q := 0) (r := A) a0 HLT.out (by omega)
      have hl : (Nm.trim za).length = N := (Nm.trim_length za).trans HN.out
      refine ⟨none, [], some ⟨w.heap.size, 0, none⟩, Nm.trim za, by rw [hl]; rfl, ?_, ?_, chain D2.out d3 (Nat.le_refl _)⟩
      · rw [hd.1]; exact ans_none _ _ _ (fun a h => by cases h)
      · rw [hd.2, ← HVA.out]; exact (O1'.out.below d3 O1'.out.lt).ans HA.out.2.2.2.2 (Nat.le_refl _)
    clear d3
    go_wp2_with fail
    go_ret2
    exact F.out
  · obtain ⟨c, hc0, HC⟩ : ∃ c : Int, 0 ≤ c ∧ Hid (cmpI A b = c) := by
      rcases (show A = b ∨ b < A by omega) with h | h
      · exact ⟨0, by omega, cmpI_eq h⟩
      · exact ⟨1, by omega, cmpI_gt h⟩
    have hNY : Y ≤ N := by
      rcases Nat.lt_or_ge N Y with h | h
      · exact absurd (NM.out h) hlt
      · exact h
    clear hlt NM
    go_wp2_with fail
    refine (order_is c _ _ N N Y Y (Nm.trim za) (Nm.trim zb) _ A1.out A2.out (by rw [Nm.val_trim, Nm.val_trim, HVA.out, HVB.out]; exact HC.out)).mono ?_
    rintro e w3 ⟨rfl, d3⟩
    have D3 := hid (chain D2.out d3 (Nat.le_refl _))
    have HB3 := hid (HB.out.below D3.out (Nat.le_refl _))
    clear d3 O1' O2 A1 A2 D2
    go_wp2_with fail
    refine (short_any q m cap' zb Y _ HB3.out.1 (by omega) HB3.out.2.2.2.1 HYY.out).mono ?_
    rintro e w4 ⟨rfl, o4, d4⟩
    obtain ⟨c4, w5, ap, hc5, o5, d5⟩ := grow64 w3.heap.size Y (Nm.trim zb) 0 w4 ((Nm.trim_length zb).trans HYY.out) (by omega) o4
    have AP := hid ap
    have D5 := hid (chain (chain D3.out d4 (Nat.le_refl _)) d5 (Nat.le_refl _))
    have M5 : Hid (Mv Y (b * 2 ^ 0) w5 (w4.heap.size + 1)) := by
      refine ⟨_, o5, by simp [Nm.trim_length, HYY.out], ?_, ?_⟩
      · exact ((HB.out.2.2.2.2.trim).append (limb_one (by omega))).append (Nm.Limbs.replicate _)
      · rw [Nm.val_append, Nm.val_append, Nm.val_replicate, Nm.val_trim, HVB.out]
        simp [Nm.val]
    have hs5 := D5.out.size
    clear ap o4 d4 o5 d5 D3 HB3
    go_wp2_with (at_builtin; refine wpList_append_q rfl _ _ rfl AP.out (by rfl) (by rfl) ?_; clear AP)
    go_loopw [8, 9, 10] (fun a c i wr => ∃ (k : Nat) (mv : Value) (l : List (Nat × Nat)) (gm cm : Nat), k ≤ 64 ∧ i = .int .i64 k ∧ a = mv ∧ c = .slice (some ⟨gm, 0, none⟩) (Y + 1) cm ∧ Hid (Y + 1 ≤ cm) ∧ Hid (l.length = k ∧ wr.ownsRow w.heap.size 24 1 mv k (l.map (hdr Y)) ∧ (∀ t e, l[t]? = some e → Mv Y (b * 2 ^ t) wr e.1) ∧ Mv Y (b * 2 ^ k) wr gm ∧ Below w.heap.size w wr)) (fun _ _ i _ => 64 - (intOf i).toNat)
    case atStart => exact ⟨0, .slice none 0 0, [], w4.heap.size + 1, c4, by omega, rfl, rfl, rfl, hc5, rfl, World.ownsRow_nil _ _ _ _, fun t e h => by simp at h, M5.out, D5.out⟩
    case round =>
      clear M5 D5 hs5
      obtain ⟨k, mv, l, gm, cm, hk, rfl, hmv, rfl, HCM, I⟩ := hrel
      have hmv := hmv.symm
      subst hmv
      by_cases hk64 : k < 64
      · obtain ⟨i1, i2, i3, i4, i5⟩ := I.out
        obtain ⟨mv', w6, ap, j1, j2, j3, j4⟩ := pushHdr w.heap.size Y k mv l (gm, cm) wr i1 (by omega) i5.size i2
        have AP : Hid ((Builtin.append_ #[60, 60] 60 #[mv, .slice (some ⟨wr.heap.size, 0, none⟩) 1 1]).run Try.prog (wr.alloc (.cells #[.slice (some ⟨gm, 0, none⟩) (Y + 1) cm] 24)) = .ok mv' w6) := ap
        obtain ⟨ms, m1, m2, m3, m4⟩ := (j3 _ _ i4).lies (two_lt HbY.out b0 (by omega))
        have J1 := hid j1
        have J2 := hid (i5.trans j2)
        have J3 : Hid ((∀ t e, (l ++ [(gm, cm)])[t]? = some e → Mv Y (b * 2 ^ t) w6 e.1) ∧ (l ++ [(gm, cm)]).length = k + 1) := by
          refine ⟨fun t e h => ?_, by simp [i1]⟩
          by_cases ht : t < l.length
          · rw [List.getElem?_append_left ht] at h
            exact j3 _ _ (i3 t e h)
          · have hlt := (List.getElem?_eq_some_iff.1 h).1
            simp only [List.length_append, List.length_cons, List.length_nil] at hlt
            have ht2 : t = k := by omega
            subst ht2
            rw [List.getElem?_append_right (by omega), i1, Nat.sub_self] at h
            simp at h
            subst h
            exact j3 _ _ i4
        have DB := hid (doubled_any (some ⟨gm, 0, none⟩) (Y + 1) cm ms 0 w6 m2 (by omega) m1 m3 (by omega) (by omega))
        have M4 := hid m4
        clear ap i1 i2 i3 i4 i5 j1 j2 j3 j4 m1 m2 m3 m4 I
        go_wp2_with (at_builtin; refine wpList_append_q rfl _ _ rfl AP.out (by rfl) (by rfl) ?_; clear AP)
        refine DB.out.mono ?_
        rintro e w7 ⟨os, rfl, K⟩
        have KK : Hid ((l ++ [(gm, cm)]).length = k + 1 ∧ w7.ownsRow w.heap.size 24 1 mv' (k + 1) ((l ++ [(gm, cm)]).map (hdr Y)) ∧ (∀ t e, (l ++ [(gm, cm)])[t]? = some e → Mv Y (b * 2 ^ t) w7 e.1) ∧ Mv Y (b * 2 ^ (k + 1)) w7 w6.heap.size ∧ Below w.heap.size w w7) := by
          obtain ⟨k1, k2, k3, k4, k5⟩ := K.out
          refine ⟨J3.out.2, ?_, fun t e h => (J3.out.1 t e h).below k5, ⟨os, k1, by omega, k3, ?_⟩, chain J2.out k5 (Nat.le_refl _)⟩
          · exact J1.out.kept (row := none) ⟨k5.os, k5.tape, k5.output, k5.size, fun j hj _ => k5.block j hj⟩ (by cases h : Value.ownBlock mv' <;> simp)
          · rw [k4, M4.out, Nm.two_succ, Int.mul_left_comm]; omega
        clear K DB J1 J2 J3 M4
        go_wp2_with fail
        go_roundw
        case rel => exact ⟨k + 1, mv', l ++ [(gm, cm)], w6.heap.size, Y + 1 + 1, by omega, by go_num, rfl, rfl, by show _ ≤ _; omega, KK.out⟩
        case measure => simp [intOf]; omega
      · have hk2 : k = 64 := by omega
        subst hk2
        obtain ⟨i1, i2, i3, i4, i5⟩ := I.out
        obtain ⟨gv, cv, rfl, MV⟩ := moved_of b0 HbY.out i1 i2 i3
        have HMV := hid MV
        have D6 := hid i5
        have HA6 := hid (HA.out.below i5 (Nat.le_refl _))
        clear MV i1 i2 i3 i4 i5 I
        go_wp2_with fail
        refine (short_any p n cap za N _ HA6.out.1 (by omega) HA6.out.2.2.2.1 HN.out).mono ?_
        rintro e w7 ⟨rfl, o7, d7⟩
        obtain ⟨C, w8, ap, hc8, o8, d8⟩ := grow64 wr.heap.size N (Nm.trim za) 0 w7 ((Nm.trim_length za).trans HN.out) (by omega) o7
        have AP := hid ap
        have D8 := hid (chain d7 d8 (Nat.le_refl _))
        obtain ⟨J, HJ⟩ : ∃ J, Hid (J = N - Y) := ⟨_, rfl⟩
        have hJ : J ≤ 4096 := by rw [HJ.out]; omega
        have r1 : (N : Int) - (Y : Int) = (J : Int) := by rw [HJ.out]; omega
        have hmk := make64 (J + 1) (by omega) w8
        have em : ((J + 1 : Nat) : Int) = (J : Int) + 1 := by omega
        rw [em] at hmk
        clear em
        have hb9 : Below w8.heap.size w8 (w8.alloc (.cells (madeCells #[.int .u64 0] (J + 1)) 26)) := (Below.refl _ _).alloc (Nat.le_refl _) _
        have ho9 : Own (w8.alloc (.cells (madeCells #[.int .u64 0] (J + 1)) 26)) w8.heap.size (List.replicate (J + 1) 0) := by
          rw [made_zero]; exact Own.alloc w8 _
        obtain ⟨W0, hW0⟩ : ∃ W0, w8.alloc (.cells (madeCells #[.int .u64 0] (J + 1)) 26) = W0 := ⟨_, rfl⟩
        rw [hW0] at hmk hb9 ho9
        clear hW0
        have hg : w7.heap.size + 1 < w8.heap.size := o8.lt
        have d78 := chain d7 d8 (Nat.le_refl _)
        have HM8 := hid (HMV.out.lift d78 (show wr.heap.size ≤ w7.heap.size + 1 by have := d7.size; omega))
        have I0 : Hid (DivI w8 (w7.heap.size + 1) w8.heap.size C (J + 1) A b (J + 1) (List.replicate (J + 1) 0) (Nm.trim za ++ [0] ++ List.replicate (C - (N + 1)) 0) W0) := by
          have ev : Nm.val (Nm.trim za ++ [0] ++ List.replicate (C - (N + 1)) 0) = A := by
            rw [Nm.val_append, Nm.val_append, Nm.val_replicate, Nm.val_trim, HVA.out]
            simp [Nm.val]
          refine ⟨o8.below hb9 o8.lt, by simp [Nm.trim_length, HN.out]; omega, ((HA.out.2.2.2.2.trim).append (limb_one (by omega))).append (Nm.Limbs.replicate _), ho9, by simp, Nm.Limbs.replicate _, fun i _ => getD_replicate _ _, ?_, ?_, hb9.mono (Nat.le_of_lt hg)⟩
          · rw [Nm.val_replicate, ev]; omega
          · rw [ev]; exact RM.out (J + 1) (by rw [HJ.out]; omega)
        have D8 := hid (chain D6.out d78 (Nat.le_refl _))
        obtain ⟨g, hge⟩ : ∃ g, w7.heap.size + 1 = g := ⟨_, rfl⟩
        obtain ⟨gq, hgq⟩ : ∃ gq, w8.heap.size = gq := ⟨_, rfl⟩
        rw [hge] at I0 HM8 hg AP
        rw [hgq] at I0 hg hmk
        have hbase : Hid (w.heap.size ≤ g) := by
          show _ ≤ _
          have := D6.out.size
          have := d7.size
          omega
        clear ap o7 d7 o8 d8 d78 hb9 ho9 HMV HA6 hge hgq
        go_wp2_with (at_builtin; refine wpList_append_q rfl _ _ rfl AP.out (by rfl) (by rfl) ?_; clear AP)
        go_loopg [13] (J + 1) (fun j i wx => ∃ (os rs : List Int), j ≤ J + 1 ∧ i = .int .i64 ((j : Int) - 1) ∧ Hid (DivI w8 g gq C (J + 1) A b j os rs wx))
        case atStart => exact ⟨_, _, Nat.le_refl _, by go_num, I0.out⟩
        case round =>
          clear I0 hmk r1
          obtain ⟨os, rs, hj, rfl, I⟩ := hrel
          cases gk with
          | zero =>
            have HO := hid I.out.own2
            have HR := hid I.out.own
            have HE : Hid (A / b = Nm.val os ∧ A % b = Nm.val rs) := by
              have h1 := I.out.eq
              have h2 := I.out.lt
              simp only [Nm.pw, Int.one_mul] at h2
              exact div_is (Nm.val_bd rs I.out.lim).1 h2 h1
            have hrs : Hid (Nm.val (rs.take (N + 1)) = Nm.val rs) := by
              have h2 := I.out.lt
              simp only [Nm.pw, Int.one_mul] at h2
              refine Nm.val_take_of_zero rs (N + 1) (fun i hi => Nm.zero_of_lt I.out.lim (k := Y) (by have := HbY.out; omega) i (by omega))
            have hlen : Hid ((rs.take (N + 1)).length = N + 1) := by
              show _ = _
              rw [List.length_take, I.out.len]
              omega
            obtain ⟨T1, hT1⟩ : ∃ T, Hid (Nm.tsize os = T) := ⟨_, rfl⟩
            obtain ⟨T2, hT2⟩ : ∃ T, Hid (Nm.tsize (rs.take (N + 1)) = T) := ⟨_, rfl⟩
            have DX := hid (D8.out.trans (I.out.low.mono hbase.out))
            have hq1 : Hid (os.length = J + 1) := I.out.len2
            have L1 := hid I.out.lim
            have L2 := hid I.out.lim2
            clear I
            go_wp2_with fail
            refine (short_any (some ⟨gq, 0, none⟩) (J + 1) (J + 1) os T1 _ hq1.out (by omega) HO.out.lies hT1.out).mono ?_
            rintro e w10 ⟨rfl, o10, d10⟩
            have O10 := hid o10
            have D10 := hid d10
            have HR2 := hid (HR.out.below d10 HR.out.lt)
            have hsz : Hid (w.heap.size ≤ wr.heap.size) := DX.out.size
            clear o10 d10 HR
            go_wp2_with fail
            refine (short_any (some ⟨g, 0, none⟩) (N + 1) C (rs.take (N + 1)) T2 _ hlen.out (by omega) (HR2.out.lies.take _) hT2.out).mono ?_
            rintro e w11 ⟨rfl, o11, d11⟩
            have F : Hid (Parts A b w (.returned (.tuple #[.slice (some ⟨wr.heap.size, 0, none⟩) T1 T1, .slice (some ⟨w10.heap.size, 0, none⟩) T2 T2])) w11) := by
              have l1 : (Nm.trim os).length = T1 := (Nm.trim_length os).trans hT1.out
              have l2 : (Nm.trim (rs.take (N + 1))).length = T2 := (Nm.trim_length _).trans hT2.out
              refine ⟨_, Nm.trim os, _, Nm.trim (rs.take (N + 1)), by rw [l1, l2], ?_, ?_, chain (chain DX.out D10.out (Nat.le_refl _)) d11 (Nat.le_refl _)⟩
              · rw [HE.out.1]; exact (O10.out.below d11 O10.out.lt).ans L2.out hsz.out
              · rw [HE.out.2, ← hrs.out]; exact o11.ans (L1.out.take _) (Nat.le_trans hsz.out D10.out.size)
            clear o11 d11
            go_wp2_with fail
            go_ret2
            exact F.out
          | succ t =>
            have II := hid (InI.first I.out)
            have htJ : (t : Int) < (J : Int) + 1 := by omega
            clear I
            rw [show ((t + 1 : Nat) : Int) - 1 = (t : Int) by omega]
            go_wp2_with fail
            go_loopg [14] 64 (fun k i wy => ∃ (os rs : List Int), k ≤ 64 ∧ i = .int .i64 ((k : Int) - 1) ∧ Hid (InI w8 g gq C (J + 1) A b t k os rs wy))
            case atStart => exact ⟨os, rs, Nat.le_refl _, rfl, II.out⟩
            case round =>
              clear II
              obtain ⟨os, rs, hk, rfl, I⟩ := hrel
              cases gk with
              | zero =>
                have IL := hid I.out.last
                clear I
                go_wp2_with fail
                go_roundg t
                case measure => omega
                case rel => exact ⟨os, rs, by omega, by go_num, IL.out⟩
              | succ s =>
                obtain ⟨gs, cs, ms, hcell, m2, m3, m4, m5, m6⟩ := (HM8.out.lift I.out.low (Nat.le_refl _)).at' s (by omega)
                have hgv := HM8.out.lt
                have M2 := hid m2
                have M3 := hid m3
                have M4 := hid m4
                have M5 := hid m5
                have hlen : Hid ((rs.take (N + 1)).length = N + 1) := by
                  show _ = _
                  rw [List.length_take, I.out.len]
                  omega
                have hNt : Hid (t + (Y + 1) ≤ N + 1) := by show _ ≤ _; have := HJ.out; omega
                have hlt2 : Hid (t + (Y + 1) ≤ rs.length) := by show _ ≤ _; rw [I.out.len]; have := hNt.out; omega
                have RO := hid (I.out.room hk HbY.out b0)
                have HI := hid (holds_iff I.out.lim hlt2.out RO.out (b * 2 ^ s))
                have hs64 : (s : Int) < 64 := by omega
                clear m2 m3 m4 m5
                by_cases hle : Nm.pw t * (b * 2 ^ s) ≤ Nm.val rs
                · have HO := hid (holds_is true (some ⟨g, 0, none⟩) (some ⟨gs, 0, none⟩) (N + 1) C (Y + 1) cs t (rs.take (N + 1)) ms (t : Int) wr hlen.out (by omega) M3.out (by omega) hNt.out (I.out.own.lies.take _) M2.out (I.out.lim.take _) M4.out rfl (by rw [part_take hNt.out, M5.out]; simp only [decide_eq_true_eq]; exact HI.out.2 hle))
                  have HLE := hid hle
                  clear hle HI
                  go_wp2_with fail
                  refine HO.out.mono ?_
                  rintro e w12 ⟨rfl, d12⟩
                  have hcell2 : w12.cell? ⟨gv, s, none⟩ = some (.slice (some ⟨gs, 0, none⟩) (Y + 1) cs) := by
                    rw [d12.cell (p := ⟨gv, s, none⟩) (by show gv < wr.heap.size; have := I.out.own.lt; omega)]
                    exact hcell
                  have D12 := hid d12
                  have OR := hid (I.out.orr (by omega))
                  have TO := hid (takeOff_any g C (N + 1) C (Y + 1) cs t rs (some ⟨gs, 0, none⟩) ms (t : Int) w12 (I.out.own.below d12 I.out.own.lt) I.out.len hc8 (by omega) M3.out (by omega) hNt.out I.out.lim (M2.out.below d12 (Nat.le_refl _)) M4.out (fun a ha => by cases ha; show gs ≠ g; omega) rfl (by rw [M5.out]; exact HLE.out) RO.out)
                  rw [M5.out] at TO
                  clear hcell d12 HO
                  go_wp2_with fail
                  refine TO.out.mono ?_
                  rintro e w13 ⟨rs', rfl, P⟩
                  obtain ⟨o2, IN⟩ := I.out.take (by omega) hg D12.out P.out.1 P.out.2.1 P.out.2.2.1 P.out.2.2.2.1 P.out.2.2.2.2.1 P.out.2.2.2.2.2.2 (by omega)
                  obtain ⟨y, hy, YE⟩ : ∃ y, w13.cell? ⟨gq, t, none⟩ = some (.int .u64 y) ∧ Hid (os.getD t 0 = y) := ⟨_, o2.cell t (by have := I.out.len2; omega), rfl⟩
                  have hfr := o2.free t
                  rw [YE.out] at IN OR
                  obtain ⟨PP, HP⟩ : ∃ P : Int, Hid (2 ^ s = P) := ⟨_, rfl⟩
                  have q1 : IntKind.u64.wrap (2 ^ s) = PP := by
                    have h1 := Nm.two_pos s
                    have h2 := Nm.two_mono (show s ≤ 63 by omega)
                    rw [show (2 : Int) ^ 63 = 9223372036854775808 by decide] at h2
                    rw [← HP.out, wrap_mod]
                    omega
                  rw [HP.out] at OR IN
                  have q2 := OR.out.1
                  obtain ⟨z, HZ⟩ : ∃ z, Hid (y + PP = z) := ⟨_, rfl⟩
                  rw [HZ.out] at q2 IN
                  have HIN := hid IN
                  clear IN o2 P I TO OR
                  go_wp2_with fail
                  go_roundg s
                  case measure => omega
                  case rel => exact ⟨_, rs', by omega, by go_num, HIN.out⟩
                · have HO := hid (holds_is false (some ⟨g, 0, none⟩) (some ⟨gs, 0, none⟩) (N + 1) C (Y + 1) cs t (rs.take (N + 1)) ms (t : Int) wr hlen.out (by omega) M3.out (by omega) hNt.out (I.out.own.lies.take _) M2.out (I.out.lim.take _) M4.out rfl (by rw [part_take hNt.out, M5.out]; simp only [decide_eq_false_iff_not]; exact fun h => hle (HI.out.1 h)))
                  have HLE : Hid (Nm.val rs < Nm.pw t * (b * 2 ^ s)) := Int.not_le.1 hle
                  clear hle HI
                  go_wp2_with fail
                  refine HO.out.mono ?_
                  rintro e w12 ⟨rfl, d12⟩
                  have HIN := hid (I.out.skip d12 HLE.out)
                  clear d12 I
                  go_wp2_with fail
                  go_roundg s
                  case measure => omega
                  case rel => exact ⟨os, rs, by omega, by go_num, HIN.out⟩
end Go.Proofs.Ythfechigdiefpaa
