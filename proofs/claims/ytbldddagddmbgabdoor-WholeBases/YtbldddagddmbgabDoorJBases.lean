/-
  abacuslaw14: WholeBases (mkjbases.py).
-/
import Derived.Test.YtbldddagddmbgabDoorJC
import Derived.Test.YtbldddagddmbgabDoorJBaseN
import Derived.Test.YtbldddagddmbgabDoorWalk5
import Derived.Deep.DeepCutAuto
namespace Go.Proofs.YtbldddagddmbgabDoor
open Go Go.RowKit Go.Deep Go.Shelf

theorem SB.s1 {w0 wk : World} {bx : Nat} {V F W P : Int} (h : SB w0 bx V F W P wk) (hb : w0.heap.size ≤ bx) (v : Int) : SB w0 bx V v W P (wk.setCell ⟨bx, 1, none⟩ (.int .i64 v)) :=
  ⟨h.bel.setCell (p := ⟨bx, 1, none⟩) hb _, set1 h.box rfl⟩
theorem SB.free {w0 wk : World} {bx : Nat} {V F W P : Int} (h : SB w0 bx V F W P wk) : wk.frozen? ⟨bx, 0, none⟩ = false ∧ wk.frozen? ⟨bx, 1, none⟩ = false ∧ wk.frozen? ⟨bx, 2, none⟩ = false ∧ wk.frozen? ⟨bx, 3, none⟩ = false := h.box.cells.2

/-- The list of bases stands. -/
structure BL (w0 : World) (g : Nat) (wk : World) : Prop where
  bel : Below w0.heap.size w0 wk
  blk : wk.heap[g]? = some (.cells #[.int .i64 8, .int .i64 10, .int .i64 16, .int .i64 16] 3 (0, 0))
theorem BL.lt {w0 wk : World} {g : Nat} (h : BL w0 g wk) : g < wk.heap.size := by
  rcases Nat.lt_or_ge g wk.heap.size with hl | hl
  · exact hl
  · have := h.blk; simp [Array.getElem?_eq_none hl] at this
theorem BL.on {w0 wk w' : World} {g : Nat} (h : BL w0 g wk) (k : Below wk.heap.size wk w') : BL w0 g w' := ⟨below_on h.bel k, by rw [k.block g h.lt]; exact h.blk⟩
theorem BL.far {w0 wk : World} {g c o : Nat} {v : Value} (h : BL w0 g wk) (hc : c ≠ g) (hw : w0.heap.size ≤ c) : BL w0 g (wk.setCell ⟨c, o, none⟩ v) := by
  refine ⟨h.bel.setCell (p := ⟨c, o, none⟩) hw _, ?_⟩
  simp only [World.setCell, Array.getElem?_modify]
  rw [if_neg hc]; exact h.blk
theorem BL.cells {w0 wk : World} {g : Nat} (h : BL w0 g wk) : wk.cell? ⟨g, 0, none⟩ = some (.int .i64 8) ∧ wk.cell? ⟨g, 1, none⟩ = some (.int .i64 10) ∧ wk.cell? ⟨g, 2, none⟩ = some (.int .i64 16) ∧ wk.cell? ⟨g, 3, none⟩ = some (.int .i64 16) := by
  have := h.blk
  refine ⟨?_, ?_, ?_, ?_⟩ <;> simp [World.cell?, this]
theorem bcmp_same (v : Int) : cmpI v v = 0 := by
  unfold cmpI
  first | simp | (split <;> omega)
theorem empty_of {xs : List Int} (h : xs ≠ []) : (strOfNums xs).toList.isEmpty = false ∧ ((strOfNums xs).toList == []) = false ∧ (strOfNums xs).toList ≠ [] := by
  have e := isEmpty_nums xs
  have e2 : xs.isEmpty = false := by cases xs with | nil => exact absurd rfl h | cons _ _ => rfl
  rw [e2] at e
  refine ⟨e, by rw [toList_nums, e2], fun c => ?_⟩
  rw [c] at e
  exact Bool.noConfusion e

set_option maxRecDepth 100000 in
set_option maxHeartbeats 16000000 in
theorem bases_law (u P : Int) (w : World) (u0 : 0 ≤ u) (u1 : u < 18446744073709551616) :
    Calls Tryd.prog 3 #[.int .u64 u, .int .i64 P] w fun e w' => e = .returned (.bool true) ∧ Below w.heap.size w w' := by
  have FT := hid (forty_any w)
  by_cases hlo : P < -1
  · clear u0 u1
    go_enter Tryd.func3, Tryd.ntmps3
    go_wp2_with fail
    with_reducible refine FT.out.mono ?_
    rintro e w1 ⟨rfl, b1⟩
    have B1 := hid b1
    clear b1
    go_wp2_with fail
    go_ret
    exact ⟨rfl, B1.out⟩
  by_cases hhi : 4096 < P
  · clear u0 u1
    go_enter Tryd.func3, Tryd.ntmps3
    go_wp2_with fail
    with_reducible refine FT.out.mono ?_
    rintro e w1 ⟨rfl, b1⟩
    have B1 := hid b1
    clear b1
    go_wp2_with fail
    go_ret
    exact ⟨rfl, B1.out⟩
  have p0 : -1 ≤ P := by omega
  have p1 : P ≤ 4096 := by omega
  have FB : ∀ V : Int, Wh.FilB (Wh.base V) (decide (V = 88)) P u (Wh.ubody V P u) := fun V => Wh.fil_b u0 u1 (base_bd V).1 (base_bd V).2 p0 p1
  have hck : ∀ F : Int, 0 ≤ F → F ≤ 31 → Wh.chk F 0 P = 0 := fun F a b => Wh.chk_of ⟨⟨a, b⟩, by omega, ⟨p0, p1⟩⟩
  have UA : Hid (∀ V (W' : World), (V = 111 ∨ V = 117 ∨ V = 120 ∨ V = 88) → Calls Tryd.prog 5 #[.agg #[.int .u8 V, .int .i64 0, .int .i64 0, .int .i64 P], .int .u64 u] W' fun e w' => e = .returned (.tuple #[.string (strOfNums (Wh.ubody V P u)), .int .i64 0]) ∧ Below W'.heap.size W' w') := by
    intro V W' hV
    refine (unsigned_any V 0 0 P u W' (by omega) (by omega) u0 u1).mono ?_
    rintro e w' ⟨rfl, b⟩
    have e0 : Wh.unsE V 0 0 P = 0 := by rw [Wh.unsE, if_pos hV, hck 0 (by omega) (by omega)]
    have b8 : Wh.bit 0 8 = false := by decide
    rw [Wh.uns, e0, if_pos rfl, Wh.unsT, Wh.padT_zero, Wh.uhead, b8, if_neg (fun q => Bool.false_ne_true q.1), if_neg (fun q => Bool.false_ne_true q.1), List.nil_append, Wh.utext, Wh.umark, b8, Bool.false_and, Bool.false_and, if_neg Bool.false_ne_true]
    exact ⟨rfl, b⟩
  have UH : Hid (∀ V (W' : World), (V = 111 ∨ V = 117 ∨ V = 120 ∨ V = 88) → Calls Tryd.prog 5 #[.agg #[.int .u8 V, .int .i64 8, .int .i64 0, .int .i64 P], .int .u64 u] W' fun e w' => e = .returned (.tuple #[.string (strOfNums (Wh.uhead V 8 u ++ Wh.utext V 8 P u)), .int .i64 0]) ∧ Below W'.heap.size W' w') := by
    intro V W' hV
    refine (unsigned_any V 8 0 P u W' (by omega) (by omega) u0 u1).mono ?_
    rintro e w' ⟨rfl, b⟩
    have e0 : Wh.unsE V 8 0 P = 0 := by rw [Wh.unsE, if_pos hV, hck 8 (by omega) (by omega)]
    rw [Wh.uns, e0, if_pos rfl, Wh.unsT, Wh.padT_zero]
    exact ⟨rfl, b⟩
  have FR : Hid (∀ V (W' : World), Wh.ubody V P u ≠ [] → Calls Tryd.prog 6 #[.string (strOfNums (Wh.ubody V P u)), .int .i64 (Wh.base V)] W' fun e w' => ∃ r os, e = .returned (.tuple #[.slice r (List.length os) (List.length os), .int .i64 0, .int .i64 0]) ∧ Ans W'.heap.size w' r os u ∧ Below W'.heap.size W' w') := by
    intro V W' h0
    exact fromBase_fits _ _ u W' (base_bd V).1 (base_bd V).2 (FB V).by_ (FB V).max (FB V).dig h0 (FB V).val u1
  have FU := hid (fun W' => fromUint_any u W' u0 u1)
  have CM : Hid (∀ W' r os r2 os2 b b2, Ans b W' r os u → Ans b2 W' r2 os2 u → Calls Tryd.prog 7 #[.slice r (List.length os) (List.length os), .slice r2 (List.length os2) (List.length os2)] W' fun e w' => e = .returned (.int .i64 0) ∧ Below W'.heap.size W' w') := by
    intro W' r os r2 os2 b b2 h k
    have l1 : os.length ≤ 1 := by rw [← h.2.2.1]; exact (Nm.tsize_le_iff h.2.1 1).2 (by rw [h.2.2.2.1]; exact u1)
    have l2 : os2.length ≤ 1 := by rw [← k.2.2.1]; exact (Nm.tsize_le_iff k.2.1 1).2 (by rw [k.2.2.2.1]; exact u1)
    have q := cmp_any r r2 os.length os.length os2.length os2.length os os2 W' (h.arg (by omega)) (k.arg (by omega))
    rw [h.2.2.2.1, k.2.2.2.1, bcmp_same] at q
    exact q
  have H8 : Wh.bit 8 8 = true := by decide
  obtain ⟨z0, HZ⟩ : ∃ z0 : Bool, Hid (z0 = decide (u = 0 ∧ P = 0)) := ⟨_, rfl⟩
  have FBH := hid FB
  clear FB hck u1
  go_enter Tryd.func3, Tryd.ntmps3
  go_wp2_with fail
  with_reducible refine FT.out.mono ?_
  rintro e w1 ⟨rfl, b1⟩
  have B1 := hid b1
  clear b1 FT
  have D0 : Hid (BL w w1.heap.size (w1.alloc (.cells #[.int .i64 8, .int .i64 10, .int .i64 16, .int .i64 16] 3))) := ⟨below_on B1.out (alloc_b w1 _), heap_alloc_new w1 _⟩
  have lg : Hid (w.heap.size ≤ w1.heap.size) := B1.out.size
  clear B1
  go_upto_region 6 with fail
  generalize (w1.alloc (.cells #[.int .i64 8, .int .i64 10, .int .i64 16, .int .i64 16] 3)) = wA at *
  generalize w1.heap.size = g at *
  go_wp2_with fail
  go_loopg [6, 7, 8, 9, 10, 11, 12, 13, 14, 15, 16] 4 (fun m k a7 a8 a9 a10 a11 a12 a13 a14 a15 a16 wr => ∃ i : Nat, i + m = 4 ∧ k = .int .i64 (i : Int) ∧ Hid (BL w g wr))
  case atStart => exact ⟨0, by omega, rfl, D0.out⟩
  case round =>
    obtain ⟨i, hi, rfl, I⟩ := hrel
    clear D0
    by_cases i4 : i < 4
    · obtain ⟨V, Bs, up, HV, hV, hB, hup⟩ : ∃ (V Bs : Int) (up : Bool), Hid ((i = 0 ∧ V = 111) ∨ (i = 1 ∧ V = 117) ∨ (i = 2 ∧ V = 120) ∨ (i = 3 ∧ V = 88)) ∧ (V = 111 ∨ V = 117 ∨ V = 120 ∨ V = 88) ∧ Wh.base V = Bs ∧ decide (V = 88) = up := by
        rcases (show i = 0 ∨ i = 1 ∨ i = 2 ∨ i = 3 by omega) with h | h | h | h
        · exact ⟨111, _, _, .inl ⟨h, rfl⟩, by omega, rfl, rfl⟩
        · exact ⟨117, _, _, .inr (.inl ⟨h, rfl⟩), by omega, rfl, rfl⟩
        · exact ⟨120, _, _, .inr (.inr (.inl ⟨h, rfl⟩)), by omega, rfl, rfl⟩
        · exact ⟨88, _, _, .inr (.inr (.inr ⟨h, rfl⟩)), by omega, rfl, rfl⟩
      have FX := FBH.out V
      have A1 := hid (fun W' => UA.out V W' hV)
      have A2 := hid (fun W' => UH.out V W' hV)
      have A3 := hid (fun W' h => FR.out V W' h)
      rw [hB] at A3
      have i4i : (i : Int) < 4 := by omega
      have BC : Hid (∀ wk, BL w g wk → wk.cell? ⟨g, i, none⟩ = some (.int .i64 Bs)) := by
        intro wk h
        obtain ⟨g0, g1, g2, g3⟩ := h.cells
        rcases HV.out with ⟨a, b⟩ | ⟨a, b⟩ | ⟨a, b⟩ | ⟨a, b⟩ <;> subst a <;> subst b <;> rw [← hB]
        · exact g0
        · exact g1
        · exact g2
        · exact g3
      have ki : ∀ h, (((⟨#[111, 117, 120, 88]⟩ : ByteArray)[i]'h).toNat : Int) = V := by
        rcases HV.out with ⟨a, b⟩ | ⟨a, b⟩ | ⟨a, b⟩ | ⟨a, b⟩ <;> subst a <;> subst b <;> intro h <;> rfl
      have hh : Hid ((V = 111 → (((Wh.ubody V P u).getD 0 0 = 48 → Wh.uhead V 8 u ++ Wh.utext V 8 P u = Wh.ubody V P u) ∧ ((Wh.ubody V P u).getD 0 0 ≠ 48 → Wh.uhead V 8 u ++ Wh.utext V 8 P u = 48 :: Wh.ubody V P u))) ∧ (V = 117 → Wh.uhead V 8 u ++ Wh.utext V 8 P u = Wh.ubody V P u) ∧ ((V = 120 ∨ V = 88) → ((u = 0 → Wh.uhead V 8 u ++ Wh.utext V 8 P u = Wh.ubody V P u) ∧ (u ≠ 0 → Wh.uhead V 8 u ++ Wh.utext V 8 P u = [48, V] ++ Wh.ubody V P u)))) := by
        have et : V ≠ 111 → Wh.utext V 8 P u = Wh.ubody V P u := fun q => by
          rw [Wh.utext, Wh.umark, if_neg]
          rw [decide_eq_false q, Bool.and_false, Bool.false_and]
          exact Bool.false_ne_true
        refine ⟨fun e => ?_, fun e => ?_, fun e => ?_⟩
        · have e1 : Wh.uhead V 8 u = [] := by rw [Wh.uhead, if_neg (by omega), if_neg (by omega)]
          rw [e1, List.nil_append, Wh.utext, Wh.umark, H8, decide_eq_true e]
          refine ⟨fun h => ?_, fun h => ?_⟩
          · rw [if_neg]; rw [h]; decide
          · have k : decide ((Wh.ubody V P u).getD 0 0 ≠ 48) = true := decide_eq_true h
            rw [if_pos]; rw [k]; rfl
        · have e1 : Wh.uhead V 8 u = [] := by rw [Wh.uhead, if_neg (by omega), if_neg (by omega)]
          rw [e1, List.nil_append, et (by omega)]
        · rw [et (by omega)]
          refine ⟨fun h => ?_, fun h => ?_⟩
          · rw [Wh.uhead, if_neg (fun q => q.2.1 h), if_neg (fun q => q.2.1 h), List.nil_append]
          · rcases e with e | e
            · rw [Wh.uhead, if_pos ⟨H8, h, e⟩, e]
            · rw [Wh.uhead, if_neg (by omega), if_pos ⟨H8, h, e⟩, e]
      have CA : Hid (∀ j, j < (Wh.ubody V P u).length → (V = 120 → (Wh.ubody V P u).getD j 0 < 65 ∨ 90 < (Wh.ubody V P u).getD j 0) ∧ (V = 88 → (Wh.ubody V P u).getD j 0 < 97 ∨ 122 < (Wh.ubody V P u).getD j 0)) := by
        intro j hj
        have q := FX.case_ j hj
        refine ⟨fun e => ?_, fun e => ?_⟩
        · have := q.2 (decide_eq_false (by omega)); omega
        · have := q.1 (decide_eq_true e); omega
      clear UA UH FR FBH hB hup hV
      generalize Wh.uhead V 8 u ++ Wh.utext V 8 P u = H at *
      generalize Wh.ubody V P u = T at *
      have ty := FX.by_
      have tS : (strOfNums T).size = T.length := strOfNums_size T
      have tb : (T.length : Int) ≤ 270000 := by have := FX.max; omega
      have tP : ¬ (T.length : Int) < P := by have := FX.len; omega
      have TN := hid FX.nil
      have TE := hid FX.ne
      have HD := hid FX.head
      have IX : ∀ (j : Nat) h, (((strOfNums T)[j]'h).toNat : Int) = T.getD j 0 := fun j h => (Str.of_nums ty).at j h
      have AP := hid (fun (a : List Int) (h : Wh.By a) => str_app h ty)
      have EO := hid (fun (h : T ≠ []) => empty_of h)
      clear FX ty
      have bl : Hid (wr.heap.size ≠ g) := by have := I.out.lt; show _ ≠ _; omega
      have wl : Hid (w.heap.size ≤ wr.heap.size) := I.out.bel.size
      have N0 := SB.new wr V 0 0 P
      have E1 := hid (I.out.on N0.bel)
      have S1 : Hid (SB w wr.heap.size V 0 0 P (wr.alloc (.cells #[.int .u8 V, .int .i64 0, .int .i64 0, .int .i64 P] 26))) := ⟨below_on I.out.bel N0.bel, N0.box⟩
      clear N0 I
      go_upto_region 10 with fail
      clear ki
      generalize (wr.alloc (.cells #[.int .u8 V, .int .i64 0, .int .i64 0, .int .i64 P] 26)) = wS at *
      generalize wr.heap.size = bx at *
      obtain ⟨c0, c1, c2, c3⟩ := S1.out.flat
      go_wp2_with fail
      with_reducible refine (A1.out _).mono ?_
      rintro e w2 ⟨rfl, b2⟩
      have S2 := hid (S1.out.on b2)
      have E2 := hid (E1.out.on b2)
      clear b2 A1 S1 E1 c0 c1 c2 c3
      obtain ⟨c0, c1, c2, c3⟩ := S2.out.flat
      obtain ⟨f0, f1, f2, f3⟩ := S2.out.free
      have S3 := hid (S2.out.s1 wl.out 8)
      have E3 := hid (E2.out.far (o := 1) (v := .int .i64 8) bl.out wl.out)
      clear S2 E2
      go_upto_region 12 with fail
      clear c0 c1 c2 c3 f0 f1 f2 f3
      generalize (w2.setCell ⟨bx, 1, none⟩ (.int .i64 8)) = wF at *
      obtain ⟨c0, c1, c2, c3⟩ := S3.out.flat
      go_wp2_with fail
      with_reducible refine (A2.out _).mono ?_
      rintro e w3 ⟨rfl, b3⟩
      have E4 := hid (E3.out.on b3)
      clear b3 A2 S3 E3 c0 c1 c2 c3
      go_upto_region 15 with fail
      go_cut [64] from 26 to 169 (fun b wx => b = .bool z0 ∧ wx = w3)
      case first =>
        by_cases hu : u = 0
        · by_cases hp : P = 0
          · have e1 : z0 = true := by rw [HZ.out]; exact decide_eq_true ⟨hu, hp⟩
            subst e1
            subst hu
            subst hp
            go_wp2_with fail
            go_meet
            exact ⟨rfl, rfl⟩
          · have e1 : z0 = false := by rw [HZ.out]; exact decide_eq_false (fun q => hp q.2)
            subst e1
            subst hu
            have hp2 : (P == 0) = false := by simpa using hp
            go_wp2_with fail
            go_meet
            exact ⟨rfl, rfl⟩
        · have e1 : z0 = false := by rw [HZ.out]; exact decide_eq_false (fun q => hu q.1)
          subst e1
          have hu2 : (u == 0) = false := by simpa using hu
          go_wp2_with fail
          go_meet
          exact ⟨rfl, rfl⟩
      case rest =>
      obtain ⟨h64, hwc⟩ := hcut
      subst h64
      have hwc := hwc.symm
      subst hwc
      go_upto_if 64 with fail
      go_cut [12, 13, 14] from 26 to 169 (fun a b c wx => Hid (BL w g wx))
      case first =>
        cases hz : z0 with
        | true =>
          have q : u = 0 ∧ P = 0 := of_decide_eq_true (HZ.out.symm.trans hz)
          have e1 : T = [] := TN.out q.1 q.2
          have e2 : (strOfNums T).toList = [] := by rw [ByteArray.toList_eq, strOfNums_data, e1]; rfl
          have e3 : (strOfNums T).toList.isEmpty = true := by rw [e2]; rfl
          clear q e1
          go_wp2_with fail
          go_meet
          exact E4.out
        | false =>
          have q : ¬ (u = 0 ∧ P = 0) := of_decide_eq_false (HZ.out.symm.trans hz)
          have T0 := TE.out q
          have tl : 0 < T.length := List.length_pos_iff.2 T0
          have tli : (0 : Int) < (T.length : Int) := by omega
          have g0 := BC.out _ E4.out
          have IX0 := IX 0
          have A4 := hid (fun W' => A3.out W' T0)
          have HD2 := HD.out
          clear q IX
          go_wp2_with fail
          with_reducible refine (A4.out _).mono ?_
          rintro e w4 ⟨r, os, rfl, a4, b4⟩
          have E5 := hid (E4.out.on b4)
          have X4 := hid a4
          clear a4 b4 A4 g0
          go_wp2_with fail
          with_reducible refine (FU.out _).mono ?_
          rintro e w5 ⟨r2, os2, rfl, a5, b5⟩
          have E6 := hid (E5.out.on b5)
          have C1 := hid (CM.out w5 r os r2 os2 _ _ (X4.out.below b5 (Nat.le_refl _)) a5)
          clear a5 b5 X4 E5
          go_wp2_with fail
          with_reducible refine C1.out.mono ?_
          rintro e w6 ⟨rfl, b6⟩
          have E7 := hid (E6.out.on b6)
          clear b6 C1 E6
          rcases HD2 with h | ⟨h, -⟩ | ⟨h, k⟩ | ⟨h, -, -⟩
          · exact absurd h T0
          · generalize T.getD 0 0 = x0 at *
            have h2 : (x0 == 48) = false := by simpa using h
            clear h
            go_wp2_with fail
            go_meet
            exact E7.out
          · generalize T.getD 0 0 = x0 at *
            subst h
            have k2 : ((T.length : Int) != P) = false := by simpa using k
            have k3 : ((T.length : Int) == P) = true := by simpa using k
            clear k
            go_wp2_with fail
            go_meet
            exact E7.out
          · have tl1 : (T.length : Int) = 1 := by rw [h]; rfl
            have tx : T.getD 0 0 = 48 := by rw [h]; rfl
            have e2 : (strOfNums T).toList = [48] := by rw [ByteArray.toList_eq, strOfNums_data, h]; rfl
            clear h tl tb
            generalize T.getD 0 0 = x0 at *
            subst tx
            by_cases kk : (1 : Int) = P
            · subst kk
              go_wp2_with fail
              go_meet
              exact E7.out
            · have k4 : ((1 : Int) != P) = true := by simpa using kk
              have k5 : ((1 : Int) == P) = false := by simpa using kk
              clear kk
              go_wp2_with fail
              go_meet
              exact E7.out
      case rest =>
      have E5 := hid hcut.out
      clear hcut E4 A3 FU CM BC
      generalize wc = wI at *
      go_wp2_with fail
      have NT := T.length
      go_loopg [15] T.length (fun m k wr => ∃ j : Nat, j + m = T.length ∧ k = .int .i64 (j : Int) ∧ Hid (BL w g wr))
      case atStart => exact ⟨0, by omega, rfl, E5.out⟩
      case round =>
        obtain ⟨j, hj, rfl, J⟩ := hrel
        clear E5
        by_cases jl : j < T.length
        · have jli : (j : Int) < (T.length : Int) := by omega
          have IXJ := IX j
          have CJ := CA.out j jl
          clear IX CA
          generalize T.getD j 0 = xj at *
          rcases HV.out with ⟨a, b⟩ | ⟨a, b⟩ | ⟨a, b⟩ | ⟨a, b⟩
          · subst a
            clear CJ
            go_wp2_with fail
            go_roundg (T.length - (j + 1))
            case measure => omega
            case rel => exact ⟨j + 1, by omega, by go_num, J.out⟩
          · subst a
            clear CJ
            go_wp2_with fail
            go_roundg (T.length - (j + 1))
            case measure => omega
            case rel => exact ⟨j + 1, by omega, by go_num, J.out⟩
          · have CK := CJ.1 b
            subst a
            clear CJ
            rcases CK with ck | ck
            · have ck1 : ¬ 65 ≤ xj := by omega
              go_wp2_with fail
              go_roundg (T.length - (j + 1))
              case measure => omega
              case rel => exact ⟨j + 1, by omega, by go_num, J.out⟩
            · have ck1 : 65 ≤ xj := by omega
              have ck2 : ¬ xj ≤ 70 := by omega
              go_wp2_with fail
              go_roundg (T.length - (j + 1))
              case measure => omega
              case rel => exact ⟨j + 1, by omega, by go_num, J.out⟩
          · have CK := CJ.2 b
            subst a
            clear CJ
            rcases CK with ck | ck
            · have ck1 : ¬ 97 ≤ xj := by omega
              go_wp2_with fail
              go_roundg (T.length - (j + 1))
              case measure => omega
              case rel => exact ⟨j + 1, by omega, by go_num, J.out⟩
            · have ck1 : 97 ≤ xj := by omega
              have ck2 : ¬ xj ≤ 102 := by omega
              go_wp2_with fail
              go_roundg (T.length - (j + 1))
              case measure => omega
              case rel => exact ⟨j + 1, by omega, by go_num, J.out⟩
        · have jli : ¬ (j : Int) < (T.length : Int) := by omega
          clear CA
          rcases HV.out with ⟨a, b⟩ | ⟨a, b⟩ | ⟨a, b⟩ | ⟨a, b⟩
          · have h1 := hid (hh.out.1 b)
            clear hh
            subst a
            by_cases tn : T = []
            · have e1 : H = [48] := by rw [tn] at h1; exact h1.out.2 (by decide)
              have z1 : (⟨#[48]⟩ : ByteArray) ++ ⟨#[]⟩ = ⟨#[48]⟩ := rfl
              rw [e1, show strOfNums [48] = ⟨#[48]⟩ from rfl, tn, show strOfNums [] = ⟨#[]⟩ from rfl]
              clear IX h1 tS AP EO HD TN TE
              go_wp2_with fail
              go_roundg 3
              case measure => omega
              case rel => exact ⟨1, by omega, by go_num, J.out⟩
            · obtain ⟨n1, n2, n3⟩ := EO.out tn
              have tl : 0 < T.length := List.length_pos_iff.2 tn
              have tli : (0 : Int) < (T.length : Int) := by omega
              have IX0 := IX 0
              clear IX EO
              by_cases h : T.getD 0 0 = 48
              · have e1 : H = T := h1.out.1 h
                rw [e1]
                rw [h] at IX0
                clear h1 h AP
                go_wp2_with fail
                go_roundg 3
                case measure => omega
                case rel => exact ⟨1, by omega, by go_num, J.out⟩
              · have e1 : H = 48 :: T := h1.out.2 h
                have e2 : ⟨#[48]⟩ ++ strOfNums T = strOfNums (48 :: T) := AP.out [48] (by intro x hx; simp at hx; omega)
                rw [e1, ← e2]
                generalize T.getD 0 0 = x0 at *
                have h2 : (x0 == 48) = false := by simpa using h
                have h3 : (x0 != 48) = true := by simpa using h
                clear h1 h AP e1 e2
                go_wp2_with fail
                go_roundg 3
                case measure => omega
                case rel => exact ⟨1, by omega, by go_num, J.out⟩
          · have e1 : H = T := hh.out.2.1 b
            subst a
            rw [e1]
            clear IX hh AP EO HD TN TE
            go_wp2_with fail
            go_roundg 2
            case measure => omega
            case rel => exact ⟨2, by omega, by go_num, J.out⟩
          · have h1 := hid (hh.out.2.2 (by omega))
            clear hh
            subst a
            subst b
            by_cases hu : u = 0
            · have e1 : H = T := h1.out.1 hu
              rw [e1]
              have hu2 : (u != 0) = false := by simpa using hu
              clear IX h1 AP EO HD TN TE hu
              go_wp2_with fail
              go_roundg 1
              case measure => omega
              case rel => exact ⟨3, by omega, by go_num, J.out⟩
            · have e1 : H = [48, 120] ++ T := h1.out.2 hu
              have e2 : ⟨#[48, 120]⟩ ++ strOfNums T = strOfNums ([48, 120] ++ T) := AP.out [48, 120] (by intro x hx; simp at hx; omega)
              rw [e1, ← e2]
              have hu2 : (u != 0) = true := by simpa using hu
              have x1 : (⟨#[120, 88]⟩ : ByteArray).extract 0 1 = ⟨#[120]⟩ := by decide
              have x2 : (⟨#[48]⟩ : ByteArray) ++ ⟨#[120]⟩ = ⟨#[48, 120]⟩ := by decide
              clear IX h1 AP EO HD TN TE hu e1 e2
              go_wp2_with fail
              go_roundg 1
              case measure => omega
              case rel => exact ⟨3, by omega, by go_num, J.out⟩
          · have h1 := hid (hh.out.2.2 (by omega))
            clear hh
            subst a
            subst b
            by_cases hu : u = 0
            · have e1 : H = T := h1.out.1 hu
              rw [e1]
              have hu2 : (u != 0) = false := by simpa using hu
              clear IX h1 AP EO HD TN TE hu
              go_wp2_with fail
              go_roundg 0
              case measure => omega
              case rel => exact ⟨4, by omega, by go_num, J.out⟩
            · have e1 : H = [48, 88] ++ T := h1.out.2 hu
              have e2 : ⟨#[48, 88]⟩ ++ strOfNums T = strOfNums ([48, 88] ++ T) := AP.out [48, 88] (by intro x hx; simp at hx; omega)
              rw [e1, ← e2]
              have hu2 : (u != 0) = true := by simpa using hu
              have x1 : (⟨#[120, 88]⟩ : ByteArray).extract 1 2 = ⟨#[88]⟩ := by decide
              have x2 : (⟨#[48]⟩ : ByteArray) ++ ⟨#[88]⟩ = ⟨#[48, 88]⟩ := by decide
              clear IX h1 AP EO HD TN TE hu e1 e2
              go_wp2_with fail
              go_roundg 0
              case measure => omega
              case rel => exact ⟨4, by omega, by go_num, J.out⟩
    · obtain rfl : i = 4 := by omega
      go_wp2_with fail
      go_ret
      exact ⟨rfl, I.out.bel⟩
end Go.Proofs.YtbldddagddmbgabDoor
