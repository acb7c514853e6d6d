/-
  Texts put together: PoCaps, FTab, PoCase, OpenSpc.
-/
import Derived.Test.YtaoaniigbooihabGreatDoorRI
import Derived.Test.YtaoaniigbooihabGreatDoorRF
import Derived.Deep.DeepCutAuto
import Derived.Test.YtaoaniigbooihabGreatDoorRC
import Derived.Lib.LaidTab
import Derived.Test.YtaoaniigbooihabGreatDoorRows
import Derived.Lib.LaidCaseMet
import Derived.Deep.DeepWitnessRowRef
import Derived.Test.YtaoaniigbooihabGreatDoorRE
import Derived.SizedLaws
import Derived.ProofKit
namespace Go.Proofs.YtaoaniigbooihabGreatDoor
open Go Go.RowKit Go.Deep Go.Shelf

theorem S4.farb {w : World} {b c o : Nat} {v v0 v1 v2 v3 : Value} (h : S4 w b v0 v1 v2 v3) (hc : c ≠ b) : S4 (w.setCell ⟨c, o, none⟩ v) b v0 v1 v2 v3 := by
  simp only [S4] at *
  simp only [World.setCell, Array.getElem?_modify]
  rw [if_neg hc]; exact h
theorem S4.put0 {w : World} {b : Nat} {v v0 v1 v2 v3 : Value} (h : S4 w b v0 v1 v2 v3) : S4 (w.setCell ⟨b, 0, none⟩ v) b v v1 v2 v3 := fset1 (o := 0) (v := v) (c' := #[v, v1, v2, v3]) h (by simp [Array.setIfInBounds])

theorem ownf_str {g k cap : Nat} {W : World} {fs : List Int} (o : OwnF W g fs) (hl : k ≤ fs.length) :
    (convert 39 9 (.slice (some ⟨g, 0, none⟩) k cap)).run Tryz.prog W = .ok (.string (strOfNums (fs.take k))) W := by
  have hlen : (fs.take k).length = k := by simp; omega
  refine run_convert_bytes_arg (P := Tryz.prog) W 39 5 Tryz.underlying39 Tryz.underlying5 g 0 k cap (fs.take k) hlen (fun i hi => ?_) 9 Tryz.underlying9
  rw [Nat.zero_add, o.cell i (by omega)]
  simp [List.getD, hi]

namespace Po
/-- Lowered so far. -/
def lw (xs es : List Int) (j : Nat) : List Int := (xs.take j).map low ++ es.drop j
theorem lw_len {xs es : List Int} {j : Nat} (hj : j ≤ xs.length) (he : xs.length ≤ es.length) : (lw xs es j).length = es.length := by
  unfold lw; rw [List.length_append, List.length_map, List.length_take, List.length_drop]; omega
theorem lw_at {xs es : List Int} {j : Nat} (hj : j < xs.length) (he : es.take xs.length = xs) : (lw xs es j).getD j 0 = xs.getD j 0 := by
  have e1 : ((xs.take j).map low).length = j := by rw [List.length_map, List.length_take]; omega
  unfold lw
  rw [List.getD_eq_getElem?_getD, List.getElem?_append_right (by omega), e1, Nat.sub_self, List.getElem?_drop, Nat.add_zero, List.getD_eq_getElem?_getD]
  conv => rhs; rw [← he]
  rw [List.getElem?_take_of_lt hj]
theorem lw_next {xs es : List Int} {j : Nat} (hj : j < xs.length) (hl : xs.length ≤ es.length) : (lw xs es j).set j (low (xs.getD j 0)) = lw xs es (j + 1) := by
  have e1 : ((xs.take j).map low).length = j := by rw [List.length_map, List.length_take]; omega
  unfold lw
  rw [List.set_append, if_neg (by omega), e1, Nat.sub_self]
  have e2 : es.drop j = es.getD j 0 :: es.drop (j + 1) := by
    rw [List.drop_eq_getElem_cons (by omega)]
    simp [List.getD, show j < es.length by omega]
  rw [e2, List.set_cons_zero, List.take_add_one, List.map_append, List.append_assoc]
  congr 1
  simp [List.getD, hj]
theorem lw_same {xs es : List Int} {j : Nat} (hj : j < xs.length) (hl : xs.length ≤ es.length) (he : es.take xs.length = xs) (h : low (xs.getD j 0) = xs.getD j 0) : lw xs es j = lw xs es (j + 1) := by
  rw [← lw_next hj hl, h, ← lw_at hj he]
  have hlt : j < (lw xs es j).length := by rw [lw_len (by omega) hl]; omega
  have g : (lw xs es j).getD j 0 = (lw xs es j)[j] := by simp [List.getD, hlt]
  rw [g, List.set_getElem_self]
theorem lw_end {xs es : List Int} (_hl : xs.length ≤ es.length) : (lw xs es xs.length).take xs.length = xs.map low := by
  unfold lw
  rw [List.take_length, List.take_append_of_le_length (by simp), List.take_of_length_le (by simp)]
end Po

set_option maxRecDepth 100000 in
set_option maxHeartbeats 4000000 in
theorem plow_any (xs : List Int) (w : World) (hx : Wh.By xs) (hl : xs.length ≤ 40000) :
    Calls Tryz.prog 8 #[.string (strOfNums xs)] w fun e w' => e = .returned (.string (strOfNums (xs.map Po.low))) ∧ Below w.heap.size w w' := by
  obtain ⟨cp, es, w1, CV, o1, e1, e2, b1⟩ := bytes_made (Str.of_nums hx) w
  have sz : (strOfNums xs).size = xs.length := strOfNums_size xs
  rw [sz] at CV
  have LN : Hid (∀ j, j < xs.length → (Po.lw xs es j).getD j 0 = xs.getD j 0 ∧ (Po.lw xs es j).set j (Po.low (xs.getD j 0)) = Po.lw xs es (j + 1) ∧ (Po.low (xs.getD j 0) = xs.getD j 0 → Po.lw xs es j = Po.lw xs es (j + 1))) := fun j hj => ⟨Po.lw_at hj e1, Po.lw_next hj e2, Po.lw_same hj e2 e1⟩
  have LL : Hid (∀ j, j ≤ xs.length → (Po.lw xs es j).length = es.length ∧ xs.length ≤ es.length) := fun j hj => ⟨Po.lw_len hj e2, e2⟩
  have LE := hid (Po.lw_end e2)
  have XB : Hid (∀ j, j < xs.length → 0 ≤ xs.getD j 0 ∧ xs.getD j 0 < 256) := fun j hj => hx _ (by simp [List.getD, List.getElem?_eq_getElem hj])
  have O0 : Hid (OwnF w1 w.heap.size (Po.lw xs es 0) ∧ Below w.heap.size w w1) := by
    refine ⟨?_, b1⟩
    have : Po.lw xs es 0 = es := by simp [Po.lw]
    rw [this]; exact o1
  have LW : Hid (∀ x, Po.low x = if 65 ≤ x ∧ x ≤ 90 then x + 32 else x) := fun _ => rfl
  obtain ⟨n, hn⟩ : ∃ n, xs.length = n := ⟨_, rfl⟩
  rw [hn] at CV LN LL LE XB
  have nb : (n : Int) ≤ 40000 := by omega
  clear o1 e1 e2 b1 hx hl sz hn
  generalize hG : w.heap.size = G at *
  go_enter Tryz.func8, Tryz.ntmps8
  go_wp2_with fail
  go_loopg [4] n (fun k i wr => ∃ j : Nat, j + k = n ∧ i = .int .i64 (j : Int) ∧ Hid (OwnF wr G (Po.lw xs es j) ∧ Below G w wr))
  case atStart => exact ⟨0, by omega, rfl, O0.out⟩
  case round =>
    obtain ⟨j, hj, rfl, I⟩ := hrel
    by_cases hjn : j < n
    · have hji : (j : Int) < (n : Int) := by omega
      obtain ⟨a1, a2, a3⟩ := LN.out j hjn
      obtain ⟨l1, l2⟩ := LL.out j (by omega)
      have cl := I.out.1.cell j (by omega)
      have fl := I.out.1.free j (by omega)
      rw [a1] at cl
      have xb := XB.out j hjn
      have lw := LW.out (xs.getD j 0)
      have ST : Hid (∀ v, v = Po.low (xs.getD j 0) → OwnF (wr.setCell ⟨G, j, none⟩ (.int .u8 v)) G (Po.lw xs es (j + 1)) ∧ Below G w (wr.setCell ⟨G, j, none⟩ (.int .u8 v))) := by
        intro v hv
        have q := I.out.1.set j v
        rw [hv, a2] at q
        rw [hv]
        exact ⟨q, I.out.2.setCell (p := ⟨G, j, none⟩) (Nat.le_refl _) _⟩
      have SM : Hid (Po.low (xs.getD j 0) = xs.getD j 0 → OwnF wr G (Po.lw xs es (j + 1)) ∧ Below G w wr) := by
        intro hv
        have q := I.out.1
        rw [a3 hv] at q
        exact ⟨q, I.out.2⟩
      clear I a1 a2 a3 l1 l2
      generalize xs.getD j 0 = x at *
      obtain ⟨x0, x1⟩ := xb
      by_cases c1 : 65 ≤ x
      · by_cases c2 : x ≤ 90
        · rw [if_pos ⟨c1, c2⟩] at lw
          have NX := hid (ST.out (x + 32) lw.symm)
          have k1 : IntKind.u8.wrap (x - 65) = x - 65 := by rw [IntKind.wrap_u8]; omega
          have k2 : IntKind.u8.wrap (x - 65 + 97) = x + 32 := by rw [IntKind.wrap_u8]; omega
          have k3 : x - 65 + 97 = x + 32 := by omega
          clear ST SM lw
          go_wp2_with fail
          go_roundg (n - (j + 1))
          case measure => omega
          case rel => exact ⟨j + 1, by omega, by go_num, NX.out⟩
        · rw [if_neg (by omega)] at lw
          have NX := hid (SM.out lw)
          clear ST SM lw
          go_wp2_with fail
          go_roundg (n - (j + 1))
          case measure => omega
          case rel => exact ⟨j + 1, by omega, by go_num, NX.out⟩
      · rw [if_neg (by omega)] at lw
        have NX := hid (SM.out lw)
        clear ST SM lw
        go_wp2_with fail
        go_roundg (n - (j + 1))
        case measure => omega
        case rel => exact ⟨j + 1, by omega, by go_num, NX.out⟩
    · have hje : j = n := by omega
      have hji : ¬ (j : Int) < (n : Int) := by omega
      have q := LL.out j (by omega)
      have CV2 := ownf_str (k := n) (cap := cp) I.out.1 (by omega)
      rw [hje] at CV2
      rw [LE.out] at CV2
      have B := hid I.out.2
      clear I hj hje q
      go_wp2_with fail
      go_ret
      exact ⟨rfl, B.out⟩

/-- The Spec's box and those of its two copies. -/
structure C3 (w0 : World) (V vs vl F W P : Int) (b1 b2 : Nat) (wk : World) : Prop where
  bel : Below w0.heap.size w0 wk
  sp : S4 wk w0.heap.size (.int .u8 V) (.int .i64 F) (.int .i64 W) (.int .i64 P)
  sm : S4 wk b1 (.int .u8 vs) (.int .i64 F) (.int .i64 W) (.int .i64 P)
  lg : S4 wk b2 (.int .u8 vl) (.int .i64 F) (.int .i64 W) (.int .i64 P)
theorem C3.on {w0 wk w' : World} {V vs vl F W P : Int} {b1 b2 : Nat} (h : C3 w0 V vs vl F W P b1 b2 wk) (k : Below wk.heap.size wk w') : C3 w0 V vs vl F W P b1 b2 w' := ⟨below_on h.bel k, h.sp.below k, h.sm.below k, h.lg.below k⟩

namespace Po
theorem spc_ren {V F W P d : Int} (hV : okV V = true) (h : Ie.fnt d = false) : spc V F W P d = ren V F W P d := by
  unfold spc ren renE
  rw [if_pos hV]
  by_cases c : Wh.chk F W P = 0
  · rw [if_pos ⟨c, h⟩, if_pos c, if_neg (by rw [h]; decide)]
  · rw [if_neg (fun q => c q.1), if_neg c]
theorem spb_is {F W P d : Int} : (Wh.chk F W P ≠ 0 ∨ Ie.fnt d = true → spb F W P d = false) ∧ (Wh.chk F W P = 0 → Ie.fnt d = false → spb F W P d = true) := by
  unfold spb
  constructor
  · rintro (c | c)
    · rw [decide_eq_false c]; rfl
    · rw [c]; simp
  · intro c1 c2
    rw [c1, c2]; rfl
end Po

set_option maxRecDepth 100000 in
set_option maxHeartbeats 8000000 in
theorem caps_law (V F W P d : Int) (w : World) (hT : Tab w) (v0 : 0 ≤ V) (v1 : V < 256) (h0 : 0 ≤ d) (h1 : d < 18446744073709551616) :
    Calls Tryz.prog 3 #[.agg #[.int .u8 V, .int .i64 F, .int .i64 W, .int .i64 P], .int .u64 d] w fun e w' => e = .returned (.bool true) ∧ Below w.heap.size w w' := by
  have B0 := hid (SB.new w V F W P)
  have TB : Hid (∀ wk, Below w.heap.size w wk → Tab wk) := fun wk k => hT.below k
  have AW := hid (fun wk (k : Tab wk) => pawake_any wk k)
  have WR := hid (fun wk => pwrong_any V F W P wk)
  have FN := hid (fun wk => plfin_any d wk h0 h1)
  have K0 := hid (TB.out _ B0.out.bel)
  by_cases hV : Po.okV V = true
  · have hE : Po.renE V F W P = Wh.chk F W P := by rw [Po.renE, if_pos hV]
    rw [hE] at WR
    have c140 : (Wh.chk F W P == 140) = false := by
      rcases Wh.chk_three F W P with c | c | c <;> rw [c] <;> decide
    have key : ∃ vs vl : Int, vl + 32 = vs ∧ (vl = 69 ∨ vl = 70 ∨ vl = 71) ∧ ((97 ≤ V ∧ vs = V ∧ vl = V - 32) ∨ (V < 97 ∧ vl = V ∧ vs = V + 32)) := by
      have hV := of_decide_eq_true hV
      rcases hV with rfl | rfl | rfl | rfl | rfl | rfl
      · exact ⟨101, 69, by omega, by omega, by omega⟩
      · exact ⟨101, 69, by omega, by omega, by omega⟩
      · exact ⟨102, 70, by omega, by omega, by omega⟩
      · exact ⟨102, 70, by omega, by omega, by omega⟩
      · exact ⟨103, 71, by omega, by omega, by omega⟩
      · exact ⟨103, 71, by omega, by omega, by omega⟩
    obtain ⟨vs, vl, hs, hl, hb⟩ := key
    have oks : Po.okV vs = true := by unfold Po.okV; rw [decide_eq_true_iff]; omega
    have okl : Po.okV vl = true := by unfold Po.okV; rw [decide_eq_true_iff]; omega
    have RS : Hid (∀ wk, Tab wk → Calls Tryz.prog 6 #[.agg #[.int .u8 vs, .int .i64 F, .int .i64 W, .int .i64 P], .int .u64 d] wk fun e w' => e = .returned (.tuple #[.string (strOfNums (Po.ren vs F W P d)), .int .i64 (Wh.chk F W P)]) ∧ Below wk.heap.size wk w') := by
      intro wk k
      refine (render_any vs F W P d wk k (by omega) (by omega) h0 h1).mono ?_
      rintro e w' ⟨rfl, b⟩
      rw [show Po.renE vs F W P = Wh.chk F W P by rw [Po.renE, if_pos oks]]
      exact ⟨rfl, b⟩
    have RL : Hid (∀ wk, Tab wk → Calls Tryz.prog 6 #[.agg #[.int .u8 vl, .int .i64 F, .int .i64 W, .int .i64 P], .int .u64 d] wk fun e w' => e = .returned (.tuple #[.string (strOfNums (Po.ren vl F W P d)), .int .i64 (Wh.chk F W P)]) ∧ Below wk.heap.size wk w') := by
      intro wk k
      refine (render_any vl F W P d wk k (by omega) (by omega) h0 h1).mono ?_
      rintro e w' ⟨rfl, b⟩
      rw [show Po.renE vl F W P = Wh.chk F W P by rw [Po.renE, if_pos okl]]
      exact ⟨rfl, b⟩
    have SP := hid (fun wk => special_any vl F W P d wk (by omega) (by omega) h0 h1)
    unfold SpcTold at SP
    have UB := (Po.ren_len (V := vl) (F := F) (W := W) (P := P) (d := d))
    have LO : Hid (∀ wk, Calls Tryz.prog 8 #[.string (strOfNums (Po.ren vl F W P d))] wk fun e w' => e = .returned (.string (strOfNums (Po.ren vs F W P d))) ∧ Below wk.heap.size wk w') := by
      intro wk
      have q := plow_any (Po.ren vl F W P d) wk UB.2 (by omega)
      rw [Po.map_ren hl, hs] at q
      exact q
    have usz : (strOfNums (Po.ren vl F W P d)).size = (Po.ren vl F W P d).length := strOfNums_size _
    have UX : Hid (∀ j, j < (Po.ren vl F W P d).length → ∃ x, (∀ h : j < (strOfNums (Po.ren vl F W P d)).size, (((strOfNums (Po.ren vl F W P d))[j]'h).toNat : Int) = x) ∧ ¬ (97 ≤ x ∧ x ≤ 122)) := by
      intro j hj
      refine ⟨(Po.ren vl F W P d).getD j 0, fun h => (Str.of_nums UB.2).at j h, ?_⟩
      exact Po.nos_ren (F := F) (W := W) (P := P) (d := d) hl _ (by simp [List.getD, List.getElem?_eq_getElem hj])
    have FA : Hid (Wh.chk F W P ≠ 0 ∨ Ie.fnt d = true → Po.spb F W P d = false ∧ strOfNums (Po.spc vl F W P d) = ⟨#[]⟩) := by
      intro c
      refine ⟨Po.spb_is.1 c, ?_⟩
      have : Po.spc vl F W P d = [] := by
        unfold Po.spc
        rw [if_neg]
        rintro ⟨a, b⟩
        rcases c with c | c
        · exact c a
        · rw [b] at c; exact Bool.false_ne_true c
      rw [this]; rfl
    have FB : Hid (Wh.chk F W P = 0 → Ie.fnt d = false → Po.spb F W P d = true ∧ strOfNums (Po.spc vl F W P d) = strOfNums (Po.ren vl F W P d)) := fun c1 c2 => ⟨Po.spb_is.2 c1 c2, by rw [Po.spc_ren okl c2]⟩
    have un : (Po.ren vl F W P d).length ≤ 30000 := UB.1
    obtain ⟨n, hn⟩ : ∃ n, (Po.ren vl F W P d).length = n := ⟨_, rfl⟩
    rw [hn] at usz UX un
    have ni : (n : Int) ≤ 30000 := by omega
    clear hT hE v0 v1 h0 h1 UB hn un oks okl hV
    generalize strOfNums (Po.ren vl F W P d) = us at *
    generalize strOfNums (Po.ren vs F W P d) = ts at *
    generalize strOfNums (Po.spc vl F W P d) = ss at *
    generalize Po.spb F W P d = sb at *
    generalize Wh.chk F W P = E at *
    generalize Ie.fnt d = fd at *
    have PRE : Hid (∀ w3, SB w w.heap.size V F W P w3 → C3 w V vs vl F W P w3.heap.size (w3.heap.size + 1) ((w3.alloc (.cells #[.int .u8 vs, .int .i64 F, .int .i64 W, .int .i64 P] 23)).alloc (.cells #[.int .u8 vl, .int .i64 F, .int .i64 W, .int .i64 P] 23))) := by
      intro w3 k
      have k2 := k.on (alloc_b w3 (.cells #[.int .u8 vs, .int .i64 F, .int .i64 W, .int .i64 P] 23))
      have k3 := k2.on (alloc_b _ (.cells #[.int .u8 vl, .int .i64 F, .int .i64 W, .int .i64 P] 23))
      exact ⟨k3.bel, k3.box, heap_alloc2_old _ _ _, heap_alloc2_new _ _ _⟩
    rcases hb with ⟨hge, hvs, hvl⟩ | ⟨hge, hvl, hvs⟩
    · subst hvs
      have hvl2 := hvl.symm
      go_enter Tryz.func3, Tryz.ntmps3
      go_wp2_with fail
      with_reducible refine (AW.out _ K0.out).mono ?_
      rintro e w1 ⟨rfl, b1⟩
      have B1 := hid (B0.out.on b1)
      clear b1 B0 K0
      obtain ⟨c0, c1, c2, c3⟩ := B1.out.flat
      go_wp2_with fail
      with_reducible refine (WR.out _).mono ?_
      rintro e w2 ⟨rfl, b2⟩
      have B2 := hid (B1.out.on b2)
      clear b2 B1 c0 c1 c2 c3
      obtain ⟨c0, c1, c2, c3⟩ := B2.out.flat
      have B3 := hid (PRE.out _ B2.out)
      have K3 := hid (TB.out _ B3.out.bel)
      have wl : w.heap.size < w2.heap.size := B2.out.box.lt
      have k1 : IntKind.u8.wrap (vs - 97) = vs - 97 := by rw [IntKind.wrap_u8]; omega
      have k2 : IntKind.u8.wrap (vs - 97 + 65) = vl := by rw [IntKind.wrap_u8]; omega
      have k3 : vs - 97 + 65 = vl := by omega
      have hgi : (97 : Int) ≤ vs := hge
      clear hvl
      go_upto_region 13 with fail
      generalize (w2.alloc (.cells #[.int .u8 vs, .int .i64 F, .int .i64 W, .int .i64 P] 23)).alloc (.cells #[.int .u8 vl, .int .i64 F, .int .i64 W, .int .i64 P] 23) = w3 at *
      clear c0 c1 c2 c3 PRE
      obtain ⟨d0, d1, d2, d3⟩ := B3.out.sm.cells.1
      have c0 := d0; have c1 := d1; have c2 := d2; have c3 := d3
      go_wp2_with fail
      with_reducible refine (RS.out _ K3.out).mono ?_
      rintro e w4 ⟨rfl, b4⟩
      have B4 := hid (B3.out.on b4)
      have K4 := hid (TB.out _ B4.out.bel)
      clear b4 B3 K3 c0 c1 c2 c3 d0 d1 d2 d3
      obtain ⟨d0, d1, d2, d3⟩ := B4.out.lg.cells.1
      go_wp2_with fail
      with_reducible refine (RL.out _ K4.out).mono ?_
      rintro e w5 ⟨rfl, b5⟩
      have B5 := hid (B4.out.on b5)
      clear b5 B4 K4 d0 d1 d2 d3
      obtain ⟨d0, d1, d2, d3⟩ := B5.out.lg.cells.1
      go_wp2_with fail
      with_reducible refine (SP.out _).mono ?_
      rintro e w6 ⟨rfl, b6⟩
      have B6 := hid (below_on B5.out.bel b6)
      clear b6 B5 d0 d1 d2 d3
      go_wp2_with (go_at_call 8; with_reducible refine (LO.out _).mono ?_; rintro e w7 ⟨rfl, b7⟩; have B7 := hid (below_on B6.out b7); clear b7)
      go_loopg [18] n (fun k i wr => ∃ j : Nat, j + k = n ∧ i = .int .i64 (j : Int) ∧ wr = w7)
      case atStart => exact ⟨0, by omega, rfl, rfl⟩
      case round =>
        obtain ⟨j, hj, rfl, hw⟩ := hrel
        have hw := hw.symm
        subst hw
        by_cases hjn : j < n
        · have hji : (j : Int) < (n : Int) := by omega
          obtain ⟨x, hx, nx⟩ := UX.out j hjn
          by_cases c97 : 97 ≤ x
          · have c122 : ¬ x ≤ 122 := by omega
            go_wp2_with fail
            go_roundg (n - (j + 1))
            case measure => omega
            case rel => exact ⟨j + 1, by omega, by go_num, rfl⟩
          · go_wp2_with fail
            go_roundg (n - (j + 1))
            case measure => omega
            case rel => exact ⟨j + 1, by omega, by go_num, rfl⟩
        · have hji : ¬ (j : Int) < (n : Int) := by omega
          clear UX
          by_cases hE : E = 0
          · subst hE
            cases fd with
            | true =>
              have e1 := FA.out (.inr rfl)
              obtain ⟨rfl, e2⟩ := e1
              clear FA FB
              go_wp2_with (go_at_call 9; refine (FN.out _).mono ?_; rintro e w' ⟨rfl, hw⟩; rw [hw]; clear hw w')
              go_ret
              exact ⟨rfl, B7.out⟩
            | false =>
              have e1 := FB.out rfl rfl
              obtain ⟨rfl, e2⟩ := e1
              clear FA FB
              go_wp2_with (go_at_call 9; refine (FN.out _).mono ?_; rintro e w' ⟨rfl, hw⟩; rw [hw]; clear hw w')
              go_ret
              exact ⟨rfl, B7.out⟩
          · have hne : (E == 0) = false := by simpa using hE
            have hne2 : (E != 0) = true := by simpa using hE
            have e1 := FA.out (.inl hE)
            obtain ⟨rfl, e2⟩ := e1
            clear FA FB hE
            go_wp2_with fail
            go_ret
            exact ⟨rfl, B7.out⟩
    · subst hvl
      have hvs2 := hvs.symm
      go_enter Tryz.func3, Tryz.ntmps3
      go_wp2_with fail
      with_reducible refine (AW.out _ K0.out).mono ?_
      rintro e w1 ⟨rfl, b1⟩
      have B1 := hid (B0.out.on b1)
      clear b1 B0 K0
      obtain ⟨c0, c1, c2, c3⟩ := B1.out.flat
      go_wp2_with fail
      with_reducible refine (WR.out _).mono ?_
      rintro e w2 ⟨rfl, b2⟩
      have B2 := hid (B1.out.on b2)
      clear b2 B1 c0 c1 c2 c3
      obtain ⟨c0, c1, c2, c3⟩ := B2.out.flat
      have B3 := hid (PRE.out _ B2.out)
      have K3 := hid (TB.out _ B3.out.bel)
      have wl : w.heap.size < w2.heap.size := B2.out.box.lt
      have k1 : IntKind.u8.wrap (vl - 65) = vl - 65 := by rw [IntKind.wrap_u8]; omega
      have k2 : IntKind.u8.wrap (vl - 65 + 97) = vs := by rw [IntKind.wrap_u8]; omega
      have k3 : vl - 65 + 97 = vs := by omega
      have hgi : ¬ (97 : Int) ≤ vl := by omega
      clear hvs
      go_upto_region 13 with fail
      generalize (w2.alloc (.cells #[.int .u8 vs, .int .i64 F, .int .i64 W, .int .i64 P] 23)).alloc (.cells #[.int .u8 vl, .int .i64 F, .int .i64 W, .int .i64 P] 23) = w3 at *
      clear c0 c1 c2 c3 PRE
      obtain ⟨d0, d1, d2, d3⟩ := B3.out.sm.cells.1
      have c0 := d0; have c1 := d1; have c2 := d2; have c3 := d3
      go_wp2_with fail
      with_reducible refine (RS.out _ K3.out).mono ?_
      rintro e w4 ⟨rfl, b4⟩
      have B4 := hid (B3.out.on b4)
      have K4 := hid (TB.out _ B4.out.bel)
      clear b4 B3 K3 c0 c1 c2 c3 d0 d1 d2 d3
      obtain ⟨d0, d1, d2, d3⟩ := B4.out.lg.cells.1
      go_wp2_with fail
      with_reducible refine (RL.out _ K4.out).mono ?_
      rintro e w5 ⟨rfl, b5⟩
      have B5 := hid (B4.out.on b5)
      clear b5 B4 K4 d0 d1 d2 d3
      obtain ⟨d0, d1, d2, d3⟩ := B5.out.lg.cells.1
      go_wp2_with fail
      with_reducible refine (SP.out _).mono ?_
      rintro e w6 ⟨rfl, b6⟩
      have B6 := hid (below_on B5.out.bel b6)
      clear b6 B5 d0 d1 d2 d3
      go_wp2_with (go_at_call 8; with_reducible refine (LO.out _).mono ?_; rintro e w7 ⟨rfl, b7⟩; have B7 := hid (below_on B6.out b7); clear b7)
      go_loopg [18] n (fun k i wr => ∃ j : Nat, j + k = n ∧ i = .int .i64 (j : Int) ∧ wr = w7)
      case atStart => exact ⟨0, by omega, rfl, rfl⟩
      case round =>
        obtain ⟨j, hj, rfl, hw⟩ := hrel
        have hw := hw.symm
        subst hw
        by_cases hjn : j < n
        · have hji : (j : Int) < (n : Int) := by omega
          obtain ⟨x, hx, nx⟩ := UX.out j hjn
          by_cases c97 : 97 ≤ x
          · have c122 : ¬ x ≤ 122 := by omega
            go_wp2_with fail
            go_roundg (n - (j + 1))
            case measure => omega
            case rel => exact ⟨j + 1, by omega, by go_num, rfl⟩
          · go_wp2_with fail
            go_roundg (n - (j + 1))
            case measure => omega
            case rel => exact ⟨j + 1, by omega, by go_num, rfl⟩
        · have hji : ¬ (j : Int) < (n : Int) := by omega
          clear UX
          by_cases hE : E = 0
          · subst hE
            cases fd with
            | true =>
              have e1 := FA.out (.inr rfl)
              obtain ⟨rfl, e2⟩ := e1
              clear FA FB
              go_wp2_with (go_at_call 9; refine (FN.out _).mono ?_; rintro e w' ⟨rfl, hw⟩; rw [hw]; clear hw w')
              go_ret
              exact ⟨rfl, B7.out⟩
            | false =>
              have e1 := FB.out rfl rfl
              obtain ⟨rfl, e2⟩ := e1
              clear FA FB
              go_wp2_with (go_at_call 9; refine (FN.out _).mono ?_; rintro e w' ⟨rfl, hw⟩; rw [hw]; clear hw w')
              go_ret
              exact ⟨rfl, B7.out⟩
          · have hne : (E == 0) = false := by simpa using hE
            have hne2 : (E != 0) = true := by simpa using hE
            have e1 := FA.out (.inl hE)
            obtain ⟨rfl, e2⟩ := e1
            clear FA FB hE
            go_wp2_with fail
            go_ret
            exact ⟨rfl, B7.out⟩
  · have hE : Po.renE V F W P = 140 := by rw [Po.renE, if_neg hV]
    have RN := hid (fun wk (k : Tab wk) => render_any V F W P d wk k v0 v1 h0 h1)
    unfold RenTold at RN
    rw [hE] at WR RN
    clear hE hT v0 v1 h0 h1 FN hV
    go_enter Tryz.func3, Tryz.ntmps3
    go_wp2_with fail
    with_reducible refine (AW.out _ K0.out).mono ?_
    rintro e w1 ⟨rfl, b1⟩
    have B1 := hid (B0.out.on b1)
    clear b1 B0 K0
    obtain ⟨c0, c1, c2, c3⟩ := B1.out.flat
    go_wp2_with fail
    with_reducible refine (WR.out _).mono ?_
    rintro e w2 ⟨rfl, b2⟩
    have B2 := hid (B1.out.on b2)
    have K2 := hid (TB.out _ B2.out.bel)
    clear b2 B1 c0 c1 c2 c3
    obtain ⟨c0, c1, c2, c3⟩ := B2.out.flat
    go_wp2_with fail
    with_reducible refine (RN.out _ K2.out).mono ?_
    rintro e w3 ⟨rfl, b3⟩
    have B3 := hid (B2.out.on b3)
    clear b3 B2 c0 c1 c2 c3
    go_wp2_with fail
    go_ret
    exact ⟨rfl, B3.out.bel⟩
end Go.Proofs.YtaoaniigbooihabGreatDoor

namespace Go.Proofs.YtaoaniigbooihabGreatDoor
open Go Go.RowKit Go.Deep

theorem tab_laid : (Rows.laid_math_bits_deBruijn64tab : DataW Unit) = Lib.tabData .u8 (List.map Int.ofNat Lib.deBruijn64tab) := by kernel_rfl

theorem tab_of {W : World} {rest : List (String × DataW Unit)} (h : laidMet Tryz.prog (("math/bits.deBruijn64tab", Rows.laid_math_bits_deBruijn64tab) :: rest) W) : Tab W := by
  rw [tab_laid] at h
  have ht := Lib.tabIs_of_head (g := 2) (t := 117) (e := 5) (n := 64) (k := .u8) (zs := List.map Int.ofNat Lib.deBruijn64tab) (by kernel_rfl) (by kernel_rfl) Tryz.underlying117 Tryz.underlying5 (by kernel_rfl) (by kernel_rfl) h
  intro j hj
  have hl : (List.map Int.ofNat Lib.deBruijn64tab).length = Lib.deBruijn64tab.length := by simp
  rw [ht.cell (g := 2) (by kernel_rfl) j (by omega)]
  simp [List.getD, hj]

end Go.Proofs.YtaoaniigbooihabGreatDoor

namespace Go.Proofs.YtaoaniigbooihabGreatDoor
open Go Go.RowKit Go.Deep Go.Shelf

theorem case_laid : Rows.laid_unicode_CaseRanges = Lib.caseData := by kernel_rfl

theorem laidVars_swap {P : Program} {w : World} {x y : String × DataW Unit} : ∀ {l : List (String × DataW Unit)} {ps : List MemPlace}, DataW.LaidVars P w (l ++ [y, x]) ps → ∃ qs, DataW.LaidVars P w (l ++ [x, y]) qs ∧ qs.Perm ps
  | [], ps, h => by
    obtain ⟨x1, x2⟩ := x
    obtain ⟨y1, y2⟩ := y
    obtain ⟨g, t, cs, fuel, p, q, h1, h2, h3, h4, ⟨g', t', cs', fuel', p', q', k1, k2, k3, k4, k5, rfl⟩, rfl⟩ := h
    have k5 : q' = [] := k5
    subst k5
    refine ⟨_, ⟨g', t', cs', fuel', p', _, k1, k2, k3, k4, ⟨g, t, cs, fuel, p, [], h1, h2, h3, h4, rfl, rfl⟩, rfl⟩, ?_⟩
    simp only [List.append_nil]
    exact List.perm_append_comm
  | (n, d) :: l, ps, h => by
    obtain ⟨g, t, cs, fuel, p, q, h1, h2, h3, h4, h5, rfl⟩ := h
    obtain ⟨qs, k1, k2⟩ := laidVars_swap h5
    exact ⟨_, ⟨g, t, cs, fuel, p, qs, h1, h2, h3, h4, k1, rfl⟩, List.Perm.append_left _ k2⟩
theorem laidMet_swap {P : Program} {w : World} {x y : String × DataW Unit} {l : List (String × DataW Unit)} (h : laidMet P (l ++ [y, x]) w) : laidMet P (l ++ [x, y]) w := by
  obtain ⟨ps, h1, h2, h3⟩ := h
  obtain ⟨qs, k1, k2⟩ := laidVars_swap h1
  exact ⟨qs, k1, (k2.nodup_iff).2 h2, fun b off hp => h3 b off (k2.mem_iff.1 hp)⟩
end Go.Proofs.YtaoaniigbooihabGreatDoor

namespace Go.Proofs.YtaoaniigbooihabGreatDoor
open Go.RowKit Go.Deep Go.ChangeShapes Go.WideShapes Go.ChangeAt

theorem spc_array {α : Type} {cs : Array α} (h : cs.size = 4) : ∃ c0 c1 c2 c3, cs = #[c0, c1, c2, c3] := by
  obtain ⟨l⟩ := cs
  match l, h with
  | [c0, c1, c2, c3], _ => exact ⟨c0, c1, c2, c3, rfl⟩
theorem spc_list {α : Type} {l : List α} (h : l.length = 4) : ∃ c0 c1 c2 c3, l = [c0, c1, c2, c3] := by
  match l, h with
  | [c0, c1, c2, c3], _ => exact ⟨c0, c1, c2, c3, rfl⟩

set_option maxRecDepth 100000 in
theorem open_spc_cells {H : Type} {enc : TypeId × Value → H} {W : World} {fuel : Nat} {a0 a1 a2 a3 : Value} {x : DataW H × List MemPlace} (hf : DataW.trod enc Tryz.prog W 0 (fun _ => true) true fuel 23 [a0, a1, a2, a3] = some x) :
    ∃ V F D P : Int, a0 = .int .u8 V ∧ a1 = .int .i64 F ∧ a2 = .int .i64 D ∧ a3 = .int .i64 P ∧ (0 ≤ V ∧ V < 256) := by
  obtain ⟨xs, n, _, hx, _, hlen, hfs⟩ := DataW.trod_struct Tryz.underlying23 hf
  obtain ⟨y0, y1, y2, y3, rfl⟩ := spc_list hlen
  have c3 : Tryz.prog.cellsOf 3 = 1 := by kernel_rfl
  have c8 : Tryz.prog.cellsOf 5 = 1 := by kernel_rfl
  have f0 : DataW.trod enc Tryz.prog W 0 (fun _ => true) true n 5 [a0] = some y0 := by simpa [c8] using hfs 0 _ rfl
  have f1 : DataW.trod enc Tryz.prog W 0 (fun _ => true) true n 3 [a1] = some y1 := by simpa [c3] using hfs 1 _ rfl
  have f2 : DataW.trod enc Tryz.prog W 0 (fun _ => true) true n 3 [a2] = some y2 := by simpa [c3] using hfs 2 _ rfl
  have f3 : DataW.trod enc Tryz.prog W 0 (fun _ => true) true n 3 [a3] = some y3 := by simpa [c3] using hfs 3 _ rfl
  obtain ⟨V, e0, _, w0⟩ := DataW.trod_int Tryz.underlying5 f0
  obtain ⟨F, e1, _, w1⟩ := DataW.trod_int Tryz.underlying3 f1
  obtain ⟨D, e2, _, w2⟩ := DataW.trod_int Tryz.underlying3 f2
  obtain ⟨P, e3, _, w3⟩ := DataW.trod_int Tryz.underlying3 f3
  have b0 := bounds_u8 w0
  exact ⟨V, F, D, P, (List.cons.inj e0).1, (List.cons.inj e1).1, (List.cons.inj e2).1, (List.cons.inj e3).1, by omega, by omega⟩

set_option maxRecDepth 100000 in
theorem open_spc {H : Type} {enc : TypeId × Value → H} {W : World} {base : Nat} {v : Value} {d : DataW H} {p : List MemPlace} (hv : Value.okWide Tryz.prog W .any base 23 v) (h : DataW.Trod enc Tryz.prog W 0 (fun _ => true) true 23 v d p) :
    ∃ V F D P : Int, v = .agg #[.int .u8 V, .int .i64 F, .int .i64 D, .int .i64 P] ∧ (0 ≤ V ∧ V < 256) := by
  obtain ⟨cs, rfl, hs3⟩ := okWide_struct Tryz.underlying23 hv
  obtain ⟨a0, a1, a2, a3, rfl⟩ := spc_array (hs3.trans (show Tryz.prog.cellsOf 23 = 4 by kernel_rfl))
  obtain ⟨fuel, hf⟩ := h
  have hf' : DataW.trod enc Tryz.prog W 0 (fun _ => true) true fuel 23 [a0, a1, a2, a3] = some (d, p) := by simpa [Value.cells] using hf
  obtain ⟨V, F, D, P, e0, e1, e2, e3, h1⟩ := open_spc_cells (x := (d, p)) hf'
  rw [e0, e1, e2, e3]
  exact ⟨V, F, D, P, rfl, h1⟩
end Go.Proofs.YtaoaniigbooihabGreatDoor
