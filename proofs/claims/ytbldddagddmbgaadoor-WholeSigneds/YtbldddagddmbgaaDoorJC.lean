/-
  Texts put together: JSigned, JUns, JText, JLaw0.
-/
import Derived.Test.YtbldddagddmbgaaDoorJA
import Derived.Test.YtbldddagddmbgaaDoorJB
import Derived.Laws.Concat
import Derived.Test.YtbldddagddmbgaaDoorFromW
namespace Go.Proofs.YtbldddagddmbgaaDoor
open Go Go.RowKit Go.Deep Go.Shelf

theorem str_app {a b : List Int} (ha : Wh.By a) (hb : Wh.By b) : strOfNums a ++ strOfNums b = strOfNums (a ++ b) := by
  have k : Str (strOfNums a ++ strOfNums b) (a ++ b) := by
    have h1 := Str.of_nums ha
    have h2 := Str.of_nums hb
    unfold Str at *
    conv => rhs; rw [← h1, ← h2, ← List.map_append]
    simp
  exact str_is k

theorem ret_se {a b : ByteArray} {x y : Int} (h : a = b) (k : x = y) : Ending.returned (.tuple #[.string a, .int .i64 x]) = .returned (.tuple #[.string b, .int .i64 y]) := by rw [h, k]
set_option maxRecDepth 100000 in
theorem filled_any (V F W P : Int) (d : List Int) (w : World) (p0 : -1 ≤ P) (p1 : P ≤ 4096) (hd : Wh.By d) (hl : d.length ≤ 262144) :
    Calls Tryd.prog 30 #[.agg #[.int .u8 V, .int .i64 F, .int .i64 W, .int .i64 P], .string (strOfNums d)] w fun e w' => e = .returned (.string (strOfNums (Wh.fil P d))) ∧ Below w.heap.size w w' := by
  have B0 := hid (SB.new w V F W P)
  have sd : (strOfNums d).size = d.length := strOfNums_size d
  have l2 : (d.length : Int) ≤ 262144 := by omega
  obtain ⟨M, hM⟩ : ∃ M : Nat, M = ((if P = -1 then 1 else P) - (d.length : Int)).toNat := ⟨_, rfl⟩
  have M1 : M ≤ 4096 := by rw [hM]; split <;> omega
  have m0 : (M : Int) ≤ 4096 := by omega
  have RE := hid (fun W' => jrep48 M W' (by omega))
  have sr : (strOfNums (Wh.rep 48 (M : Int))).size = M := by rw [strOfNums_size, Wh.rep_len]; omega
  have G : Hid (strOfNums (Wh.rep 48 (M : Int)) ++ strOfNums d = strOfNums (Wh.fil P d)) := by
    rw [Hid, str_app (Wh.By.rep (by omega)) hd, Wh.fil]
    have e : Wh.rep 48 (M : Int) = Wh.rep 48 ((if P = -1 then 1 else P) - (d.length : Int)) := by rw [Wh.rep, Wh.rep, hM]; rfl
    rw [e]
  by_cases hP : P = -1
  · have mx : max 0 (1 - (d.length : Int)) = (M : Int) := by rw [hM, if_pos hP]; omega
    subst hP
    clear hd hl hM p0 p1
    obtain ⟨c0, c1, c2, c3⟩ := B0.out.flat
    go_enter Tryd.func30, Tryd.ntmps30
    go_wp2_with fail
    with_reducible refine (RE.out _).mono ?_
    rintro e w1 ⟨rfl, b1⟩
    have B1 := hid (B0.out.on b1).bel
    clear b1 RE
    go_wp2_with fail
    go_ret
    exact ⟨ret_str G.out, B1.out⟩
  · have mx : max 0 (P - (d.length : Int)) = (M : Int) := by rw [hM, if_neg hP]; omega
    have hne : (P == -1) = false := by simpa using hP
    clear hd hl hM hP
    obtain ⟨c0, c1, c2, c3⟩ := B0.out.flat
    go_enter Tryd.func30, Tryd.ntmps30
    go_wp2_with fail
    with_reducible refine (RE.out _).mono ?_
    rintro e w1 ⟨rfl, b1⟩
    have B1 := hid (B0.out.on b1).bel
    clear b1 RE
    go_wp2_with fail
    go_ret
    exact ⟨ret_str G.out, B1.out⟩

set_option maxRecDepth 100000 in
theorem wsign_any (V F W P : Int) (bl : Bool) (w : World) (f0 : 0 ≤ F) (f1 : F ≤ 31) :
    Calls Tryd.prog 28 #[.agg #[.int .u8 V, .int .i64 F, .int .i64 W, .int .i64 P], .bool bl] w fun e w' => e = .returned (.string (strOfNums (Wh.sgn F bl))) ∧ Below w.heap.size w w' := by
  have B0 := hid (SB.new w V F W P)
  have H2 := hid (fun W' => has_any V F W P 2 W' f0 f1 (by omega))
  have H4 := hid (fun W' => has_any V F W P 4 W' f0 f1 (by omega))
  clear f0 f1
  obtain ⟨c0, c1, c2, c3⟩ := B0.out.flat
  cases bl with
  | true =>
    have G : Hid (strOfNums (Wh.sgn F true) = ⟨#[45]⟩) := rfl
    clear H2 H4
    go_enter Tryd.func28, Tryd.ntmps28
    go_wp2_with fail
    go_ret
    exact ⟨ret_str G.out.symm, B0.out.bel⟩
  | false =>
    cases h2 : Wh.bit F 2 with
    | true =>
      have G : Hid (strOfNums (Wh.sgn F false) = ⟨#[43]⟩) := by rw [Hid, Wh.sgn, if_neg Bool.false_ne_true, if_pos h2]; rfl
      rw [h2] at H2
      clear H4
      go_enter Tryd.func28, Tryd.ntmps28
      go_wp2_with fail
      with_reducible refine (H2.out _).mono ?_
      rintro e w1 ⟨rfl, b1⟩
      have B1 := hid (B0.out.on b1).bel
      clear b1 H2
      go_wp2_with fail
      go_ret
      exact ⟨ret_str G.out.symm, B1.out⟩
    | false =>
      rw [h2] at H2
      cases h4 : Wh.bit F 4 with
      | true =>
        have G : Hid (strOfNums (Wh.sgn F false) = ⟨#[32]⟩) := by rw [Hid, Wh.sgn, if_neg Bool.false_ne_true, h2, if_neg Bool.false_ne_true, if_pos h4]; rfl
        rw [h4] at H4
        go_enter Tryd.func28, Tryd.ntmps28
        go_wp2_with fail
        with_reducible refine (H2.out _).mono ?_
        rintro e w1 ⟨rfl, b1⟩
        have B1 := hid (B0.out.on b1)
        clear b1 H2 c0 c1 c2 c3
        obtain ⟨c0, c1, c2, c3⟩ := B1.out.flat
        go_wp2_with fail
        with_reducible refine (H4.out _).mono ?_
        rintro e w2 ⟨rfl, b2⟩
        have B2 := hid (B1.out.on b2).bel
        clear b2 H4
        go_wp2_with fail
        go_ret
        exact ⟨ret_str G.out.symm, B2.out⟩
      | false =>
        have G : Hid (strOfNums (Wh.sgn F false) = ⟨#[]⟩) := by rw [Hid, Wh.sgn, if_neg Bool.false_ne_true, h2, if_neg Bool.false_ne_true, h4, if_neg Bool.false_ne_true]; rfl
        rw [h4] at H4
        go_enter Tryd.func28, Tryd.ntmps28
        go_wp2_with fail
        with_reducible refine (H2.out _).mono ?_
        rintro e w1 ⟨rfl, b1⟩
        have B1 := hid (B0.out.on b1)
        clear b1 H2 c0 c1 c2 c3
        obtain ⟨c0, c1, c2, c3⟩ := B1.out.flat
        go_wp2_with fail
        with_reducible refine (H4.out _).mono ?_
        rintro e w2 ⟨rfl, b2⟩
        have B2 := hid (B1.out.on b2).bel
        clear b2 H4
        go_wp2_with fail
        go_ret
        exact ⟨ret_str G.out.symm, B2.out⟩

set_option maxRecDepth 100000 in
theorem digitsOf_any (p : Option Addr) (n cap : Nat) (za : List Int) (B : Int) (up : Bool) (w : World) (ha : Arg w p n cap za) (hB : 2 ≤ B) (h36 : B ≤ 36) :
    Calls Tryd.prog 27 #[.slice p n cap, .int .i64 B, .bool up] w fun e w' => e = .returned (.tuple #[.string (strOfNums (if 4096 < Nm.tsize za then [] else Wh.dig B up (Nm.val za))), .int .i64 (if 4096 < Nm.tsize za then 2 else 0)]) ∧ Below w.heap.size w w' := by
  obtain ⟨L, hL, hbig, hzero⟩ := blen_big ha.2.2.2.2
  have BL := hid (bitLen_isT L p n cap za w ha hL)
  have hv := (Nm.tsize_zero_iff ha.2.2.2.2)
  by_cases h0 : Nm.tsize za = 0
  · have hL0 : (L : Int) = 0 := hzero.2 h0
    obtain rfl : L = 0 := by omega
    have G : Hid (strOfNums (Wh.dig B up (Nm.val za)) = ⟨#[]⟩) := by rw [Hid, Wh.dig, if_pos (hv.1 h0)]; rfl
    rw [if_neg (by omega), if_neg (by omega)]
    clear ha hL hbig hzero hv h0
    go_enter Tryd.func27, Tryd.ntmps27
    go_wp2_with fail
    with_reducible refine BL.out.mono ?_
    rintro e w' ⟨rfl, hw⟩
    rw [hw]
    clear hw w'
    go_wp2_with fail
    go_ret2
    exact ⟨ret_se G.out.symm rfl, Below.refl _ _⟩
  · have hL0 : ((L : Int) == 0) = false := by rw [beq_eq_false_iff_ne]; intro c; exact h0 (hzero.1 c)
    have hLi : (L : Int) ≠ 0 := by simpa using hL0
    have v0 : 0 < Nm.val za := by have := (Nm.val_bd za ha.2.2.2.2).1; omega
    have IB := hid (inBase_any p n cap za B up w ha (by omega) (by omega))
    have G : Hid (∀ s xs E, Str s xs → InIs za B up xs E → s = strOfNums (if 4096 < Nm.tsize za then [] else Wh.dig B up (Nm.val za)) ∧ E = if 4096 < Nm.tsize za then 2 else 0) := by
      intro s xs E hs hi
      by_cases hb : 4096 < Nm.tsize za
      · rw [if_pos hb, if_pos hb]
        cases hi with
        | big _ => exact ⟨str_is hs, rfl⟩
        | base q _ => omega
        | zero q _ _ => omega
        | ok _ _ q _ _ _ => omega
      · rw [if_neg hb, if_neg hb]
        obtain ⟨e1, e2⟩ := Wh.dig_is ha.2.2.2.2 v0 (by omega) hB h36 hi
        exact ⟨by rw [← e1]; exact str_is hs, e2⟩
    generalize (if 4096 < Nm.tsize za then [] else Wh.dig B up (Nm.val za)) = D at *
    generalize (if 4096 < Nm.tsize za then (2 : Int) else 0) = EE at *
    clear ha hL hbig hzero hv h0 v0
    go_enter Tryd.func27, Tryd.ntmps27
    go_wp2_with fail
    with_reducible refine BL.out.mono ?_
    rintro e w' ⟨rfl, hw⟩
    rw [hw]
    clear hw w'
    go_wp2_with fail
    with_reducible refine IB.out.mono ?_
    rintro e w1 ⟨s, xs, E, rfl, hs, hi, b1⟩
    obtain ⟨e1, e2⟩ := G.out s xs E hs hi
    have B1 := hid b1
    have E1 := hid e1
    have E2 := hid e2
    clear hs hi b1 e1 e2
    go_wp2_with fail
    go_ret2
    exact ⟨ret_se E1.out E2.out, B1.out⟩

def SigTold (V F W P : Int) (neg : Bool) (zs : List Int) (w : World) (e : Ending) (w' : World) : Prop := e = .returned (.tuple #[.string (strOfNums (Wh.sig V F W P neg zs)), .int .i64 (Wh.sigE V F W P (Nm.tsize zs))]) ∧ Below w.heap.size w w'

theorem isEmpty_nums (d : List Int) : (strOfNums d).toList.isEmpty = d.isEmpty := by
  rw [ByteArray.toList_eq, strOfNums_data]
  cases d <;> rfl

/-- The sign's answer where there is no number below nothing. -/
def below (neg : Bool) (v : Int) : Bool := neg && decide (v ≠ 0)

theorem dig_nil (B : Int) (up : Bool) (zs : List Int) (hz : Nm.Limbs zs) (h1 : Nm.tsize zs ≤ 4096) (hB : 2 ≤ B) (h36 : B ≤ 36) : (Wh.dig B up (Nm.val zs)).isEmpty = decide (Nm.val zs = 0) ∧ (Wh.dig B up (Nm.val zs)).length ≤ 262144 := by
  have v := (Nm.val_bd zs hz).1
  by_cases h : Nm.val zs = 0
  · rw [Wh.dig, if_pos h, decide_eq_true h]; exact ⟨rfl, by simp⟩
  · have g := Wh.dig_good (up := up) hz (by omega) h1 hB h36
    refine ⟨?_, g.len⟩
    rw [decide_eq_false h]
    cases e : Wh.dig B up (Nm.val zs) with
    | nil => exact absurd e g.ne
    | cons _ _ => rfl

theorem toList_nums (d : List Int) : ((strOfNums d).toList == []) = d.isEmpty := by
  rw [ByteArray.toList_eq, strOfNums_data]
  cases d <;> rfl
set_option maxRecDepth 100000 in
set_option maxHeartbeats 2000000 in
theorem signed_any (V F W P : Int) (neg : Bool) (p : Option Addr) (n cap : Nat) (zs : List Int) (w : World) (h0 : 0 ≤ V) (h1 : V < 256) (ha : Arg w p n cap zs) :
    Calls Tryd.prog 13 #[.agg #[.int .u8 V, .int .i64 F, .int .i64 W, .int .i64 P], .bool neg, .slice p n cap] w fun e w' => SigTold V F W P neg zs w e w' := by
  have B0 := hid (SB.new w V F W P)
  have CV := hid (fun W' => checkVerb_any V F W P ⟨#[100, 105]⟩ _ W' (vb_di V h0 h1))
  by_cases hV : V = 100 ∨ V = 105
  · rw [if_pos (decide_eq_true hV)] at CV
    by_cases hc : Wh.chk F W P = 0
    · obtain ⟨⟨f0, f1⟩, ⟨wl, wu⟩, ⟨p0, p1⟩⟩ := Wh.chk_ok hc
      rw [hc] at CV
      have DG := hid (fun W' (k : Below w.heap.size w W') => digitsOf_any p n cap zs 10 false W' (ha.below k (Nat.le_refl _)) (by omega) (by omega))
      have hE : Wh.sigE V F W P (Nm.tsize zs) = if 4096 < Nm.tsize zs then 2 else 0 := by rw [Wh.sigE, if_pos hV, if_pos hc]
      by_cases hb : 4096 < Nm.tsize zs
      · rw [if_pos hb] at hE
        rw [if_pos hb, if_pos hb] at DG
        have G : Hid (∀ w', Below w.heap.size w w' → SigTold V F W P neg zs w (.returned (.tuple #[.string ⟨#[]⟩, .int .i64 2])) w') := fun w' k => ⟨by rw [Wh.sig, hE, if_neg (by decide)]; rfl, k⟩
        clear ha hV hc hE hb f0 f1 wl wu p0 p1
        go_enter Tryd.func13, Tryd.ntmps13
        go_wp2_with fail
        with_reducible refine (CV.out _).mono ?_
        rintro e w1 ⟨rfl, b1⟩
        have B1 := hid (B0.out.on b1)
        clear b1 CV B0
        go_wp2_with fail
        with_reducible refine (DG.out _ B1.out.bel).mono ?_
        rintro e w2 ⟨rfl, b2⟩
        have R := hid (G.out _ (B1.out.on b2).bel)
        clear b2 DG B1
        go_wp2_with fail
        go_ret2
        exact R.out
      · rw [if_neg hb] at hE
        rw [if_neg hb, if_neg hb] at DG
        obtain ⟨di, dl⟩ := dig_nil 10 false zs ha.2.2.2.2 (by omega) (by omega) (by omega)
        have dy := Wh.dig_by 10 false (Nm.val zs)
        have FI := hid (fun W' => filled_any V F W P (Wh.dig 10 false (Nm.val zs)) W' p0 p1 dy dl)
        have SG := hid (fun W' => wsign_any V F W P (below neg (Nm.val zs)) W' f0 f1)
        have sl := Wh.sgn_len F (below neg (Nm.val zs))
        have fl := Wh.fil_len P (Wh.dig 10 false (Nm.val zs))
        have fl2 : (Wh.fil P (Wh.dig 10 false (Nm.val zs))).length ≤ 270000 := by rw [fl]; split <;> omega
        have PA := hid (fun W' => pad_any V F W P (Wh.sgn F (below neg (Nm.val zs))) (Wh.fil P (Wh.dig 10 false (Nm.val zs))) (decide (P = -1)) W' (Wh.sgn_by _ _) (Wh.fil_by dy) (by omega) (by omega))
        have pe : Wh.padE F W P (Wh.sgn F (below neg (Nm.val zs))) (Wh.fil P (Wh.dig 10 false (Nm.val zs))) = 0 := by rw [Wh.padE, if_pos hc, if_neg (by omega)]
        have G : Hid (∀ W' e w', PadTold F W P (decide (P = -1)) (Wh.sgn F (below neg (Nm.val zs))) (Wh.fil P (Wh.dig 10 false (Nm.val zs))) W' e w' → Below w.heap.size w W' → ∃ s, e = .returned (.tuple #[.string s, .int .i64 0]) ∧ SigTold V F W P neg zs w (.returned (.tuple #[.string s, .int .i64 0])) w') := by
          rintro W' e w' ⟨rfl, k⟩ b
          rw [pe]
          exact ⟨_, rfl, by rw [Wh.sig, hE, if_pos rfl, Wh.pad, if_pos pe]; rfl, below_on b k⟩
        have DI := isEmpty_nums (Wh.dig 10 false (Nm.val zs))
        have DJ := toList_nums (Wh.dig 10 false (Nm.val zs))
        rw [di] at DI DJ
        have NEG : (neg && !decide (Nm.val zs = 0)) = below neg (Nm.val zs) := by unfold below; simp
        have ep : (P == -1) = decide (P = -1) := by by_cases h : P = -1 <;> simp [h]
        clear ha hV hc hE hb f0 f1 wl wu di dl dy sl fl fl2 pe h0 h1
        generalize Wh.dig 10 false (Nm.val zs) = D at *
        generalize Wh.fil P D = FD at *
        generalize decide (Nm.val zs = 0) = z0 at *
        generalize below neg (Nm.val zs) = bl at *
        generalize Wh.sgn F bl = SN at *
        generalize decide (P = -1) = ez at *
        go_enter Tryd.func13, Tryd.ntmps13
        go_wp2_with fail
        with_reducible refine (CV.out _).mono ?_
        rintro e w1 ⟨rfl, b1⟩
        have B1 := hid (B0.out.on b1)
        clear b1 CV B0
        go_wp2_with fail
        with_reducible refine (DG.out _ B1.out.bel).mono ?_
        rintro e w2 ⟨rfl, b2⟩
        have B2 := hid (B1.out.on b2)
        clear b2 DG B1
        obtain ⟨c0, c1, c2, c3⟩ := B2.out.flat
        cases neg with
        | true =>
          have NEG2 : bl = !z0 := by simpa using NEG.symm
          subst NEG2
          clear NEG
          go_wp2_with fail
          with_reducible refine (SG.out _).mono ?_
          rintro e w3 ⟨rfl, b3⟩
          have B3 := hid (B2.out.on b3)
          clear b3 SG B2 c0 c1 c2 c3
          go_upto_region 8 with fail
          have T1 := hid B3.out.drew
          go_region_held3 (fun wx => wx.cell? ⟨w.heap.size, 0, none⟩ = some (.int .u8 V) ∧ wx.cell? ⟨w.heap.size, 1, none⟩ = some (.int .i64 F) ∧ wx.cell? ⟨w.heap.size, 2, none⟩ = some (.int .i64 W) ∧ wx.cell? ⟨w.heap.size, 3, none⟩ = some (.int .i64 P)) (first | (with_reducible exact T3.out.flat) | (with_reducible exact T2.out.flat) | (with_reducible exact T1.out.flat)) (first
            | (go_at_call 30; with_reducible refine (FI.out _).mono ?_; rintro e wa ⟨rfl, hB⟩; have T2 := hid (T1.out.on hB); clear hB)
            | (go_at_call 29; with_reducible refine (PA.out _).mono ?_; rintro e wb hP; have T3 := hid (T2.out.on hP.bel); obtain ⟨s, rfl, R⟩ := G.out _ _ _ hP T2.out.bel; have R := hid R; clear hP))
          go_wp2_with fail
          go_ret2
          exact R.out
        | false =>
          have NEG2 : bl = false := by simpa using NEG.symm
          subst NEG2
          clear NEG
          go_wp2_with fail
          with_reducible refine (SG.out _).mono ?_
          rintro e w3 ⟨rfl, b3⟩
          have B3 := hid (B2.out.on b3)
          clear b3 SG B2 c0 c1 c2 c3
          go_upto_region 8 with fail
          have T1 := hid B3.out.drew
          go_region_held3 (fun wx => wx.cell? ⟨w.heap.size, 0, none⟩ = some (.int .u8 V) ∧ wx.cell? ⟨w.heap.size, 1, none⟩ = some (.int .i64 F) ∧ wx.cell? ⟨w.heap.size, 2, none⟩ = some (.int .i64 W) ∧ wx.cell? ⟨w.heap.size, 3, none⟩ = some (.int .i64 P)) (first | (with_reducible exact T3.out.flat) | (with_reducible exact T2.out.flat) | (with_reducible exact T1.out.flat)) (first
            | (go_at_call 30; with_reducible refine (FI.out _).mono ?_; rintro e wa ⟨rfl, hB⟩; have T2 := hid (T1.out.on hB); clear hB)
            | (go_at_call 29; with_reducible refine (PA.out _).mono ?_; rintro e wb hP; have T3 := hid (T2.out.on hP.bel); obtain ⟨s, rfl, R⟩ := G.out _ _ _ hP T2.out.bel; have R := hid R; clear hP))
          go_wp2_with fail
          go_ret2
          exact R.out
    · have hE : Wh.sigE V F W P (Nm.tsize zs) = Wh.chk F W P := by rw [Wh.sigE, if_pos hV, if_neg hc]
      have G : Hid (∀ w', Below w.heap.size w w' → SigTold V F W P neg zs w (.returned (.tuple #[.string ⟨#[]⟩, .int .i64 (Wh.chk F W P)])) w') := fun w' k => ⟨by rw [Wh.sig, hE, if_neg hc]; rfl, k⟩
      have hne : (Wh.chk F W P == 0) = false := by simpa using hc
      clear hc hE ha hV
      generalize Wh.chk F W P = E at *
      go_enter Tryd.func13, Tryd.ntmps13
      go_wp2_with fail
      refine (CV.out _).mono ?_
      rintro e w1 ⟨rfl, b1⟩
      have R := hid (G.out _ (B0.out.on b1).bel)
      clear b1 CV
      go_wp2_with fail
      go_ret2
      exact R.out
  · rw [if_neg (by simpa using hV)] at CV
    have hE : Wh.sigE V F W P (Nm.tsize zs) = 140 := by rw [Wh.sigE, if_neg hV]
    have G : Hid (∀ w', Below w.heap.size w w' → SigTold V F W P neg zs w (.returned (.tuple #[.string ⟨#[]⟩, .int .i64 140])) w') := fun w' k => ⟨by rw [Wh.sig, hE, if_neg (by decide)]; rfl, k⟩
    clear ha hV hE
    go_enter Tryd.func13, Tryd.ntmps13
    go_wp2_with fail
    refine (CV.out _).mono ?_
    rintro e w1 ⟨rfl, b1⟩
    have R := hid (G.out _ (B0.out.on b1).bel)
    clear b1 CV
    go_wp2_with fail
    go_ret2
    exact R.out
end Go.Proofs.YtbldddagddmbgaaDoor

namespace Go.Proofs.YtbldddagddmbgaaDoor
open Go Go.RowKit Go.Deep Go.Shelf

theorem val_one (u : Int) : Nm.val [u] = u := by simp [Nm.val]
theorem dig_u (B : Int) (up : Bool) (u : Int) (h0 : 0 ≤ u) (h1 : u < 18446744073709551616) (hB : 2 ≤ B) (h36 : B ≤ 36) : (Wh.dig B up u).length ≤ 262144 := by
  have q := (dig_nil B up [u] (limb_one ⟨h0, h1⟩) (Nat.le_trans (Nm.tsize_le _) (by simp)) hB h36).2
  rw [val_one] at q
  exact q
theorem base_bd (V : Int) : 2 ≤ Wh.base V ∧ Wh.base V ≤ 36 := by
  unfold Wh.base
  split
  · omega
  · split <;> omega

/-- The digits of a uint64, in a base. -/
theorem digits_u (r : Option Addr) (os : List Int) (u B : Int) (up : Bool) (b : Nat) (w : World) (h1 : u < 18446744073709551616) (ha : Ans b w r os u) (hB : 2 ≤ B) (h36 : B ≤ 36) :
    Calls Tryd.prog 27 #[.slice r (List.length os) (List.length os), .int .i64 B, .bool up] w fun e w' => e = .returned (.tuple #[.string (strOfNums (Wh.dig B up u)), .int .i64 0]) ∧ Below w.heap.size w w' := by
  have hz : Nm.Limbs os := ha.2.1
  have hv : Nm.val os = u := ha.2.2.2.1
  have ts : Nm.tsize os ≤ 1 := (Nm.tsize_le_iff hz 1).2 (by rw [hv]; exact h1)
  have tl := ha.2.2.1
  have q := digitsOf_any r os.length os.length os B up w (ha.arg (by omega)) hB h36
  rw [if_neg (by omega), if_neg (by omega), hv] at q
  exact q

set_option maxRecDepth 100000 in
theorem unsignedDigits_any (V u : Int) (w : World) (h0 : 0 ≤ u) (h1 : u < 18446744073709551616) :
    Calls Tryd.prog 32 #[.int .u8 V, .int .u64 u] w fun e w' => e = .returned (.tuple #[.string (strOfNums (Wh.dig (Wh.base V) (decide (V = 88)) u)), .int .i64 0]) ∧ Below w.heap.size w w' := by
  have FU := hid (fromUint_any u w h0 h1)
  have DU := hid (fun r os B up W' ha hB h36 => digits_u r os u B up w.heap.size W' h1 ha hB h36)
  clear h0 h1
  by_cases v1 : V = 88
  · subst v1
    rw [show Wh.base 88 = 16 from rfl, show decide ((88 : Int) = 88) = true from rfl]
    go_enter Tryd.func32, Tryd.ntmps32
    go_wp2_with fail
    with_reducible refine FU.out.mono ?_
    rintro e w1 ⟨r, os, rfl, A1, b1⟩
    have D1 := hid (DU.out r os 16 true w1 A1 (by omega) (by omega))
    have B1 := hid b1
    clear A1 b1 FU DU
    go_wp2_with fail
    with_reducible refine D1.out.mono ?_
    rintro e w2 ⟨rfl, b2⟩
    have B2 := hid (below_on B1.out b2)
    clear b2 D1
    go_wp2_with fail
    go_ret2
    exact ⟨rfl, B2.out⟩
  by_cases v2 : V = 120
  · subst v2
    rw [show Wh.base 120 = 16 from rfl, show decide ((120 : Int) = 88) = false from rfl]
    go_enter Tryd.func32, Tryd.ntmps32
    go_wp2_with fail
    with_reducible refine FU.out.mono ?_
    rintro e w1 ⟨r, os, rfl, A1, b1⟩
    have D1 := hid (DU.out r os 16 false w1 A1 (by omega) (by omega))
    have B1 := hid b1
    clear A1 b1 FU DU
    go_wp2_with fail
    with_reducible refine D1.out.mono ?_
    rintro e w2 ⟨rfl, b2⟩
    have B2 := hid (below_on B1.out b2)
    clear b2 D1
    go_wp2_with fail
    go_ret2
    exact ⟨rfl, B2.out⟩
  by_cases v3 : V = 111
  · subst v3
    rw [show Wh.base 111 = 8 from rfl, show decide ((111 : Int) = 88) = false from rfl]
    go_enter Tryd.func32, Tryd.ntmps32
    go_wp2_with fail
    with_reducible refine FU.out.mono ?_
    rintro e w1 ⟨r, os, rfl, A1, b1⟩
    have D1 := hid (DU.out r os 8 false w1 A1 (by omega) (by omega))
    have B1 := hid b1
    clear A1 b1 FU DU
    go_wp2_with fail
    with_reducible refine D1.out.mono ?_
    rintro e w2 ⟨rfl, b2⟩
    have B2 := hid (below_on B1.out b2)
    clear b2 D1
    go_wp2_with fail
    go_ret2
    exact ⟨rfl, B2.out⟩
  have e1 : Wh.base V = 10 := by rw [Wh.base, if_neg v3, if_neg (by omega)]
  rw [e1, decide_eq_false v1]
  have u1 : (V == 88) = false := by simpa using v1
  have u2 : (V == 120) = false := by simpa using v2
  have u3 : (V == 111) = false := by simpa using v3
  clear v1 v2 v3 e1
  go_enter Tryd.func32, Tryd.ntmps32
  go_wp2_with fail
  with_reducible refine FU.out.mono ?_
  rintro e w1 ⟨r, os, rfl, A1, b1⟩
  have D1 := hid (DU.out r os 10 false w1 A1 (by omega) (by omega))
  have B1 := hid b1
  clear A1 b1 FU DU
  go_wp2_with fail
  with_reducible refine D1.out.mono ?_
  rintro e w2 ⟨rfl, b2⟩
  have B2 := hid (below_on B1.out b2)
  clear b2 D1
  go_wp2_with fail
  go_ret2
  exact ⟨rfl, B2.out⟩

theorem prefix_zero (b : List Int) (hb : Wh.By b) : Lib.hasPrefix (strOfNums b).data.toList (⟨#[48]⟩ : ByteArray).data.toList = decide (b.getD 0 0 = 48) := by
  rw [strOfNums_data, Lib.hasPrefix]
  cases b with
  | nil => rfl
  | cons x l =>
    have hx := hb x (by simp)
    simp only [List.map_cons, List.getD_cons_zero, List.isPrefixOf, Bool.and_true]
    by_cases h : x = 48
    · subst h; rfl
    · rw [decide_eq_false h, beq_eq_false_iff_ne]
      intro c
      have : (48 : UInt8).toNat = (UInt8.ofNat x.toNat).toNat := by rw [← c]
      rw [UInt8.toNat_ofNat_of_lt' (by show x.toNat < 256; omega)] at this
      have e48 : (48 : UInt8).toNat = 48 := rfl
      omega

/-- What marked tells. -/
def mkH (V u : Int) (b : List Int) : List Int := if V = 111 ∧ b.getD 0 0 ≠ 48 then [] else if V = 120 ∧ u ≠ 0 then [48, 120] else if V = 88 ∧ u ≠ 0 then [48, 88] else []
def mkB (V : Int) (b : List Int) : List Int := if V = 111 ∧ b.getD 0 0 ≠ 48 then 48 :: b else b
theorem ret_ss {a b c d : ByteArray} (h : a = b) (k : c = d) : Ending.returned (.tuple #[.string a, .string c]) = .returned (.tuple #[.string b, .string d]) := by rw [h, k]

set_option maxRecDepth 100000 in
theorem marked_any (V u : Int) (b : List Int) (w : World) (hb : Wh.By b) (hl : b.length ≤ 270000) :
    Calls Tryd.prog 34 #[.int .u8 V, .string (strOfNums b), .int .u64 u] w fun e w' => e = .returned (.tuple #[.string (strOfNums (mkH V u b)), .string (strOfNums (mkB V b))]) ∧ Below w.heap.size w w' := by
  have HP := hid (fun W' => Any.strings_HasPrefix { repLays with } (strOfNums b) ⟨#[48]⟩ W')
  have PZ := prefix_zero b hb
  have sz : (strOfNums b).size = b.length := strOfNums_size b
  have l2 : (b.length : Int) ≤ 270000 := by omega
  have AP : Hid (⟨#[48]⟩ ++ strOfNums b = strOfNums (48 :: b)) := by
    have q := str_app (a := [48]) (b := b) (by intro x hx; simp at hx; omega) hb
    exact q
  have BR := hid (Below.refl w.heap.size w)
  by_cases v1 : V = 111
  · subst v1
    by_cases hz : b.getD 0 0 = 48
    · have e1 : strOfNums (mkH 111 u b) = ⟨#[]⟩ := by rw [mkH, if_neg (fun q => q.2 hz), if_neg (by omega), if_neg (by omega)]; rfl
      have e2 : mkB 111 b = b := if_neg (fun q => q.2 hz)
      rw [e1, e2]
      rw [decide_eq_true hz] at PZ
      rw [PZ] at HP
      clear hb hl hz PZ e1 e2 AP
      go_enter Tryd.func34, Tryd.ntmps34
      go_wp2_with (go_at_call 54; refine (HP.out _).mono ?_; rintro e w2 ⟨rfl, rfl⟩)
      go_ret2
      exact ⟨rfl, BR.out⟩
    · have e1 : strOfNums (mkH 111 u b) = ⟨#[]⟩ := by rw [mkH, if_pos ⟨rfl, hz⟩]; rfl
      have e2 : mkB 111 b = 48 :: b := if_pos ⟨rfl, hz⟩
      rw [e1, e2]
      rw [decide_eq_false hz] at PZ
      rw [PZ] at HP
      clear hb hl hz PZ e1 e2
      go_enter Tryd.func34, Tryd.ntmps34
      go_wp2_with (go_at_call 54; refine (HP.out _).mono ?_; rintro e w2 ⟨rfl, rfl⟩)
      go_ret2
      exact ⟨ret_ss rfl AP.out, BR.out⟩
  have u1 : (V == 111) = false := by simpa using v1
  have e2 : mkB V b = b := if_neg (fun q => v1 q.1)
  rw [e2]
  clear HP PZ AP hb hl e2
  by_cases u0 : u = 0
  · have e1 : strOfNums (mkH V u b) = ⟨#[]⟩ := by rw [mkH, if_neg (fun q => v1 q.1), if_neg (fun q => q.2 u0), if_neg (fun q => q.2 u0)]; rfl
    rw [e1]
    subst u0
    clear v1 e1
    by_cases v2 : V = 120
    · subst v2
      go_enter Tryd.func34, Tryd.ntmps34
      go_wp2_with fail
      go_ret2
      exact ⟨rfl, BR.out⟩
    · have u2 : (V == 120) = false := by simpa using v2
      clear v2
      by_cases v3 : V = 88
      · subst v3
        go_enter Tryd.func34, Tryd.ntmps34
        go_wp2_with fail
        go_ret2
        exact ⟨rfl, BR.out⟩
      · have u3 : (V == 88) = false := by simpa using v3
        clear v3
        go_enter Tryd.func34, Tryd.ntmps34
        go_wp2_with fail
        go_ret2
        exact ⟨rfl, BR.out⟩
  · have n0 : (u == 0) = false := by simpa using u0
    have n1 : (u != 0) = true := by simpa using u0
    by_cases v2 : V = 120
    · have e1 : strOfNums (mkH V u b) = ⟨#[48, 120]⟩ := by rw [mkH, if_neg (fun q => v1 q.1), if_pos ⟨v2, u0⟩]; rfl
      rw [e1]
      subst v2
      clear v1 e1 u0 u1
      go_enter Tryd.func34, Tryd.ntmps34
      go_wp2_with fail
      go_ret2
      exact ⟨rfl, BR.out⟩
    · by_cases v3 : V = 88
      · have e1 : strOfNums (mkH V u b) = ⟨#[48, 88]⟩ := by rw [mkH, if_neg (fun q => v1 q.1), if_neg (fun q => v2 q.1), if_pos ⟨v3, u0⟩]; rfl
        rw [e1]
        subst v3
        clear v1 v2 e1 u0 u1
        go_enter Tryd.func34, Tryd.ntmps34
        go_wp2_with fail
        go_ret2
        exact ⟨rfl, BR.out⟩
      · have e1 : strOfNums (mkH V u b) = ⟨#[]⟩ := by rw [mkH, if_neg (fun q => v1 q.1), if_neg (fun q => v2 q.1), if_neg (fun q => v3 q.1)]; rfl
        rw [e1]
        have u2 : (V == 120) = false := by simpa using v2
        have u3 : (V == 88) = false := by simpa using v3
        clear v1 v2 v3 e1 u0
        go_enter Tryd.func34, Tryd.ntmps34
        go_wp2_with fail
        go_ret2
        exact ⟨rfl, BR.out⟩

def UnsTold (V F W P u : Int) (w : World) (e : Ending) (w' : World) : Prop := e = .returned (.tuple #[.string (strOfNums (Wh.uns V F W P u)), .int .i64 (Wh.unsE V F W P)]) ∧ Below w.heap.size w w'

set_option maxRecDepth 100000 in
set_option maxHeartbeats 2000000 in
theorem unsigned_any (V F W P u : Int) (w : World) (h0 : 0 ≤ V) (h1 : V < 256) (u0 : 0 ≤ u) (u1 : u < 18446744073709551616) :
    Calls Tryd.prog 15 #[.agg #[.int .u8 V, .int .i64 F, .int .i64 W, .int .i64 P], .int .u64 u] w fun e w' => UnsTold V F W P u w e w' := by
  have B0 := hid (SB.new w V F W P)
  have CV := hid (fun W' => checkVerb_any V F W P ⟨#[111, 117, 120, 88]⟩ _ W' (vb_o V h0 h1))
  by_cases hV : V = 111 ∨ V = 117 ∨ V = 120 ∨ V = 88
  · rw [if_pos (decide_eq_true hV)] at CV
    have hE : Wh.unsE V F W P = Wh.chk F W P := by rw [Wh.unsE, if_pos hV]
    by_cases hc : Wh.chk F W P = 0
    · obtain ⟨⟨f0, f1⟩, ⟨wl, wu⟩, ⟨p0, p1⟩⟩ := Wh.chk_ok hc
      rw [hc] at CV
      have UD := hid (fun W' => unsignedDigits_any V u W' u0 u1)
      have bd := base_bd V
      have dl := dig_u (Wh.base V) (decide (V = 88)) u u0 u1 bd.1 bd.2
      have dy := Wh.dig_by (Wh.base V) (decide (V = 88)) u
      have FI := hid (fun W' => filled_any V F W P (Wh.dig (Wh.base V) (decide (V = 88)) u) W' p0 p1 dy dl)
      have fy : Wh.By (Wh.ubody V P u) := Wh.fil_by dy
      have fl : (Wh.ubody V P u).length ≤ 268000 := by rw [Wh.ubody, Wh.fil_len]; split <;> omega
      rw [show Wh.fil P (Wh.dig (Wh.base V) (decide (V = 88)) u) = Wh.ubody V P u from rfl] at FI
      have MK := hid (fun W' => marked_any V u (Wh.ubody V P u) W' fy (by omega))
      have HA := hid (fun W' => has_any V F W P 8 W' f0 f1 (by omega))
      have ep : (P == -1) = decide (P = -1) := by by_cases h : P = -1 <;> simp [h]
      have PA : ∀ H B, Wh.uhead V F u = H → Wh.utext V F P u = B → Hid (∀ W' (k : Below w.heap.size w W'), Calls Tryd.prog 29 #[.agg #[.int .u8 V, .int .i64 F, .int .i64 W, .int .i64 P], .string (strOfNums H), .string (strOfNums B), .bool (decide (P = -1))] W' fun e w' => ∃ s, e = .returned (.tuple #[.string s, .int .i64 0]) ∧ UnsTold V F W P u w (.returned (.tuple #[.string s, .int .i64 0])) w') := by
        rintro H B rfl rfl W' k
        have hh : Wh.By (Wh.uhead V F u) ∧ (Wh.uhead V F u).length ≤ 2 := by
          unfold Wh.uhead
          split
          · exact ⟨by intro x hx; simp at hx; omega, by simp⟩
          · split
            · exact ⟨by intro x hx; simp at hx; omega, by simp⟩
            · exact ⟨Wh.By.nil, by simp⟩
        have hb : Wh.By (Wh.utext V F P u) ∧ (Wh.utext V F P u).length ≤ 268001 := by
          unfold Wh.utext
          split
          · exact ⟨fy.cons (by omega), by rw [List.length_cons]; omega⟩
          · exact ⟨fy, by omega⟩
        have pe : Wh.padE F W P (Wh.uhead V F u) (Wh.utext V F P u) = 0 := by rw [Wh.padE, if_pos hc, if_neg (by omega)]
        refine (pad_any V F W P _ _ _ W' hh.1 hb.1 (by omega) (by omega)).mono ?_
        rintro e w' ⟨rfl, b⟩
        rw [pe]
        exact ⟨_, rfl, by rw [Wh.uns, hE, if_pos hc, hc, Wh.pad, if_pos pe]; rfl, below_on k b⟩
      cases h8 : Wh.bit F 8 with
      | true =>
        have e1 : Wh.uhead V F u = mkH V u (Wh.ubody V P u) := by
          rw [Wh.uhead, mkH]
          by_cases a : V = 111
          · rw [if_neg (by omega), if_neg (by omega)]
            by_cases c : (Wh.ubody V P u).getD 0 0 ≠ 48
            · rw [if_pos ⟨a, c⟩]
            · rw [if_neg (fun q => c q.2), if_neg (by omega), if_neg (by omega)]
          · rw [if_neg (c := V = 111 ∧ _) (fun q => a q.1)]
            by_cases b : V = 120 ∧ u ≠ 0
            · rw [if_pos ⟨h8, b.2, b.1⟩, if_pos b]
            · rw [if_neg (fun q => b ⟨q.2.2, q.2.1⟩), if_neg b]
              by_cases c : V = 88 ∧ u ≠ 0
              · rw [if_pos ⟨h8, c.2, c.1⟩, if_pos c]
              · rw [if_neg (fun q => c ⟨q.2.2, q.2.1⟩), if_neg c]
        have e2 : Wh.utext V F P u = mkB V (Wh.ubody V P u) := by
          rw [Wh.utext, mkB, Wh.umark, h8]
          by_cases a : V = 111 ∧ (Wh.ubody V P u).getD 0 0 ≠ 48
          · rw [if_pos a, if_pos (by rw [decide_eq_true a.1, decide_eq_true a.2]; rfl)]
          · rw [if_neg a, if_neg]
            intro q
            simp only [Bool.true_and, Bool.and_eq_true, decide_eq_true_eq] at q
            exact a q
        have PB := PA _ _ e1 e2
        rw [h8] at HA
        clear PA hV hE hc f0 f1 wl wu p0 p1 bd dl dy fy fl e1 e2 h0 h1 u0 u1
        generalize Wh.dig (Wh.base V) (decide (V = 88)) u = D at *
        generalize Wh.ubody V P u = BO at *
        generalize mkH V u BO = HH at *
        generalize mkB V BO = BB at *
        generalize decide (P = -1) = ez at *
        go_enter Tryd.func15, Tryd.ntmps15
        go_wp2_with fail
        with_reducible refine (CV.out _).mono ?_
        rintro e w1 ⟨rfl, b1⟩
        have B1 := hid (B0.out.on b1)
        clear b1 CV B0
        obtain ⟨c0, c1, c2, c3⟩ := B1.out.flat
        go_wp2_with fail
        with_reducible refine (UD.out _).mono ?_
        rintro e w2 ⟨rfl, b2⟩
        have B2 := hid (B1.out.on b2)
        clear b2 UD B1 c0 c1 c2 c3
        obtain ⟨c0, c1, c2, c3⟩ := B2.out.flat
        go_wp2_with fail
        with_reducible refine (FI.out _).mono ?_
        rintro e w3 ⟨rfl, b3⟩
        have B3 := hid (B2.out.on b3)
        clear b3 FI B2 c0 c1 c2 c3
        obtain ⟨c0, c1, c2, c3⟩ := B3.out.flat
        go_wp2_with fail
        with_reducible refine (HA.out _).mono ?_
        rintro e w4 ⟨rfl, b4⟩
        have B4 := hid (B3.out.on b4)
        clear b4 HA B3 c0 c1 c2 c3
        obtain ⟨c0, c1, c2, c3⟩ := B4.out.flat
        go_wp2_with fail
        with_reducible refine (MK.out _).mono ?_
        rintro e w5 ⟨rfl, b5⟩
        have B5 := hid (B4.out.on b5)
        clear b5 MK B4 c0 c1 c2 c3
        obtain ⟨c0, c1, c2, c3⟩ := B5.out.flat
        go_wp2_with fail
        with_reducible refine (PB.out _ B5.out.bel).mono ?_
        rintro e w6 ⟨s, rfl, R⟩
        have R := hid R
        clear PB
        go_wp2_with fail
        go_ret2
        exact R.out
      | false =>
        have e1 : Wh.uhead V F u = [] := by rw [Wh.uhead, h8, if_neg (fun q => Bool.false_ne_true q.1), if_neg (fun q => Bool.false_ne_true q.1)]
        have e2 : Wh.utext V F P u = Wh.ubody V P u := by rw [Wh.utext, Wh.umark, h8, Bool.false_and, Bool.false_and, if_neg Bool.false_ne_true]
        have PB := PA _ _ e1 e2
        rw [show strOfNums [] = ⟨#[]⟩ from rfl] at PB
        rw [h8] at HA
        clear PA hV hE hc f0 f1 wl wu p0 p1 bd dl dy fy fl e1 e2 h0 h1 u0 u1 MK
        generalize Wh.dig (Wh.base V) (decide (V = 88)) u = D at *
        generalize Wh.ubody V P u = BO at *
        generalize decide (P = -1) = ez at *
        go_enter Tryd.func15, Tryd.ntmps15
        go_wp2_with fail
        with_reducible refine (CV.out _).mono ?_
        rintro e w1 ⟨rfl, b1⟩
        have B1 := hid (B0.out.on b1)
        clear b1 CV B0
        obtain ⟨c0, c1, c2, c3⟩ := B1.out.flat
        go_wp2_with fail
        with_reducible refine (UD.out _).mono ?_
        rintro e w2 ⟨rfl, b2⟩
        have B2 := hid (B1.out.on b2)
        clear b2 UD B1 c0 c1 c2 c3
        obtain ⟨c0, c1, c2, c3⟩ := B2.out.flat
        go_wp2_with fail
        with_reducible refine (FI.out _).mono ?_
        rintro e w3 ⟨rfl, b3⟩
        have B3 := hid (B2.out.on b3)
        clear b3 FI B2 c0 c1 c2 c3
        obtain ⟨c0, c1, c2, c3⟩ := B3.out.flat
        go_wp2_with fail
        with_reducible refine (HA.out _).mono ?_
        rintro e w4 ⟨rfl, b4⟩
        have B4 := hid (B3.out.on b4)
        clear b4 HA B3 c0 c1 c2 c3
        obtain ⟨c0, c1, c2, c3⟩ := B4.out.flat
        go_wp2_with fail
        with_reducible refine (PB.out _ B4.out.bel).mono ?_
        rintro e w6 ⟨s, rfl, R⟩
        have R := hid R
        clear PB
        go_wp2_with fail
        go_ret2
        exact R.out
    · have G : Hid (∀ w', Below w.heap.size w w' → UnsTold V F W P u w (.returned (.tuple #[.string ⟨#[]⟩, .int .i64 (Wh.chk F W P)])) w') := fun w' k => ⟨by rw [Wh.uns, hE, if_neg hc]; rfl, k⟩
      have hne : (Wh.chk F W P == 0) = false := by simpa using hc
      clear hc hE hV
      generalize Wh.chk F W P = E at *
      go_enter Tryd.func15, Tryd.ntmps15
      go_wp2_with fail
      refine (CV.out _).mono ?_
      rintro e w1 ⟨rfl, b1⟩
      have R := hid (G.out _ (B0.out.on b1).bel)
      clear b1 CV
      go_wp2_with fail
      go_ret2
      exact R.out
  · rw [if_neg (by simpa using hV)] at CV
    have hE : Wh.unsE V F W P = 140 := by rw [Wh.unsE, if_neg hV]
    have G : Hid (∀ w', Below w.heap.size w w' → UnsTold V F W P u w (.returned (.tuple #[.string ⟨#[]⟩, .int .i64 140])) w') := fun w' k => ⟨by rw [Wh.uns, hE, if_neg (by decide)]; rfl, k⟩
    clear hV hE
    go_enter Tryd.func15, Tryd.ntmps15
    go_wp2_with fail
    refine (CV.out _).mono ?_
    rintro e w1 ⟨rfl, b1⟩
    have R := hid (G.out _ (B0.out.on b1).bel)
    clear b1 CV
    go_wp2_with fail
    go_ret2
    exact R.out
end Go.Proofs.YtbldddagddmbgaaDoor

namespace Go.Proofs.YtbldddagddmbgaaDoor
open Go Go.RowKit Go.Deep Go.Shelf

theorem ext_take {xs : List Int} (hx : Wh.By xs) (k : Nat) : (strOfNums xs).extract 0 k = strOfNums (xs.take k) := by
  have q := (Str.of_nums hx).extract 0 k
  rw [List.drop_zero, Nat.sub_zero] at q
  exact str_is q

set_option maxRecDepth 100000 in
theorem first_any (xs : List Int) (n : Nat) (w : World) (hx : Wh.By xs) (hl : xs.length ≤ 140737488355328) (hn : n ≤ 4096) :
    Calls Tryd.prog 35 #[.string (strOfNums xs), .int .i64 (n : Int)] w fun e w' => e = .returned (.string (strOfNums (xs.take n))) ∧ Below w.heap.size w w' := by
  have B := hid (Below.refl w.heap.size w)
  have sx : (strOfNums xs).size = xs.length := strOfNums_size xs
  have l2 : (xs.length : Int) ≤ 140737488355328 := by omega
  have n2 : (n : Int) ≤ 4096 := by omega
  by_cases h : n ≤ xs.length
  · have mn : min (n : Int) (xs.length : Int) = (n : Int) := by omega
    have G := hid (ext_take hx n)
    clear hx
    go_enter Tryd.func35, Tryd.ntmps35
    go_wp2_with fail
    go_ret
    exact ⟨ret_str G.out, B.out⟩
  · have mn : min (n : Int) (xs.length : Int) = (xs.length : Int) := by omega
    have G : Hid ((strOfNums xs).extract 0 xs.length = strOfNums (xs.take n)) := by
      rw [Hid, ext_take hx, List.take_of_length_le (Nat.le_refl _), List.take_of_length_le (by omega)]
    clear hx
    go_enter Tryd.func35, Tryd.ntmps35
    go_wp2_with fail
    go_ret
    exact ⟨ret_str G.out, B.out⟩

def ChrTold (V F W P : Int) (t : List Int) (w : World) (e : Ending) (w' : World) : Prop := e = .returned (.tuple #[.string (strOfNums (Wh.chr V F W P t)), .int .i64 (Wh.chrE V F W P)]) ∧ Below w.heap.size w w'
def TexTold (V F W P : Int) (t : List Int) (w : World) (e : Ending) (w' : World) : Prop := e = .returned (.tuple #[.string (strOfNums (Wh.tex V F W P t)), .int .i64 (Wh.texE V F W P t)]) ∧ Below w.heap.size w w'

set_option maxRecDepth 100000 in
set_option maxHeartbeats 2000000 in
theorem char_any (V F W P : Int) (t : List Int) (w : World) (h0 : 0 ≤ V) (h1 : V < 256) (ht : Wh.By t) (hl : t.length ≤ 140737488355328) :
    Calls Tryd.prog 18 #[.agg #[.int .u8 V, .int .i64 F, .int .i64 W, .int .i64 P], .string (strOfNums t)] w fun e w' => ChrTold V F W P t w e w' := by
  have B0 := hid (SB.new w V F W P)
  have CV := hid (fun W' => checkVerb_any V F W P ⟨#[99]⟩ _ W' (vb_c V h0 h1))
  have e0 : (if decide (V = 99) = true then Wh.chk F W P else 140) = Wh.chrE V F W P := by
    rw [Wh.chrE]; by_cases h : V = 99
    · rw [if_pos (decide_eq_true h), if_pos h]
    · rw [if_neg (by simpa using h), if_neg h]
  rw [e0] at CV
  clear e0
  by_cases hE : Wh.chrE V F W P = 0
  · have hV : V = 99 := by
      by_cases h : V = 99
      · exact h
      · rw [Wh.chrE, if_neg h] at hE; omega
    have hc : Wh.chk F W P = 0 := by rw [Wh.chrE, if_pos hV] at hE; exact hE
    have FI : Hid (∀ W', Calls Tryd.prog 35 #[.string (strOfNums t), .int .i64 1] W' fun e w' => e = .returned (.string (strOfNums (t.take 1))) ∧ Below W'.heap.size W' w') := fun W' => first_any t 1 W' ht hl (by omega)
    have PA : Hid (∀ W', Calls Tryd.prog 29 #[.agg #[.int .u8 V, .int .i64 F, .int .i64 W, .int .i64 P], .string ⟨#[]⟩, .string (strOfNums (t.take 1)), .bool false] W' fun e w' => PadTold F W P false [] (t.take 1) W' e w') := (fun W' => pad_any V F W P [] (t.take 1) false W' Wh.By.nil (ht.take 1) (by simp) (by rw [List.length_take]; omega))
    have pe : Wh.padE F W P [] (t.take 1) = 0 := by rw [Wh.padE, if_pos hc, if_neg (by rw [List.length_take]; simp; omega)]
    have G : Hid (∀ W' e w', PadTold F W P false [] (t.take 1) W' e w' → Below w.heap.size w W' → ∃ s, e = .returned (.tuple #[.string s, .int .i64 0]) ∧ ChrTold V F W P t w (.returned (.tuple #[.string s, .int .i64 0])) w') := by
      rintro W' e w' ⟨rfl, k⟩ b
      rw [pe]
      exact ⟨_, rfl, by rw [Wh.chr, if_pos hE, hE, Wh.pad, if_pos pe], below_on b k⟩
    rw [hE] at CV
    clear hE hV hc pe ht hl h0 h1
    go_enter Tryd.func18, Tryd.ntmps18
    go_wp2_with fail
    refine (CV.out _).mono ?_
    rintro e w1 ⟨rfl, b1⟩
    have B1 := hid (B0.out.on b1)
    clear b1 CV B0
    go_upto_region 4 with fail
    have T1 := hid B1.out.drew
    go_region_held3 (fun wx => wx.cell? ⟨w.heap.size, 0, none⟩ = some (.int .u8 V) ∧ wx.cell? ⟨w.heap.size, 1, none⟩ = some (.int .i64 F) ∧ wx.cell? ⟨w.heap.size, 2, none⟩ = some (.int .i64 W) ∧ wx.cell? ⟨w.heap.size, 3, none⟩ = some (.int .i64 P)) (first | (with_reducible exact T3.out.flat) | (with_reducible exact T2.out.flat) | (with_reducible exact T1.out.flat)) (first
      | (go_at_call 35; with_reducible refine (FI.out _).mono ?_; rintro e wa ⟨rfl, hB⟩; have T2 := hid (T1.out.on hB); clear hB)
      | (go_at_call 29; with_reducible refine (PA.out _).mono ?_; rintro e wb hP; have T3 := hid (T2.out.on hP.bel); obtain ⟨s, rfl, R⟩ := G.out _ _ _ hP T2.out.bel; have R := hid R; clear hP))
    go_wp2_with fail
    go_ret2
    exact R.out
  · have G : Hid (∀ w', Below w.heap.size w w' → ChrTold V F W P t w (.returned (.tuple #[.string ⟨#[]⟩, .int .i64 (Wh.chrE V F W P)])) w') := fun w' k => ⟨by rw [Wh.chr, if_neg hE]; rfl, k⟩
    have hne : (Wh.chrE V F W P == 0) = false := by simpa using hE
    clear hE ht hl
    generalize Wh.chrE V F W P = E at *
    go_enter Tryd.func18, Tryd.ntmps18
    go_wp2_with fail
    refine (CV.out _).mono ?_
    rintro e w1 ⟨rfl, b1⟩
    have R := hid (G.out _ (B0.out.on b1).bel)
    clear b1 CV
    go_wp2_with fail
    go_ret2
    exact R.out

set_option maxRecDepth 100000 in
set_option maxHeartbeats 2000000 in
theorem text_any (V F W P : Int) (t : List Int) (w : World) (h0 : 0 ≤ V) (h1 : V < 256) (ht : Wh.By t) (hl : t.length ≤ 140737488355328) :
    Calls Tryd.prog 17 #[.agg #[.int .u8 V, .int .i64 F, .int .i64 W, .int .i64 P], .string (strOfNums t)] w fun e w' => TexTold V F W P t w e w' := by
  have B0 := hid (SB.new w V F W P)
  have CV := hid (fun W' => checkVerb_any V F W P ⟨#[115]⟩ _ W' (vb_s V h0 h1))
  by_cases hV : V = 115
  · rw [if_pos (decide_eq_true hV)] at CV
    have eE : Wh.texE V F W P t = Wh.padE F W P [] (Wh.cut P t) := by rw [Wh.texE, if_pos hV]
    by_cases hc : Wh.chk F W P = 0
    · obtain ⟨-, -, ⟨p0, p1⟩⟩ := Wh.chk_ok hc
      have G : Hid (∀ W' e w', PadTold F W P false [] (Wh.cut P t) W' e w' → Below w.heap.size w W' → ∃ s E, e = .returned (.tuple #[.string s, .int .i64 E]) ∧ TexTold V F W P t w (.returned (.tuple #[.string s, .int .i64 E])) w') := by
        rintro W' e w' ⟨rfl, k⟩ b
        exact ⟨_, _, rfl, by rw [Wh.tex, eE, Wh.pad], below_on b k⟩
      rw [hc] at CV
      by_cases hP : P = -1
      · have ec : Wh.cut P t = t := if_pos hP
        have PA : Hid (∀ W', Calls Tryd.prog 29 #[.agg #[.int .u8 V, .int .i64 F, .int .i64 W, .int .i64 P], .string ⟨#[]⟩, .string (strOfNums t), .bool false] W' fun e w' => PadTold F W P false [] t W' e w') := (fun W' => pad_any V F W P [] t false W' Wh.By.nil ht (by simp) hl)
        rw [ec] at G
        clear eE hc ec ht hl h0 h1 hV
        subst hP
        go_enter Tryd.func17, Tryd.ntmps17
        go_wp2_with fail
        refine (CV.out _).mono ?_
        rintro e w1 ⟨rfl, b1⟩
        have B1 := hid (B0.out.on b1)
        clear b1 CV B0
        obtain ⟨c0, c1, c2, c3⟩ := B1.out.flat
        go_wp2_with fail
        refine (PA.out _).mono ?_
        rintro e wb hP
        obtain ⟨s, E, rfl, R⟩ := G.out _ _ _ hP B1.out.bel
        have R := hid R
        clear hP
        go_wp2_with fail
        go_ret2
        exact R.out
      · obtain ⟨n, rfl⟩ := Int.eq_ofNat_of_zero_le (show 0 ≤ P by omega)
        have ec : Wh.cut (n : Int) t = t.take n := by rw [Wh.cut, if_neg hP]; rfl
        have FI := hid (fun W' => first_any t n W' ht hl (by omega))
        have PA : Hid (∀ W', Calls Tryd.prog 29 #[.agg #[.int .u8 V, .int .i64 F, .int .i64 W, .int .i64 (n : Int)], .string ⟨#[]⟩, .string (strOfNums (t.take n)), .bool false] W' fun e w' => PadTold F W (n : Int) false [] (t.take n) W' e w') := (fun W' => pad_any V F W (n : Int) [] (t.take n) false W' Wh.By.nil (ht.take n) (by simp) (by rw [List.length_take]; omega))
        rw [ec] at G
        have hne : ((n : Int) == -1) = false := by simp
        clear eE hc ec ht hl h0 h1 hV hP
        go_enter Tryd.func17, Tryd.ntmps17
        go_wp2_with fail
        refine (CV.out _).mono ?_
        rintro e w1 ⟨rfl, b1⟩
        have B1 := hid (B0.out.on b1)
        clear b1 CV B0
        obtain ⟨c0, c1, c2, c3⟩ := B1.out.flat
        go_wp2_with fail
        refine (FI.out _).mono ?_
        rintro e w2 ⟨rfl, b2⟩
        have B2 := hid (B1.out.on b2)
        clear b2 B1 c0 c1 c2 c3
        obtain ⟨c0, c1, c2, c3⟩ := B2.out.flat
        go_wp2_with fail
        refine (PA.out _).mono ?_
        rintro e wb hP
        obtain ⟨s, E, rfl, R⟩ := G.out _ _ _ hP B2.out.bel
        have R := hid R
        clear hP
        go_wp2_with fail
        go_ret2
        exact R.out
    · have eE2 : Wh.texE V F W P t = Wh.chk F W P := by rw [eE, Wh.padE, if_neg hc]
      have G : Hid (∀ w', Below w.heap.size w w' → TexTold V F W P t w (.returned (.tuple #[.string ⟨#[]⟩, .int .i64 (Wh.chk F W P)])) w') := fun w' k => ⟨by rw [Wh.tex, eE2, if_neg hc]; rfl, k⟩
      have hne : (Wh.chk F W P == 0) = false := by simpa using hc
      clear hc eE eE2 ht hl hV
      generalize Wh.chk F W P = E at *
      go_enter Tryd.func17, Tryd.ntmps17
      go_wp2_with fail
      refine (CV.out _).mono ?_
      rintro e w1 ⟨rfl, b1⟩
      have R := hid (G.out _ (B0.out.on b1).bel)
      clear b1 CV
      go_wp2_with fail
      go_ret2
      exact R.out
  · rw [if_neg (by simpa using hV)] at CV
    have eE : Wh.texE V F W P t = 140 := by rw [Wh.texE, if_neg hV]
    have G : Hid (∀ w', Below w.heap.size w w' → TexTold V F W P t w (.returned (.tuple #[.string ⟨#[]⟩, .int .i64 140])) w') := fun w' k => ⟨by rw [Wh.tex, eE, if_neg (by decide)]; rfl, k⟩
    clear ht hl hV eE
    go_enter Tryd.func17, Tryd.ntmps17
    go_wp2_with fail
    refine (CV.out _).mono ?_
    rintro e w1 ⟨rfl, b1⟩
    have R := hid (G.out _ (B0.out.on b1).bel)
    clear b1 CV
    go_wp2_with fail
    go_ret2
    exact R.out
end Go.Proofs.YtbldddagddmbgaaDoor

namespace Go.Proofs.YtbldddagddmbgaaDoor
open Go Go.RowKit Go.Deep Go.Shelf

set_option maxRecDepth 100000 in
theorem spec_any (V : Int) (w : World) :
    Calls Tryd.prog 8 #[.int .u8 V] w fun e w' => e = .returned (.agg #[.int .u8 V, .int .i64 0, .int .i64 0, .int .i64 (-1)]) ∧ Below w.heap.size w w' := by
  have B := hid (alloc_b w (.cells #[.int .u8 V, .int .i64 0, .int .i64 0, .int .i64 (-1)] 25))
  go_enter Tryd.func8, Tryd.ntmps8
  go_wp2_with fail
  refine bodyPost_ret (results_cell_row rfl _ _ w.heap.size 25 #[.int .u8 V, .int .i64 0, .int .i64 0, .int .i64 (-1)] (0, 0) _ rfl (heap_alloc_new w _) Tryd.underlying25 rfl (by kernel_rfl)) rfl ?_
  exact ⟨rfl, B.out⟩

set_option maxRecDepth 100000 in
theorem lhas_any (V F W P k : Int) (w : World) (h0 : 0 ≤ F) (h1 : F ≤ 31) (hk : k = 1 ∨ k = 2 ∨ k = 4 ∨ k = 8 ∨ k = 16) :
    Calls Tryd.prog 16 #[.agg #[.int .u8 V, .int .i64 F, .int .i64 W, .int .i64 P], .int .i64 k] w fun e w' => e = .returned (.bool (Wh.bit F k)) ∧ Below w.heap.size w w' := by
  have B := hid (SB.new w V F W P)
  have e1 : F.tdiv k = F / k := by rw [Int.tdiv_eq_ediv_of_nonneg h0]
  have e2 : (F / k).tmod 2 = F / k % 2 := by rw [Int.tmod_eq_emod_of_nonneg (Int.ediv_nonneg h0 (by omega))]
  have b1 : 0 ≤ F / k := Int.ediv_nonneg h0 (by omega)
  have b2 : F / k ≤ 31 := by rcases hk with rfl | rfl | rfl | rfl | rfl <;> omega
  have E : (F / k % 2 == 1) = Wh.bit F k := by
    unfold Wh.bit
    by_cases h : F / k % 2 = 1
    · rw [decide_eq_true h]; simpa using h
    · rw [decide_eq_false h]; simpa using h
  have k0 : k ≠ 0 := by omega
  have k1 : k ≠ -1 := by omega
  have kb : 1 ≤ k := by omega
  have kc : k ≤ 16 := by omega
  clear hk
  obtain ⟨c0, c1, c2, c3⟩ := B.out.flat
  go_enter Tryd.func16, Tryd.ntmps16
  go_wp2_with fail
  go_ret
  exact ⟨by rw [← E]; rfl, B.out.bel⟩

set_option maxRecDepth 100000 in
theorem good_any (V F W P : Int) (w : World) :
    Calls Tryd.prog 11 #[.agg #[.int .u8 V, .int .i64 F, .int .i64 W, .int .i64 P]] w fun e w' => e = .returned (.bool (decide (Wh.chk F W P = 0))) ∧ Below w.heap.size w w' := by
  have B := hid (SB.new w V F W P)
  obtain ⟨c0, c1, c2, c3⟩ := B.out.flat
  by_cases h : Wh.chk F W P = 0
  · rw [decide_eq_true h]
    obtain ⟨⟨f0, f1⟩, ⟨w0, w1⟩, ⟨p0, p1⟩⟩ := Wh.chk_ok h
    clear h
    go_enter Tryd.func11, Tryd.ntmps11
    go_wp2_with fail
    go_ret
    exact ⟨rfl, B.out.bel⟩
  · rw [decide_eq_false h]
    have k : ¬ ((0 ≤ F ∧ F ≤ 31) ∧ (0 ≤ W ∧ W ≤ 4096) ∧ (-1 ≤ P ∧ P ≤ 4096)) := fun q => h (Wh.chk_of q)
    clear h
    by_cases f0 : 0 ≤ F
    · by_cases f1 : F ≤ 31
      · by_cases w0 : 0 ≤ W
        · by_cases w1 : W ≤ 4096
          · by_cases p0 : -1 ≤ P
            · have p1 : ¬ P ≤ 4096 := by omega
              clear k
              go_enter Tryd.func11, Tryd.ntmps11
              go_wp2_with fail
              go_ret
              exact ⟨rfl, B.out.bel⟩
            · clear k
              go_enter Tryd.func11, Tryd.ntmps11
              go_wp2_with fail
              go_ret
              exact ⟨rfl, B.out.bel⟩
          · clear k
            go_enter Tryd.func11, Tryd.ntmps11
            go_wp2_with fail
            go_ret
            exact ⟨rfl, B.out.bel⟩
        · clear k
          go_enter Tryd.func11, Tryd.ntmps11
          go_wp2_with fail
          go_ret
          exact ⟨rfl, B.out.bel⟩
      · clear k
        go_enter Tryd.func11, Tryd.ntmps11
        go_wp2_with fail
        go_ret
        exact ⟨rfl, B.out.bel⟩
    · clear k
      go_enter Tryd.func11, Tryd.ntmps11
      go_wp2_with fail
      go_ret
      exact ⟨rfl, B.out.bel⟩

theorem arg_42 (w : World) : Arg (w.alloc (.cells #[.int .u64 42] 27)) (some ⟨w.heap.size, 0, none⟩) 1 1 [42] := by
  have o : Own (w.alloc (.cells #[.int .u64 42] 27)) w.heap.size [42] := heap_alloc_new w _
  exact ⟨rfl, by omega, by omega, o.lies, limb_one (by omega)⟩

set_option maxRecDepth 100000 in
set_option maxHeartbeats 2000000 in
theorem forty_any (w : World) : Calls Tryd.prog 10 #[] w fun e w' => e = .returned (.bool true) ∧ Below w.heap.size w w' := by
  have S1 := hid (fun W => spec_any 100 W)
  have S2 := hid (fun W => spec_any 115 W)
  have S3 := hid (fun W => spec_any 120 W)
  have A1 : Hid (∀ W, Calls Tryd.prog 13 #[.agg #[.int .u8 100, .int .i64 0, .int .i64 0, .int .i64 (-1)], .bool true, .slice (some ⟨W.heap.size, 0, none⟩) 1 1] (W.alloc (.cells #[.int .u64 42] 27)) fun e w' => e = .returned (.tuple #[.string ⟨#[45, 52, 50]⟩, .int .i64 0]) ∧ Below W.heap.size W w') := by
    intro W
    refine (signed_any 100 0 0 (-1) true _ 1 1 [42] _ (by omega) (by omega) (arg_42 W)).mono ?_
    rintro e w' ⟨rfl, b⟩
    exact ⟨by rw [show Wh.sig 100 0 0 (-1) true [42] = [45, 52, 50] by decide +kernel, show Wh.sigE 100 0 0 (-1) (Nm.tsize [42]) = 0 by decide +kernel]; rfl, below_on (alloc_b W _) b⟩
  have A2 : Hid (∀ W, Calls Tryd.prog 17 #[.agg #[.int .u8 115, .int .i64 0, .int .i64 0, .int .i64 (-1)], .string ⟨#[97, 98, 99]⟩] W fun e w' => e = .returned (.tuple #[.string ⟨#[97, 98, 99]⟩, .int .i64 0]) ∧ Below W.heap.size W w') := by
    intro W
    refine (text_any 115 0 0 (-1) [97, 98, 99] W (by omega) (by omega) (by intro x hx; simp at hx; omega) (by simp)).mono ?_
    rintro e w' ⟨rfl, b⟩
    exact ⟨by rw [show Wh.tex 115 0 0 (-1) [97, 98, 99] = [97, 98, 99] by decide +kernel, show Wh.texE 115 0 0 (-1) [97, 98, 99] = 0 by decide +kernel]; rfl, b⟩
  have A3 : Hid (∀ W, Calls Tryd.prog 15 #[.agg #[.int .u8 120, .int .i64 0, .int .i64 0, .int .i64 (-1)], .int .u64 255] W fun e w' => e = .returned (.tuple #[.string ⟨#[102, 102]⟩, .int .i64 0]) ∧ Below W.heap.size W w') := by
    intro W
    refine (unsigned_any 120 0 0 (-1) 255 W (by omega) (by omega) (by omega) (by omega)).mono ?_
    rintro e w' ⟨rfl, b⟩
    exact ⟨by rw [show Wh.uns 120 0 0 (-1) 255 = [102, 102] by decide +kernel, show Wh.unsE 120 0 0 (-1) = 0 by decide +kernel]; rfl, b⟩
  go_enter Tryd.func10, Tryd.ntmps10
  go_wp2_with fail
  with_reducible refine (S1.out _).mono ?_
  rintro e w1 ⟨rfl, b1⟩
  have B1 := hid b1
  clear b1
  go_wp2_with fail
  with_reducible refine (A1.out _).mono ?_
  rintro e w2 ⟨rfl, b2⟩
  have B2 := hid (below_on B1.out b2)
  clear b2 B1
  go_wp2_with fail
  with_reducible refine (S2.out _).mono ?_
  rintro e w3 ⟨rfl, b3⟩
  have B3 := hid (below_on B2.out b3)
  clear b3 B2
  go_wp2_with fail
  with_reducible refine (A2.out _).mono ?_
  rintro e w4 ⟨rfl, b4⟩
  have B4 := hid (below_on B3.out b4)
  clear b4 B3
  go_wp2_with fail
  with_reducible refine (S3.out _).mono ?_
  rintro e w5 ⟨rfl, b5⟩
  have B5 := hid (below_on B4.out b5)
  clear b5 B4
  go_wp2_with fail
  with_reducible refine (A3.out _).mono ?_
  rintro e w6 ⟨rfl, b6⟩
  have B6 := hid (below_on B5.out b6)
  clear b6 B5
  go_wp2_with fail
  go_ret
  exact ⟨rfl, B6.out⟩
end Go.Proofs.YtbldddagddmbgaaDoor
