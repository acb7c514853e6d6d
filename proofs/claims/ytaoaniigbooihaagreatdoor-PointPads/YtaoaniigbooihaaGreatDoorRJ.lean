/-
  Texts put together: PoPads, PoPadsL, FTab, PoCase, OpenSpc.
-/
import Derived.Test.YtaoaniigbooihaaGreatDoorRI
import Derived.Test.YtaoaniigbooihaaGreatDoorNMem
import Derived.Test.YtaoaniigbooihaaGreatDoorRF
import Derived.Deep.DeepCutAuto
import Derived.BigQuiet
import Derived.Test.YtaoaniigbooihaaGreatDoorRC
import Derived.Lib.LaidTab
import Derived.Test.YtaoaniigbooihaaGreatDoorRows
import Derived.Lib.LaidCaseMet
import Derived.Deep.DeepWitnessRowRef
import Derived.Test.YtaoaniigbooihaaGreatDoorRE
import Derived.SizedLaws
import Derived.ProofKit
namespace Go.Proofs.YtaoaniigbooihaaGreatDoor
open Go Go.RowKit Go.Deep Go.Shelf

namespace Po
theorem bits_pads {F : Int} (h0 : 0 ≤ F) (h1 : F ≤ 31) : (bits .and .i64 F 17 == 16) = (Wh.bit F 16 && !Wh.bit F 1) ∧ (bits .and .i64 F 1 != 0) = Wh.bit F 1 ∧ (0 ≤ bits .andNot .i64 F 16 ∧ bits .andNot .i64 F 16 ≤ 31) ∧ Wh.bit (bits .andNot .i64 F 16) 2 = Wh.bit F 2 ∧ Wh.bit (bits .andNot .i64 F 16) 4 = Wh.bit F 4 ∧ Wh.bit (bits .andNot .i64 F 16) 8 = Wh.bit F 8 := by
  have key : ∀ t : Fin 32, (bits .and .i64 (t.val : Int) 17 == 16) = (Wh.bit (t.val : Int) 16 && !Wh.bit (t.val : Int) 1) ∧ (bits .and .i64 (t.val : Int) 1 != 0) = Wh.bit (t.val : Int) 1 ∧ (0 ≤ bits .andNot .i64 (t.val : Int) 16 ∧ bits .andNot .i64 (t.val : Int) 16 ≤ 31) ∧ Wh.bit (bits .andNot .i64 (t.val : Int) 16) 2 = Wh.bit (t.val : Int) 2 ∧ Wh.bit (bits .andNot .i64 (t.val : Int) 16) 4 = Wh.bit (t.val : Int) 4 ∧ Wh.bit (bits .andNot .i64 (t.val : Int) 16) 8 = Wh.bit (t.val : Int) 8 := by decide
  have := key ⟨F.toNat, by omega⟩
  simp only at this
  rw [show ((F.toNat : Nat) : Int) = F by omega] at this
  exact this
/-- The filling so far. -/
def fl (c : Int) (n j : Nat) : List Int := List.replicate j c ++ List.replicate (n - j) 0
theorem fl_len {c : Int} {n j : Nat} (h : j ≤ n) : (fl c n j).length = n := by simp [fl]; omega
theorem fl_set {c x : Int} {n j : Nat} (h : j < n) : ((fl c n j).set j x) = List.replicate j c ++ x :: List.replicate (n - (j + 1)) 0 := by
  unfold fl
  rw [List.set_append, if_neg (by simp), List.length_replicate, Nat.sub_self]
  obtain ⟨m, hm⟩ : ∃ m, n - j = m + 1 := ⟨n - j - 1, by omega⟩
  rw [hm, List.replicate_succ, List.set_cons_zero, show n - (j + 1) = m by omega]
theorem fl_one {c : Int} {n j : Nat} (h : j < n) : (fl c n j).set j c = fl c n (j + 1) := by
  rw [fl_set h]
  unfold fl
  rw [List.replicate_succ', List.append_assoc]; rfl
theorem fl_two {c x : Int} {n j : Nat} (h : j < n) : ((fl c n j).set j x).set j c = fl c n (j + 1) := by
  rw [List.set_set, fl_one h]
theorem fl_end (c : Int) (n : Nat) : fl c n n = Wh.rep c (n : Int) := by simp [fl, Wh.rep]

/-- The text behind a width. -/
theorem pads_eq {V F W P d : Int} (h : renE V F W P = 0) :
    ∃ L : Nat, (Wh.sgn F (ng d) ++ tb V F P d).length = L ∧ 1 ≤ L ∧ L ≤ 20001 ∧
    (W - L ≤ 0 → ren V F W P d = Wh.sgn F (ng d) ++ tb V F P d) ∧
    (Wh.bit F 1 = true → ren V F W P d = Wh.sgn F (ng d) ++ tb V F P d ++ Wh.rep 32 (W - L)) ∧
    (Wh.bit F 1 = false → Wh.bit F 16 = true → Ie.fnt d = true → ren V F W P d = (Wh.sgn F (ng d) ++ tb V F P d).take (Wh.sgn F (ng d)).length ++ Wh.rep 48 (W - L) ++ (Wh.sgn F (ng d) ++ tb V F P d).drop (Wh.sgn F (ng d)).length) ∧
    (Wh.bit F 1 = false → (Wh.bit F 16 = false ∨ Ie.fnt d = false) → ren V F W P d = Wh.rep 32 (W - L) ++ (Wh.sgn F (ng d) ++ tb V F P d)) := by
  obtain ⟨-, b⟩ := renE_ok h
  obtain ⟨f, w, p⟩ := Wh.chk_ok b
  have k := tb_ok (V := V) (F := F) (d := d) p.1 p.2
  obtain ⟨x, ys, hx, -⟩ := tb_head (V := V) (F := F) (d := d) p.1 p.2
  have s := Wh.sgn_len F (ng d)
  have tl : 1 ≤ (tb V F P d).length := by rw [hx]; simp
  rw [ren_pad h]
  refine ⟨_, rfl, by rw [List.length_append]; omega, by rw [List.length_append]; omega, ?_, ?_, ?_, ?_⟩
  all_goals rw [List.length_append]
  · intro c
    have e : ∀ q, Wh.rep q (W - ((Wh.sgn F (ng d)).length : Int) - ((tb V F P d).length : Int)) = [] := fun q => Wh.rep_neg (by omega)
    unfold Wh.padT
    rw [e, e]
    split
    · simp
    · split <;> simp
  · intro c
    unfold Wh.padT
    rw [if_pos c, show W - ((Wh.sgn F (ng d)).length : Int) - ((tb V F P d).length : Int) = W - (((Wh.sgn F (ng d)).length + (tb V F P d).length : Nat) : Int) by omega]
  · intro c1 c2 c3
    unfold Wh.padT
    rw [if_neg (by rw [c1]; decide), if_pos ⟨c2, c3⟩, show W - ((Wh.sgn F (ng d)).length : Int) - ((tb V F P d).length : Int) = W - (((Wh.sgn F (ng d)).length + (tb V F P d).length : Nat) : Int) by omega]
    simp
  · intro c1 c2
    unfold Wh.padT
    rw [if_neg (by rw [c1]; decide), if_neg (by rintro ⟨q1, q2⟩; rcases c2 with c | c <;> simp [c] at q1 q2), show W - ((Wh.sgn F (ng d)).length : Int) - ((tb V F P d).length : Int) = W - (((Wh.sgn F (ng d)).length + (tb V F P d).length : Nat) : Int) by omega]
    simp
/-- The first byte tells whether a sign stands there. -/
theorem pads_head {V F P d : Int} (p0 : -1 ≤ P) (p1 : P ≤ 4096) : ∃ x, (Wh.sgn F (ng d) ++ tb V F P d).getD 0 0 = x ∧ (0 ≤ x ∧ x < 256) ∧
    ((x = 45 ∧ (Wh.sgn F (ng d)).length = 1) ∨ (x = 43 ∧ (Wh.sgn F (ng d)).length = 1) ∨ (x = 32 ∧ (Wh.sgn F (ng d)).length = 1) ∨ (48 ≤ x ∧ (Wh.sgn F (ng d)).length = 0)) := by
  obtain ⟨y, ys, hx, a, b⟩ := tb_head (V := V) (F := F) (d := d) p0 p1
  unfold Wh.sgn
  split
  · exact ⟨45, rfl, by omega, .inl ⟨rfl, rfl⟩⟩
  · split
    · exact ⟨43, rfl, by omega, .inr (.inl ⟨rfl, rfl⟩)⟩
    · split
      · exact ⟨32, rfl, by omega, .inr (.inr (.inl ⟨rfl, rfl⟩))⟩
      · exact ⟨y, by rw [hx]; rfl, by omega, .inr (.inr (.inr ⟨a, rfl⟩))⟩
end Po

theorem ownb_str {g n : Nat} {W : World} {fs : List Int} (o : OwnB W g fs) (hn : fs.length = n) :
    (convert 47 9 (.slice (some ⟨g, 0, none⟩) n n)).run Tryz.prog W = .ok (.string (strOfNums fs)) W :=
  run_convert_bytes_arg (P := Tryz.prog) W 47 5 Tryz.underlying47 Tryz.underlying5 g 0 n n fs hn (fun i hi => by rw [Nat.zero_add, o.cell i (by omega)]) 9 Tryz.underlying9
end Go.Proofs.YtaoaniigbooihaaGreatDoor

namespace Go.Proofs.YtaoaniigbooihaaGreatDoor
open Go Go.RowKit Go.Deep Go.Shelf

theorem SB.far {w0 wk : World} {bx g o : Nat} {V F W P : Int} {v : Value} (h : SB w0 bx V F W P wk) (hg : w0.heap.size ≤ g) (hb : g ≠ bx) : SB w0 bx V F W P (wk.setCell ⟨g, o, none⟩ v) :=
  ⟨h.bel.setCell (p := ⟨g, o, none⟩) hg _, h.box.far hb⟩

set_option maxRecDepth 100000 in
set_option maxHeartbeats 8000000 in
theorem pads_law (V F W P d : Int) (w : World) (hT : Tab w) (v0 : 0 ≤ V) (v1 : V < 256) (h0 : 0 ≤ d) (h1 : d < 18446744073709551616) :
    Calls Tryz.prog 8 #[.agg #[.int .u8 V, .int .i64 F, .int .i64 W, .int .i64 P], .int .u64 d] w fun e w' => e = .returned (.bool true) ∧ Below w.heap.size w w' := by
  have B0 := hid (SB.new w V F W P)
  have TB : Hid (∀ wk, Below w.heap.size w wk → Tab wk) := fun wk k => hT.below k
  have AW := hid (fun wk (k : Tab wk) => pawake_any wk k)
  have RN := hid (fun wk (k : Tab wk) => render_any V F W P d wk k v0 v1 h0 h1)
  have WR := hid (fun wk => pwrong_any V F W P wk)
  have FN := hid (fun wk => plfin_any d wk h0 h1)
  unfold RenTold at RN
  have K0 := hid (TB.out _ B0.out.bel)
  by_cases hE : Po.renE V F W P = 0
  · obtain ⟨-, hc⟩ := Po.renE_ok hE
    obtain ⟨⟨f0, f1⟩, ⟨w0, w1⟩, ⟨p0, p1⟩⟩ := Wh.chk_ok hc
    obtain ⟨b17, b1, ⟨g0, g1⟩, q2, q4, q8⟩ := Po.bits_pads f0 f1
    obtain ⟨L, hL, l1, l2, e1, e2, e3, e4⟩ := Po.pads_eq (d := d) hE
    obtain ⟨x, hx, xb, xc⟩ := Po.pads_head (V := V) (F := F) (d := d) p0 p1
    obtain ⟨F', hF'⟩ : ∃ F', bits .andNot .i64 F 16 = F' := ⟨_, rfl⟩
    rw [hF'] at g0 g1 q2 q4 q8
    have hE2 : Po.renE V F' 0 P = 0 := by
      obtain ⟨a, -⟩ := Po.renE_ok hE
      unfold Po.renE
      rw [if_pos a]
      exact Wh.chk_of ⟨⟨g0, g1⟩, by omega, ⟨p0, p1⟩⟩
    have RN2 : Hid (∀ wk, Tab wk → Calls Tryz.prog 12 #[.agg #[.int .u8 V, .int .i64 F', .int .i64 0, .int .i64 P], .int .u64 d] wk fun e w' => e = .returned (.tuple #[.string (strOfNums (Wh.sgn F (Po.ng d) ++ Po.tb V F P d)), .int .i64 0]) ∧ Below wk.heap.size wk w') := by
      intro wk k
      refine (render_any V F' 0 P d wk k v0 v1 h0 h1).mono ?_
      rintro e w' ⟨rfl, b⟩
      rw [hE2, Po.ren_pad hE2, Wh.padT_zero, Po.sgn_bit _ q2 q4, Po.tb_bit q8]
      exact ⟨rfl, b⟩
    have UB : Wh.By (Wh.sgn F (Po.ng d) ++ Po.tb V F P d) := (Wh.sgn_by _ _).app (Po.tb_ok p0 p1).1
    have U0 : ∀ h : 0 < (strOfNums (Wh.sgn F (Po.ng d) ++ Po.tb V F P d)).size, (((strOfNums (Wh.sgn F (Po.ng d) ++ Po.tb V F P d))[0]'h).toNat : Int) = x := fun h => by rw [(Str.of_nums UB).at 0 h, ← hx]
    have us : (strOfNums (Wh.sgn F (Po.ng d) ++ Po.tb V F P d)).size = L := by rw [strOfNums_size, hL]
    have XT : Hid ((strOfNums (Wh.sgn F (Po.ng d) ++ Po.tb V F P d)).extract 0 (Wh.sgn F (Po.ng d)).length = strOfNums ((Wh.sgn F (Po.ng d) ++ Po.tb V F P d).take (Wh.sgn F (Po.ng d)).length)) := ext_head UB _
    have XD : Hid ((strOfNums (Wh.sgn F (Po.ng d) ++ Po.tb V F P d)).extract (Wh.sgn F (Po.ng d)).length L = strOfNums ((Wh.sgn F (Po.ng d) ++ Po.tb V F P d).drop (Wh.sgn F (Po.ng d)).length)) := by
      have q := ext_tail UB (Wh.sgn F (Po.ng d)).length
      rw [hL] at q
      exact q
    have UT : Wh.By ((Wh.sgn F (Po.ng d) ++ Po.tb V F P d).take (Wh.sgn F (Po.ng d)).length) := UB.take _
    have UD : Wh.By ((Wh.sgn F (Po.ng d) ++ Po.tb V F P d).drop (Wh.sgn F (Po.ng d)).length) := fun y hy => UB y (List.mem_of_mem_drop hy)
    rw [hE] at RN WR
    have hF16 := hF'
    clear hT v0 v1 h0 h1 hc f0 f1 g0 g1 q2 q4 q8 hE2 hF' hx hL hE
    replace e1 := hid e1
    replace e2 := hid e2
    replace e3 := hid e3
    replace e4 := hid e4
    generalize (Wh.sgn F (Po.ng d)).length = hd at *
    generalize (Wh.sgn F (Po.ng d) ++ Po.tb V F P d).take hd = UT' at *
    generalize (Wh.sgn F (Po.ng d) ++ Po.tb V F P d).drop hd = UD' at *
    generalize Wh.sgn F (Po.ng d) ++ Po.tb V F P d = U at *
    generalize Po.ren V F W P d = T at *
    generalize Ie.fnt d = fd at *
    have li : (L : Int) ≤ 20001 := by omega
    have l1i : (1 : Int) ≤ (L : Int) := by omega
    by_cases hn : W - (L : Int) ≤ 0
    · have hTU := e1.out hn
      subst hTU
      clear e1 e2 e3 e4 XT XD UT UD UB xb xc U0 b17 b1 p0 p1 FN
      generalize strOfNums T = ts at *
      go_enter Tryz.func8, Tryz.ntmps8
      go_wp2_with fail
      with_reducible refine (AW.out _ K0.out).mono ?_
      rintro e w1 ⟨rfl, b1⟩
      have B1 := hid (B0.out.on b1)
      have K1 := hid (TB.out _ B1.out.bel)
      clear b1 B0 K0
      obtain ⟨c0, c1, c2, c3⟩ := B1.out.flat
      go_wp2_with fail
      with_reducible refine (RN.out _ K1.out).mono ?_
      rintro e w2 ⟨rfl, b2⟩
      have B2 := hid (B1.out.on b2)
      have K2 := hid (TB.out _ B2.out.bel)
      clear b2 B1 K1 c0 c1 c2 c3
      obtain ⟨c0, c1, c2, c3⟩ := B2.out.flat
      go_wp2_with fail
      with_reducible refine (WR.out _).mono ?_
      rintro e w3 ⟨rfl, b3⟩
      have B3 := hid (B2.out.on b3)
      have K3 := hid (TB.out _ B3.out.bel)
      clear b3 B2 K2 c0 c1 c2 c3
      obtain ⟨c0, c1, c2, c3⟩ := B3.out.flat
      go_wp2_with fail
      with_reducible refine (RN2.out _ K3.out).mono ?_
      rintro e w4 ⟨rfl, b4⟩
      have B4 := hid (B3.out.on b4)
      clear b4 B3 K3 c0 c1 c2 c3
      obtain ⟨c0, c1, c2, c3⟩ := B4.out.flat
      go_wp2_with fail
      go_ret
      exact ⟨rfl, B4.out.bel⟩
    · obtain ⟨n, hnn⟩ : ∃ n : Nat, W - (L : Int) = (n : Int) := ⟨(W - L).toNat, by omega⟩
      have n0 : 0 < n := by omega
      have n1 : n ≤ 4096 := by omega
      have n1i : (n : Int) ≤ 4096 := by omega
      have n0i : ¬ (n : Int) ≤ 0 := by omega
      rw [hnn] at e2 e3 e4
      have MK := make8 n (by omega)
      rw [made_zero8] at MK
      have SU := hid (Str.of_nums UB)
      have ST := hid (Str.of_nums UT)
      have SD := hid (Str.of_nums UD)
      have ut0 := strOfNums_size UT'
      have ud0 := strOfNums_size UD'
      have hdL : (hd : Int) ≤ 1 := by omega
      have u0 := (Str.of_nums UT).size
      have HX : Hid (∃ hz : Bool, (x = 45 ∧ hz = true ∨ x = 43 ∧ hz = true ∨ x = 32 ∧ hz = true ∨ 48 ≤ x ∧ hz = false) ∧ (hz = true → (hd : Int) = 1) ∧ (hz = false → (hd : Int) = 0)) := by
        rcases xc with ⟨q, r⟩ | ⟨q, r⟩ | ⟨q, r⟩ | ⟨q, r⟩
        · exact ⟨true, .inl ⟨q, rfl⟩, fun _ => by omega, fun k => by cases k⟩
        · exact ⟨true, .inr (.inl ⟨q, rfl⟩), fun _ => by omega, fun k => by cases k⟩
        · exact ⟨true, .inr (.inr (.inl ⟨q, rfl⟩)), fun _ => by omega, fun k => by cases k⟩
        · exact ⟨false, .inr (.inr (.inr ⟨q, rfl⟩)), (fun k => by cases k), fun _ => by omega⟩
      obtain ⟨hz, HDC, HL1, HL2⟩ := HX.out
      replace HL1 := hid HL1
      replace HL2 := hid HL2
      clear e1 hn UT UD UB ut0 ud0 HX xc xb u0
      cases hb1 : Wh.bit F 1 with
      | true =>
        rw [hb1] at b17 b1 e2 e3 e4
        rw [show (Wh.bit F 16 && !true) = false by simp] at b17
        have Z0 : List.replicate n (0 : Int) = Po.fl 32 n 0 := by simp [Po.fl]
        rw [Z0] at MK
        have EQ : strOfNums U ++ strOfNums (Wh.rep 32 (n : Int)) = strOfNums T := by rw [str_is (SU.out.app (Str.of_nums (Wh.By.rep (c := 32) (n := (n : Int)) (by omega))))]; rw [e2.out rfl]
        clear e2 e3 e4 XT XD SU ST SD Z0
        generalize strOfNums U = us at *
        generalize strOfNums T = ts at *
        go_enter Tryz.func8, Tryz.ntmps8
        go_wp2_with fail
        with_reducible refine (AW.out _ K0.out).mono ?_
        rintro e w1 ⟨rfl, b1'⟩
        have B1 := hid (B0.out.on b1')
        have K1 := hid (TB.out _ B1.out.bel)
        clear b1' B0 K0
        obtain ⟨c0, c1, c2, c3⟩ := B1.out.flat
        go_wp2_with fail
        with_reducible refine (RN.out _ K1.out).mono ?_
        rintro e w2 ⟨rfl, b2⟩
        have B2 := hid (B1.out.on b2)
        have K2 := hid (TB.out _ B2.out.bel)
        clear b2 B1 K1 c0 c1 c2 c3
        obtain ⟨c0, c1, c2, c3⟩ := B2.out.flat
        go_wp2_with fail
        with_reducible refine (WR.out _).mono ?_
        rintro e w3 ⟨rfl, b3⟩
        have B3 := hid (B2.out.on b3)
        have K3 := hid (TB.out _ B3.out.bel)
        clear b3 B2 K2 c0 c1 c2 c3
        obtain ⟨c0, c1, c2, c3⟩ := B3.out.flat
        go_wp2_with fail
        with_reducible refine (RN2.out _ K3.out).mono ?_
        rintro e w4 ⟨rfl, b4⟩
        have B4 := hid (B3.out.on b4)
        clear b4 B3 K3 c0 c1 c2 c3
        obtain ⟨c0, c1, c2, c3⟩ := B4.out.flat
        go_upto_region 15 with fail
        go_cut [81] (fun b wx => b = .bool hz ∧ wx = w4)
        case first =>
          rcases HDC with ⟨rfl, rfl⟩ | ⟨rfl, rfl⟩ | ⟨rfl, rfl⟩ | ⟨h48, rfl⟩
          · go_wp2_with fail
            go_meet
            exact ⟨rfl, rfl⟩
          · go_wp2_with fail
            go_meet
            exact ⟨rfl, rfl⟩
          · go_wp2_with fail
            go_meet
            exact ⟨rfl, rfl⟩
          · have k1 : (x == 45) = false := by rw [beq_eq_false_iff_ne]; omega
            have k2 : (x == 43) = false := by rw [beq_eq_false_iff_ne]; omega
            have k3 : (x == 32) = false := by rw [beq_eq_false_iff_ne]; omega
            go_wp2_with fail
            go_meet
            exact ⟨rfl, rfl⟩
        case rest =>
        obtain ⟨h81, hwc⟩ := hcut
        subst h81
        have hwc := hwc.symm
        subst hwc
        clear HDC U0
        obtain ⟨c0, c1, c2, c3⟩ := B4.out.flat
        go_upto_if 81 with fail
        go_cut [12] (fun h wx => h = .int .i64 (hd : Int) ∧ wx = w4)
        case first =>
          cases hbv : hz with
          | true =>
            have e1 := HL1.out hbv
            go_wp2_with fail
            go_meet
            exact ⟨by rw [e1], rfl⟩
          | false =>
            have e1 := HL2.out hbv
            go_wp2_with fail
            go_meet
            exact ⟨by rw [e1], rfl⟩
        case rest =>
        obtain ⟨h12, hwc⟩ := hcut
        subst h12
        have hwc := hwc.symm
        subst hwc
        clear HL1 HL2
        go_wp2_with fail
        generalize hG : w4.heap.size = G at *
        have gw : w.heap.size < G := by rw [← hG]; exact B4.out.box.lt
        have A0 := hid (OwnB.alloc w4 (Po.fl 32 n 0))
        rw [hG] at A0
        have D0 := hid (B4.out.on (alloc_b w4 (.cells ((Po.fl 32 n 0).map (Value.int .u8)).toArray 5)))
        go_loopg [14] n (fun k i wr => ∃ j : Nat, j + k = n ∧ i = .int .i64 j ∧ Hid (OwnB wr G (Po.fl 32 n j) ∧ SB w w.heap.size V F W P wr))
        case atStart => exact ⟨0, by omega, rfl, A0.out, D0.out⟩
        case round =>
          obtain ⟨j, hj, rfl, I⟩ := hrel
          clear A0 D0 c0 c1 c2 c3
          by_cases hjl : j < n
          · have hji : (j : Int) < (n : Int) := by omega
            have o := I.out.1
            have cl := o.cell j (by rw [Po.fl_len (by omega)]; omega)
            have fl := o.free j
            have J1 := hid (And.intro (o.set j 32) (I.out.2.far (g := G) (o := j) (v := .int .u8 32) (by omega) (by omega)))
            clear o
            go_upto_region 22 with fail
            clear cl fl
            generalize wr.setCell ⟨G, j, none⟩ (.int .u8 32) = wa at *
            obtain ⟨c0, c1, c2, c3⟩ := J1.out.2.flat
            rw [Po.fl_one hjl] at J1
            clear I
            go_wp2_with (go_at_call 14; refine (FN.out _).mono ?_; rintro e w' ⟨rfl, hw⟩; rw [hw]; clear hw w')
            go_roundg (n - (j + 1))
            case measure => omega
            case rel => exact ⟨j + 1, by omega, by go_num, J1.out⟩
          · have hje : j = n := by omega
            have hji : ¬ (j : Int) < (n : Int) := by omega
            have O := hid I.out.1
            have S := hid I.out.2
            rw [hje, Po.fl_end] at O
            clear I hj hje
            obtain ⟨c0, c1, c2, c3⟩ := S.out.flat
            have CV := ownb_str O.out (show (Wh.rep 32 (n : Int)).length = n by rw [Wh.rep_len]; omega)
            have CV2 : ∀ q, (convert 47 9 (.slice (some ⟨G, 0, none⟩) n n)).run Tryz.prog (wr.drewN q) = .ok (.string (strOfNums (Wh.rep 32 (n : Int)))) (wr.drewN q) := fun q => ownb_str (O.out.drewN q) (show (Wh.rep 32 (n : Int)).length = n by rw [Wh.rep_len]; omega)
            have cz := O.out.cell 0 (by rw [Wh.rep_len]; omega)
            rw [show (Wh.rep 32 (n : Int)).getD 0 0 = 32 by rw [Wh.rep, Int.toNat_natCast]; obtain ⟨m, rfl⟩ : ∃ m, n = m + 1 := ⟨n - 1, by omega⟩; rfl] at cz
            have fz : ((strOfNums (Wh.rep 32 (n : Int))).size : Int) ≤ 4096 := by rw [strOfNums_size, Wh.rep_len]; omega
            generalize strOfNums (Wh.rep 32 (n : Int)) = fs at *
            have SBB := hid S.out.bel
            go_wp2_with fail
            go_ret
            exact ⟨rfl, SBB.out⟩
      | false =>
        rw [hb1] at b17 b1 e2 e3 e4
        rw [show (Wh.bit F 16 && !false) = Wh.bit F 16 by simp] at b17
        cases hb16 : Wh.bit F 16 with
        | true =>
          rw [hb16] at b17 e3 e4
          cases fd with
          | true =>
            have Z0 : List.replicate n (0 : Int) = Po.fl 48 n 0 := by simp [Po.fl]
            rw [Z0] at MK
            have EQ : (strOfNums U).extract 0 hd ++ strOfNums (Wh.rep 48 (n : Int)) ++ (strOfNums U).extract hd L = strOfNums T := by rw [XT.out, XD.out, str_is ((ST.out.app (Str.of_nums (Wh.By.rep (c := 48) (n := (n : Int)) (by omega)))).app SD.out)]; rw [e3.out rfl rfl rfl]
            have hdl : (hd : Int) ≤ (L : Int) := by omega
            clear e2 e3 e4 XT XD SU ST SD Z0
            generalize strOfNums U = us at *
            generalize strOfNums T = ts at *
            go_enter Tryz.func8, Tryz.ntmps8
            go_wp2_with fail
            with_reducible refine (AW.out _ K0.out).mono ?_
            rintro e w1 ⟨rfl, b1'⟩
            have B1 := hid (B0.out.on b1')
            have K1 := hid (TB.out _ B1.out.bel)
            clear b1' B0 K0
            obtain ⟨c0, c1, c2, c3⟩ := B1.out.flat
            go_wp2_with fail
            with_reducible refine (RN.out _ K1.out).mono ?_
            rintro e w2 ⟨rfl, b2⟩
            have B2 := hid (B1.out.on b2)
            have K2 := hid (TB.out _ B2.out.bel)
            clear b2 B1 K1 c0 c1 c2 c3
            obtain ⟨c0, c1, c2, c3⟩ := B2.out.flat
            go_wp2_with fail
            with_reducible refine (WR.out _).mono ?_
            rintro e w3 ⟨rfl, b3⟩
            have B3 := hid (B2.out.on b3)
            have K3 := hid (TB.out _ B3.out.bel)
            clear b3 B2 K2 c0 c1 c2 c3
            obtain ⟨c0, c1, c2, c3⟩ := B3.out.flat
            go_wp2_with fail
            with_reducible refine (RN2.out _ K3.out).mono ?_
            rintro e w4 ⟨rfl, b4⟩
            have B4 := hid (B3.out.on b4)
            clear b4 B3 K3 c0 c1 c2 c3
            obtain ⟨c0, c1, c2, c3⟩ := B4.out.flat
            go_upto_region 15 with fail
            go_cut [81] (fun b wx => b = .bool hz ∧ wx = w4)
            case first =>
              rcases HDC with ⟨rfl, rfl⟩ | ⟨rfl, rfl⟩ | ⟨rfl, rfl⟩ | ⟨h48, rfl⟩
              · go_wp2_with fail
                go_meet
                exact ⟨rfl, rfl⟩
              · go_wp2_with fail
                go_meet
                exact ⟨rfl, rfl⟩
              · go_wp2_with fail
                go_meet
                exact ⟨rfl, rfl⟩
              · have k1 : (x == 45) = false := by rw [beq_eq_false_iff_ne]; omega
                have k2 : (x == 43) = false := by rw [beq_eq_false_iff_ne]; omega
                have k3 : (x == 32) = false := by rw [beq_eq_false_iff_ne]; omega
                go_wp2_with fail
                go_meet
                exact ⟨rfl, rfl⟩
            case rest =>
            obtain ⟨h81, hwc⟩ := hcut
            subst h81
            have hwc := hwc.symm
            subst hwc
            clear HDC U0
            obtain ⟨c0, c1, c2, c3⟩ := B4.out.flat
            go_upto_if 81 with fail
            go_cut [12] (fun h wx => h = .int .i64 (hd : Int) ∧ wx = w4)
            case first =>
              cases hbv : hz with
              | true =>
                have e1 := HL1.out hbv
                go_wp2_with fail
                go_meet
                exact ⟨by rw [e1], rfl⟩
              | false =>
                have e1 := HL2.out hbv
                go_wp2_with fail
                go_meet
                exact ⟨by rw [e1], rfl⟩
            case rest =>
            obtain ⟨h12, hwc⟩ := hcut
            subst h12
            have hwc := hwc.symm
            subst hwc
            clear HL1 HL2
            go_wp2_with fail
            generalize hG : w4.heap.size = G at *
            have gw : w.heap.size < G := by rw [← hG]; exact B4.out.box.lt
            have A0 := hid (OwnB.alloc w4 (Po.fl 48 n 0))
            rw [hG] at A0
            have D0 := hid (B4.out.on (alloc_b w4 (.cells ((Po.fl 48 n 0).map (Value.int .u8)).toArray 5)))
            go_loopg [14] n (fun k i wr => ∃ j : Nat, j + k = n ∧ i = .int .i64 j ∧ Hid (OwnB wr G (Po.fl 48 n j) ∧ SB w w.heap.size V F W P wr))
            case atStart => exact ⟨0, by omega, rfl, A0.out, D0.out⟩
            case round =>
              obtain ⟨j, hj, rfl, I⟩ := hrel
              clear A0 D0 c0 c1 c2 c3
              by_cases hjl : j < n
              · have hji : (j : Int) < (n : Int) := by omega
                have o := I.out.1
                have cl := o.cell j (by rw [Po.fl_len (by omega)]; omega)
                have fl := o.free j
                have J1 := hid (And.intro (o.set j 32) (I.out.2.far (g := G) (o := j) (v := .int .u8 32) (by omega) (by omega)))
                clear o
                go_upto_region 22 with fail
                clear cl fl
                generalize wr.setCell ⟨G, j, none⟩ (.int .u8 32) = wa at *
                obtain ⟨c0, c1, c2, c3⟩ := J1.out.2.flat
                have cl := J1.out.1.cell j (by rw [List.length_set, Po.fl_len (by omega)]; omega)
                have fl := J1.out.1.free j
                have J2 := hid (And.intro (J1.out.1.set j 48) (J1.out.2.far (g := G) (o := j) (v := .int .u8 48) (by omega) (by omega)))
                rw [Po.fl_two hjl] at J2
                clear I J1
                go_wp2_with (go_at_call 14; refine (FN.out _).mono ?_; rintro e w' ⟨rfl, hw⟩; rw [hw]; clear hw w')
                go_roundg (n - (j + 1))
                case measure => omega
                case rel => exact ⟨j + 1, by omega, by go_num, J2.out⟩
              · have hje : j = n := by omega
                have hji : ¬ (j : Int) < (n : Int) := by omega
                have O := hid I.out.1
                have S := hid I.out.2
                rw [hje, Po.fl_end] at O
                clear I hj hje
                obtain ⟨c0, c1, c2, c3⟩ := S.out.flat
                have CV := ownb_str O.out (show (Wh.rep 48 (n : Int)).length = n by rw [Wh.rep_len]; omega)
                have CV2 : ∀ q, (convert 47 9 (.slice (some ⟨G, 0, none⟩) n n)).run Tryz.prog (wr.drewN q) = .ok (.string (strOfNums (Wh.rep 48 (n : Int)))) (wr.drewN q) := fun q => ownb_str (O.out.drewN q) (show (Wh.rep 48 (n : Int)).length = n by rw [Wh.rep_len]; omega)
                have cz := O.out.cell 0 (by rw [Wh.rep_len]; omega)
                rw [show (Wh.rep 48 (n : Int)).getD 0 0 = 48 by rw [Wh.rep, Int.toNat_natCast]; obtain ⟨m, rfl⟩ : ∃ m, n = m + 1 := ⟨n - 1, by omega⟩; rfl] at cz
                have fz : ((strOfNums (Wh.rep 48 (n : Int))).size : Int) ≤ 4096 := by rw [strOfNums_size, Wh.rep_len]; omega
                generalize strOfNums (Wh.rep 48 (n : Int)) = fs at *
                have SBB := hid S.out.bel
                go_upto_region 27 with fail
                have SB2 : Hid (∀ q, Below w.heap.size w (wr.drewN q)) := fun q => below_drewN SBB.out q
                go_quiet (fail)
                go_wp2_with fail
                go_ret
                exact ⟨rfl, SB2.out _⟩
          | false =>
            have Z0 : List.replicate n (0 : Int) = Po.fl 32 n 0 := by simp [Po.fl]
            rw [Z0] at MK
            have EQ : strOfNums (Wh.rep 32 (n : Int)) ++ strOfNums U = strOfNums T := by rw [str_is ((Str.of_nums (Wh.By.rep (c := 32) (n := (n : Int)) (by omega))).app SU.out)]; rw [e4.out rfl (.inr rfl)]
            clear e2 e3 e4 XT XD SU ST SD Z0
            generalize strOfNums U = us at *
            generalize strOfNums T = ts at *
            go_enter Tryz.func8, Tryz.ntmps8
            go_wp2_with fail
            with_reducible refine (AW.out _ K0.out).mono ?_
            rintro e w1 ⟨rfl, b1'⟩
            have B1 := hid (B0.out.on b1')
            have K1 := hid (TB.out _ B1.out.bel)
            clear b1' B0 K0
            obtain ⟨c0, c1, c2, c3⟩ := B1.out.flat
            go_wp2_with fail
            with_reducible refine (RN.out _ K1.out).mono ?_
            rintro e w2 ⟨rfl, b2⟩
            have B2 := hid (B1.out.on b2)
            have K2 := hid (TB.out _ B2.out.bel)
            clear b2 B1 K1 c0 c1 c2 c3
            obtain ⟨c0, c1, c2, c3⟩ := B2.out.flat
            go_wp2_with fail
            with_reducible refine (WR.out _).mono ?_
            rintro e w3 ⟨rfl, b3⟩
            have B3 := hid (B2.out.on b3)
            have K3 := hid (TB.out _ B3.out.bel)
            clear b3 B2 K2 c0 c1 c2 c3
            obtain ⟨c0, c1, c2, c3⟩ := B3.out.flat
            go_wp2_with fail
            with_reducible refine (RN2.out _ K3.out).mono ?_
            rintro e w4 ⟨rfl, b4⟩
            have B4 := hid (B3.out.on b4)
            clear b4 B3 K3 c0 c1 c2 c3
            obtain ⟨c0, c1, c2, c3⟩ := B4.out.flat
            go_upto_region 15 with fail
            go_cut [81] (fun b wx => b = .bool hz ∧ wx = w4)
            case first =>
              rcases HDC with ⟨rfl, rfl⟩ | ⟨rfl, rfl⟩ | ⟨rfl, rfl⟩ | ⟨h48, rfl⟩
              · go_wp2_with fail
                go_meet
                exact ⟨rfl, rfl⟩
              · go_wp2_with fail
                go_meet
                exact ⟨rfl, rfl⟩
              · go_wp2_with fail
                go_meet
                exact ⟨rfl, rfl⟩
              · have k1 : (x == 45) = false := by rw [beq_eq_false_iff_ne]; omega
                have k2 : (x == 43) = false := by rw [beq_eq_false_iff_ne]; omega
                have k3 : (x == 32) = false := by rw [beq_eq_false_iff_ne]; omega
                go_wp2_with fail
                go_meet
                exact ⟨rfl, rfl⟩
            case rest =>
            obtain ⟨h81, hwc⟩ := hcut
            subst h81
            have hwc := hwc.symm
            subst hwc
            clear HDC U0
            obtain ⟨c0, c1, c2, c3⟩ := B4.out.flat
            go_upto_if 81 with fail
            go_cut [12] (fun h wx => h = .int .i64 (hd : Int) ∧ wx = w4)
            case first =>
              cases hbv : hz with
              | true =>
                have e1 := HL1.out hbv
                go_wp2_with fail
                go_meet
                exact ⟨by rw [e1], rfl⟩
              | false =>
                have e1 := HL2.out hbv
                go_wp2_with fail
                go_meet
                exact ⟨by rw [e1], rfl⟩
            case rest =>
            obtain ⟨h12, hwc⟩ := hcut
            subst h12
            have hwc := hwc.symm
            subst hwc
            clear HL1 HL2
            go_wp2_with fail
            generalize hG : w4.heap.size = G at *
            have gw : w.heap.size < G := by rw [← hG]; exact B4.out.box.lt
            have A0 := hid (OwnB.alloc w4 (Po.fl 32 n 0))
            rw [hG] at A0
            have D0 := hid (B4.out.on (alloc_b w4 (.cells ((Po.fl 32 n 0).map (Value.int .u8)).toArray 5)))
            go_loopg [14] n (fun k i wr => ∃ j : Nat, j + k = n ∧ i = .int .i64 j ∧ Hid (OwnB wr G (Po.fl 32 n j) ∧ SB w w.heap.size V F W P wr))
            case atStart => exact ⟨0, by omega, rfl, A0.out, D0.out⟩
            case round =>
              obtain ⟨j, hj, rfl, I⟩ := hrel
              clear A0 D0 c0 c1 c2 c3
              by_cases hjl : j < n
              · have hji : (j : Int) < (n : Int) := by omega
                have o := I.out.1
                have cl := o.cell j (by rw [Po.fl_len (by omega)]; omega)
                have fl := o.free j
                have J1 := hid (And.intro (o.set j 32) (I.out.2.far (g := G) (o := j) (v := .int .u8 32) (by omega) (by omega)))
                clear o
                go_upto_region 22 with fail
                clear cl fl
                generalize wr.setCell ⟨G, j, none⟩ (.int .u8 32) = wa at *
                obtain ⟨c0, c1, c2, c3⟩ := J1.out.2.flat
                rw [Po.fl_one hjl] at J1
                clear I
                go_wp2_with (go_at_call 14; refine (FN.out _).mono ?_; rintro e w' ⟨rfl, hw⟩; rw [hw]; clear hw w')
                go_roundg (n - (j + 1))
                case measure => omega
                case rel => exact ⟨j + 1, by omega, by go_num, J1.out⟩
              · have hje : j = n := by omega
                have hji : ¬ (j : Int) < (n : Int) := by omega
                have O := hid I.out.1
                have S := hid I.out.2
                rw [hje, Po.fl_end] at O
                clear I hj hje
                obtain ⟨c0, c1, c2, c3⟩ := S.out.flat
                have CV := ownb_str O.out (show (Wh.rep 32 (n : Int)).length = n by rw [Wh.rep_len]; omega)
                have CV2 : ∀ q, (convert 47 9 (.slice (some ⟨G, 0, none⟩) n n)).run Tryz.prog (wr.drewN q) = .ok (.string (strOfNums (Wh.rep 32 (n : Int)))) (wr.drewN q) := fun q => ownb_str (O.out.drewN q) (show (Wh.rep 32 (n : Int)).length = n by rw [Wh.rep_len]; omega)
                have cz := O.out.cell 0 (by rw [Wh.rep_len]; omega)
                rw [show (Wh.rep 32 (n : Int)).getD 0 0 = 32 by rw [Wh.rep, Int.toNat_natCast]; obtain ⟨m, rfl⟩ : ∃ m, n = m + 1 := ⟨n - 1, by omega⟩; rfl] at cz
                have fz : ((strOfNums (Wh.rep 32 (n : Int))).size : Int) ≤ 4096 := by rw [strOfNums_size, Wh.rep_len]; omega
                generalize strOfNums (Wh.rep 32 (n : Int)) = fs at *
                have SBB := hid S.out.bel
                go_wp2_with fail
                go_ret
                exact ⟨rfl, SBB.out⟩
        | false =>
          rw [hb16] at b17 e3 e4
          have Z0 : List.replicate n (0 : Int) = Po.fl 32 n 0 := by simp [Po.fl]
          rw [Z0] at MK
          have EQ : strOfNums (Wh.rep 32 (n : Int)) ++ strOfNums U = strOfNums T := by rw [str_is ((Str.of_nums (Wh.By.rep (c := 32) (n := (n : Int)) (by omega))).app SU.out)]; rw [e4.out rfl (.inl rfl)]
          clear e2 e3 e4 XT XD SU ST SD Z0
          generalize strOfNums U = us at *
          generalize strOfNums T = ts at *
          go_enter Tryz.func8, Tryz.ntmps8
          go_wp2_with fail
          with_reducible refine (AW.out _ K0.out).mono ?_
          rintro e w1 ⟨rfl, b1'⟩
          have B1 := hid (B0.out.on b1')
          have K1 := hid (TB.out _ B1.out.bel)
          clear b1' B0 K0
          obtain ⟨c0, c1, c2, c3⟩ := B1.out.flat
          go_wp2_with fail
          with_reducible refine (RN.out _ K1.out).mono ?_
          rintro e w2 ⟨rfl, b2⟩
          have B2 := hid (B1.out.on b2)
          have K2 := hid (TB.out _ B2.out.bel)
          clear b2 B1 K1 c0 c1 c2 c3
          obtain ⟨c0, c1, c2, c3⟩ := B2.out.flat
          go_wp2_with fail
          with_reducible refine (WR.out _).mono ?_
          rintro e w3 ⟨rfl, b3⟩
          have B3 := hid (B2.out.on b3)
          have K3 := hid (TB.out _ B3.out.bel)
          clear b3 B2 K2 c0 c1 c2 c3
          obtain ⟨c0, c1, c2, c3⟩ := B3.out.flat
          go_wp2_with fail
          with_reducible refine (RN2.out _ K3.out).mono ?_
          rintro e w4 ⟨rfl, b4⟩
          have B4 := hid (B3.out.on b4)
          clear b4 B3 K3 c0 c1 c2 c3
          obtain ⟨c0, c1, c2, c3⟩ := B4.out.flat
          go_upto_region 15 with fail
          go_cut [81] (fun b wx => b = .bool hz ∧ wx = w4)
          case first =>
            rcases HDC with ⟨rfl, rfl⟩ | ⟨rfl, rfl⟩ | ⟨rfl, rfl⟩ | ⟨h48, rfl⟩
            · go_wp2_with fail
              go_meet
              exact ⟨rfl, rfl⟩
            · go_wp2_with fail
              go_meet
              exact ⟨rfl, rfl⟩
            · go_wp2_with fail
              go_meet
              exact ⟨rfl, rfl⟩
            · have k1 : (x == 45) = false := by rw [beq_eq_false_iff_ne]; omega
              have k2 : (x == 43) = false := by rw [beq_eq_false_iff_ne]; omega
              have k3 : (x == 32) = false := by rw [beq_eq_false_iff_ne]; omega
              go_wp2_with fail
              go_meet
              exact ⟨rfl, rfl⟩
          case rest =>
          obtain ⟨h81, hwc⟩ := hcut
          subst h81
          have hwc := hwc.symm
          subst hwc
          clear HDC U0
          obtain ⟨c0, c1, c2, c3⟩ := B4.out.flat
          go_upto_if 81 with fail
          go_cut [12] (fun h wx => h = .int .i64 (hd : Int) ∧ wx = w4)
          case first =>
            cases hbv : hz with
            | true =>
              have e1 := HL1.out hbv
              go_wp2_with fail
              go_meet
              exact ⟨by rw [e1], rfl⟩
            | false =>
              have e1 := HL2.out hbv
              go_wp2_with fail
              go_meet
              exact ⟨by rw [e1], rfl⟩
          case rest =>
          obtain ⟨h12, hwc⟩ := hcut
          subst h12
          have hwc := hwc.symm
          subst hwc
          clear HL1 HL2
          go_wp2_with fail
          generalize hG : w4.heap.size = G at *
          have gw : w.heap.size < G := by rw [← hG]; exact B4.out.box.lt
          have A0 := hid (OwnB.alloc w4 (Po.fl 32 n 0))
          rw [hG] at A0
          have D0 := hid (B4.out.on (alloc_b w4 (.cells ((Po.fl 32 n 0).map (Value.int .u8)).toArray 5)))
          go_loopg [14] n (fun k i wr => ∃ j : Nat, j + k = n ∧ i = .int .i64 j ∧ Hid (OwnB wr G (Po.fl 32 n j) ∧ SB w w.heap.size V F W P wr))
          case atStart => exact ⟨0, by omega, rfl, A0.out, D0.out⟩
          case round =>
            obtain ⟨j, hj, rfl, I⟩ := hrel
            clear A0 D0 c0 c1 c2 c3
            by_cases hjl : j < n
            · have hji : (j : Int) < (n : Int) := by omega
              have o := I.out.1
              have cl := o.cell j (by rw [Po.fl_len (by omega)]; omega)
              have fl := o.free j
              have J1 := hid (And.intro (o.set j 32) (I.out.2.far (g := G) (o := j) (v := .int .u8 32) (by omega) (by omega)))
              clear o
              go_upto_region 22 with fail
              clear cl fl
              generalize wr.setCell ⟨G, j, none⟩ (.int .u8 32) = wa at *
              obtain ⟨c0, c1, c2, c3⟩ := J1.out.2.flat
              rw [Po.fl_one hjl] at J1
              clear I
              go_wp2_with (go_at_call 14; refine (FN.out _).mono ?_; rintro e w' ⟨rfl, hw⟩; rw [hw]; clear hw w')
              go_roundg (n - (j + 1))
              case measure => omega
              case rel => exact ⟨j + 1, by omega, by go_num, J1.out⟩
            · have hje : j = n := by omega
              have hji : ¬ (j : Int) < (n : Int) := by omega
              have O := hid I.out.1
              have S := hid I.out.2
              rw [hje, Po.fl_end] at O
              clear I hj hje
              obtain ⟨c0, c1, c2, c3⟩ := S.out.flat
              have CV := ownb_str O.out (show (Wh.rep 32 (n : Int)).length = n by rw [Wh.rep_len]; omega)
              have CV2 : ∀ q, (convert 47 9 (.slice (some ⟨G, 0, none⟩) n n)).run Tryz.prog (wr.drewN q) = .ok (.string (strOfNums (Wh.rep 32 (n : Int)))) (wr.drewN q) := fun q => ownb_str (O.out.drewN q) (show (Wh.rep 32 (n : Int)).length = n by rw [Wh.rep_len]; omega)
              have cz := O.out.cell 0 (by rw [Wh.rep_len]; omega)
              rw [show (Wh.rep 32 (n : Int)).getD 0 0 = 32 by rw [Wh.rep, Int.toNat_natCast]; obtain ⟨m, rfl⟩ : ∃ m, n = m + 1 := ⟨n - 1, by omega⟩; rfl] at cz
              have fz : ((strOfNums (Wh.rep 32 (n : Int))).size : Int) ≤ 4096 := by rw [strOfNums_size, Wh.rep_len]; omega
              generalize strOfNums (Wh.rep 32 (n : Int)) = fs at *
              have SBB := hid S.out.bel
              go_wp2_with fail
              go_ret
              exact ⟨rfl, SBB.out⟩
  · have hR : Po.ren V F W P d = [] := by unfold Po.ren; rw [if_neg hE]
    rw [hR, show strOfNums [] = ⟨#[]⟩ from rfl] at RN
    have hne : (Po.renE V F W P == 0) = false := by simpa using hE
    have hne2 : (Po.renE V F W P != 0) = true := by simpa using hE
    clear hE hR hT v0 v1 h0 h1 FN
    generalize Po.renE V F W P = E at *
    go_enter Tryz.func8, Tryz.ntmps8
    go_wp2_with fail
    with_reducible refine (AW.out _ K0.out).mono ?_
    rintro e w1 ⟨rfl, b1⟩
    have B1 := hid (B0.out.on b1)
    have K1 := hid (TB.out _ B1.out.bel)
    clear b1 B0 K0
    obtain ⟨c0, c1, c2, c3⟩ := B1.out.flat
    go_wp2_with fail
    with_reducible refine (RN.out _ K1.out).mono ?_
    rintro e w2 ⟨rfl, b2⟩
    have B2 := hid (B1.out.on b2)
    clear b2 B1 K1 c0 c1 c2 c3
    obtain ⟨c0, c1, c2, c3⟩ := B2.out.flat
    go_wp2_with fail
    with_reducible refine (WR.out _).mono ?_
    rintro e w3 ⟨rfl, b3⟩
    have B3 := hid (B2.out.on b3)
    clear b3 B2 c0 c1 c2 c3
    go_wp2_with fail
    go_ret
    exact ⟨rfl, B3.out.bel⟩
end Go.Proofs.YtaoaniigbooihaaGreatDoor

namespace Go.Proofs.YtaoaniigbooihaaGreatDoor
open Go Go.RowKit Go.Deep

theorem tab_laid : (Rows.laid_math_bits_deBruijn64tab : DataW Unit) = Lib.tabData .u8 (List.map Int.ofNat Lib.deBruijn64tab) := by kernel_rfl

theorem tab_of {W : World} {rest : List (String × DataW Unit)} (h : laidMet Tryz.prog (("math/bits.deBruijn64tab", Rows.laid_math_bits_deBruijn64tab) :: rest) W) : Tab W := by
  rw [tab_laid] at h
  have ht := Lib.tabIs_of_head (g := 0) (t := 139) (e := 5) (n := 64) (k := .u8) (zs := List.map Int.ofNat Lib.deBruijn64tab) (by kernel_rfl) (by kernel_rfl) Tryz.underlying139 Tryz.underlying5 (by kernel_rfl) (by kernel_rfl) h
  intro j hj
  have hl : (List.map Int.ofNat Lib.deBruijn64tab).length = Lib.deBruijn64tab.length := by simp
  rw [ht.cell (g := 0) (by kernel_rfl) j (by omega)]
  simp [List.getD, hj]

end Go.Proofs.YtaoaniigbooihaaGreatDoor

namespace Go.Proofs.YtaoaniigbooihaaGreatDoor
open Go Go.RowKit Go.Deep Go.Shelf

theorem case_laid : Rows.laid_unicode_CaseRanges = Lib.caseData := by kernel_rfl

theorem laidVars_swap {P : Program} {w : World} {x y : String × DataW Unit} : ∀ {l : List (String × DataW Unit)} {ps : List MemPlace}, DataW.LaidVars P w (l ++ [y, x]) ps → ∃ qs, DataW.LaidVars P w (l ++ [x, y]) qs ∧ qs.Perm ps
  | [], ps, h => by
    obtain ⟨x1, x2⟩ := x
    obtain ⟨y1, y2⟩ := y
    obtain ⟨g, t, cs, fuel, p, q, h1, h2, h3, h4, ⟨g', t', cs', fuel', p', q', k1, k2, k3, k4, k5, rfl⟩, rfl⟩ := h
    have k5 : q' = [] := k5
    subst k5
    refine ⟨_, ⟨g', t', cs', fuel', p', _, k1, k2, k3, k4, ⟨g, t, cs, fuel, p, [], h1, h2, h3, h4, rfl, rfl⟩, rfl⟩, ?_⟩
    simp only [List.append_nil]
    exact List.perm_append_comm
  | (n, d) :: l, ps, h => by
    obtain ⟨g, t, cs, fuel, p, q, h1, h2, h3, h4, h5, rfl⟩ := h
    obtain ⟨qs, k1, k2⟩ := laidVars_swap h5
    exact ⟨_, ⟨g, t, cs, fuel, p, qs, h1, h2, h3, h4, k1, rfl⟩, List.Perm.append_left _ k2⟩
theorem laidMet_swap {P : Program} {w : World} {x y : String × DataW Unit} {l : List (String × DataW Unit)} (h : laidMet P (l ++ [y, x]) w) : laidMet P (l ++ [x, y]) w := by
  obtain ⟨ps, h1, h2, h3⟩ := h
  obtain ⟨qs, k1, k2⟩ := laidVars_swap h1
  exact ⟨qs, k1, (k2.nodup_iff).2 h2, fun b off hp => h3 b off (k2.mem_iff.1 hp)⟩
end Go.Proofs.YtaoaniigbooihaaGreatDoor

namespace Go.Proofs.YtaoaniigbooihaaGreatDoor
open Go.RowKit Go.Deep Go.ChangeShapes Go.WideShapes Go.ChangeAt

theorem spc_array {α : Type} {cs : Array α} (h : cs.size = 4) : ∃ c0 c1 c2 c3, cs = #[c0, c1, c2, c3] := by
  obtain ⟨l⟩ := cs
  match l, h with
  | [c0, c1, c2, c3], _ => exact ⟨c0, c1, c2, c3, rfl⟩
theorem spc_list {α : Type} {l : List α} (h : l.length = 4) : ∃ c0 c1 c2 c3, l = [c0, c1, c2, c3] := by
  match l, h with
  | [c0, c1, c2, c3], _ => exact ⟨c0, c1, c2, c3, rfl⟩

set_option maxRecDepth 100000 in
theorem open_spc_cells {H : Type} {enc : TypeId × Value → H} {W : World} {fuel : Nat} {a0 a1 a2 a3 : Value} {x : DataW H × List MemPlace} (hf : DataW.trod enc Tryz.prog W 0 (fun _ => true) true fuel 25 [a0, a1, a2, a3] = some x) :
    ∃ V F D P : Int, a0 = .int .u8 V ∧ a1 = .int .i64 F ∧ a2 = .int .i64 D ∧ a3 = .int .i64 P ∧ (0 ≤ V ∧ V < 256) := by
  obtain ⟨xs, n, _, hx, _, hlen, hfs⟩ := DataW.trod_struct Tryz.underlying25 hf
  obtain ⟨y0, y1, y2, y3, rfl⟩ := spc_list hlen
  have c3 : Tryz.prog.cellsOf 3 = 1 := by kernel_rfl
  have c8 : Tryz.prog.cellsOf 5 = 1 := by kernel_rfl
  have f0 : DataW.trod enc Tryz.prog W 0 (fun _ => true) true n 5 [a0] = some y0 := by simpa [c8] using hfs 0 _ rfl
  have f1 : DataW.trod enc Tryz.prog W 0 (fun _ => true) true n 3 [a1] = some y1 := by simpa [c3] using hfs 1 _ rfl
  have f2 : DataW.trod enc Tryz.prog W 0 (fun _ => true) true n 3 [a2] = some y2 := by simpa [c3] using hfs 2 _ rfl
  have f3 : DataW.trod enc Tryz.prog W 0 (fun _ => true) true n 3 [a3] = some y3 := by simpa [c3] using hfs 3 _ rfl
  obtain ⟨V, e0, _, w0⟩ := DataW.trod_int Tryz.underlying5 f0
  obtain ⟨F, e1, _, w1⟩ := DataW.trod_int Tryz.underlying3 f1
  obtain ⟨D, e2, _, w2⟩ := DataW.trod_int Tryz.underlying3 f2
  obtain ⟨P, e3, _, w3⟩ := DataW.trod_int Tryz.underlying3 f3
  have b0 := bounds_u8 w0
  exact ⟨V, F, D, P, (List.cons.inj e0).1, (List.cons.inj e1).1, (List.cons.inj e2).1, (List.cons.inj e3).1, by omega, by omega⟩

set_option maxRecDepth 100000 in
theorem open_spc {H : Type} {enc : TypeId × Value → H} {W : World} {base : Nat} {v : Value} {d : DataW H} {p : List MemPlace} (hv : Value.okWide Tryz.prog W .any base 25 v) (h : DataW.Trod enc Tryz.prog W 0 (fun _ => true) true 25 v d p) :
    ∃ V F D P : Int, v = .agg #[.int .u8 V, .int .i64 F, .int .i64 D, .int .i64 P] ∧ (0 ≤ V ∧ V < 256) := by
  obtain ⟨cs, rfl, hs3⟩ := okWide_struct Tryz.underlying25 hv
  obtain ⟨a0, a1, a2, a3, rfl⟩ := spc_array (hs3.trans (show Tryz.prog.cellsOf 25 = 4 by kernel_rfl))
  obtain ⟨fuel, hf⟩ := h
  have hf' : DataW.trod enc Tryz.prog W 0 (fun _ => true) true fuel 25 [a0, a1, a2, a3] = some (d, p) := by simpa [Value.cells] using hf
  obtain ⟨V, F, D, P, e0, e1, e2, e3, h1⟩ := open_spc_cells (x := (d, p)) hf'
  rw [e0, e1, e2, e3]
  exact ⟨V, F, D, P, rfl, h1⟩
end Go.Proofs.YtaoaniigbooihaaGreatDoor
