/-
  Texts put together: FRAll, NRaise, NUpward, NClone, NRound, FKp.
-/
import Derived.Test.YtbdbpjghmejfjaaGreatDoorRE
import Derived.Test.YtbdbpjghmejfjaaGreatDoorRF
import Derived.Test.YtbdbpjghmejfjaaGreatDoorZDecA
import Derived.Test.YtbdbpjghmejfjaaGreatDoorRA
import Derived.Deep.LoopGhost
import Derived.Test.YtbdbpjghmejfjaaGreatDoorNTrim
import Derived.Test.YtbdbpjghmejfjaaGreatDoorNStr
import Derived.Shelf.Pu.Clone
import Derived.Test.YtbdbpjghmejfjaaGreatDoorNLimb
import Derived.Test.YtbdbpjghmejfjaaGreatDoorSmallA
import Derived.OwnWalk
namespace Go.Proofs.YtbdbpjghmejfjaaGreatDoor
open Go Go.RowKit Go.Deep

set_option maxRecDepth 100000 in
theorem rabs_any (d : Int) (w : World) (_h0 : 0 ≤ d) (_h1 : d < 18446744073709551616) :
    Calls Tryz.prog 94 #[.int .u64 d] w fun e w' => e = .returned (.int .u64 (d % 9223372036854775808)) ∧ w' = w := by
  go_enter Tryz.func94, Tryz.ntmps94
  go_wp2
  go_ret
  exact ⟨rfl, rfl⟩

set_option maxRecDepth 100000 in
theorem rfinite_any (d : Int) (w : World) (h0 : 0 ≤ d) (h1 : d < 18446744073709551616) :
    Calls Tryz.prog 65 #[.int .u64 d] w fun e w' => e = .returned (.bool (Ie.fnt d)) ∧ w' = w := by
  have A := hid (rabs_any d w h0 h1)
  have E := hid (fnt_abs d)
  generalize d % 9223372036854775808 = a at *
  clear h0 h1
  go_enter Tryz.func65, Tryz.ntmps65
  go_wp2_with fail
  refine A.out.mono ?_
  rintro e w' ⟨rfl, rfl⟩
  go_wp2_with fail
  go_ret
  exact ⟨fretB E.out, rfl⟩

theorem ex_up {m e : Int} {n : Nat} (hn : (n : Int) = e) : m * 2 ^ n * 10 ^ ((0 : Int) + 1074).toNat = m * 2 ^ (e + 1074).toNat * Fx.F5 := by
  have e1 : (e + 1074).toNat = n + 1074 := by omega
  rw [e1, Fx.F5, show ((0 : Int) + 1074).toNat = 1074 from rfl]
  generalize 1074 = z
  rw [show (10 : Int) = 2 * 5 from rfl, Int.mul_pow, Int.pow_add]
  ac_rfl
theorem ex_dn {m e : Int} {n : Nat} (hn : (n : Int) = -e) (he : -1074 ≤ e) : m * 5 ^ n * 10 ^ (e + 1074).toNat = m * 2 ^ (e + 1074).toNat * Fx.F5 := by
  obtain ⟨a, ha⟩ : ∃ a, (e + 1074).toNat = a := ⟨_, rfl⟩
  have e1 : 1074 = n + a := by omega
  rw [ha, Fx.F5, e1, show (10 : Int) = 2 * 5 from rfl, Int.mul_pow, Int.pow_add]
  ac_rfl

theorem told_drew {d : Int} {w w' : World} {e : Ending} (h : AllTold d w e w') : AllTold d w e w'.drew := by
  obtain ⟨s, a, b, c⟩ := h
  exact ⟨s, a, b, below_drewN c 1⟩

set_option maxRecDepth 100000 in
set_option maxHeartbeats 8000000 in
theorem rall_any (d : Int) (w : World) (h0 : 0 ≤ d) (h1 : d < 18446744073709551616) :
    Calls Tryz.prog 43 #[.int .u64 d] w fun e w' => AllTold d w e w' := by
  have FN := hid (fun wx : World => rfinite_any d wx h0 h1)
  have Z := FR3.new w (.bool false) (.string ⟨#[]⟩) (.int .i64 0)
  have ZB := alloc_b w (.cells #[.bool false, .string ⟨#[]⟩, .int .i64 0] 48)
  by_cases hf : Ie.fnt d = true
  · have G : Hid (∀ (w' : World) (s : ByteArray) (ys : List Int) (E : Int), Fx.Ex (Ie.dm d) (Ie.de d) ys E → Str s ys → Below w.heap.size w w' → AllTold d w (.returned (.tuple #[.agg #[.bool (decide (9223372036854775808 ≤ d)), .string s, .int .i64 E], .int .i64 0])) w') := by
      intro w' s ys E hE hs hB
      obtain ⟨a, b⟩ := hE.is (Ie.fdec d (of_decide_eq_true hf)).1
      refine ⟨s, ?_, by rw [Fx.aS, if_pos hf, Fx.X, ← a]; exact hs, hB⟩
      rw [Fx.aN, Fx.aE, Fx.aR, if_pos hf, if_pos hf, hf, Bool.true_and, Fx.P, ← b]
    have DC := hid (fun wx : World => zdecode_any d wx h0 h1)
    obtain ⟨m0, m1, e0, e1, -⟩ := Ie.fdec d (of_decide_eq_true hf)
    have HZ := hid (And.intro Z ZB)
    rw [hf] at FN
    clear Z ZB h0 h1 hf
    simp only [partsOf] at DC
    generalize decide (9223372036854775808 ≤ d) = neg at *
    generalize Ie.dm d = m at *
    generalize Ie.de d = x at *
    generalize Ie.cls d = c at *
    have ZS : Hid (∀ wx : World, Below (w.alloc (.cells #[.bool false, .string ⟨#[]⟩, .int .i64 0] 48)).heap.size (w.alloc (.cells #[.bool false, .string ⟨#[]⟩, .int .i64 0] 48)) wx → FR3 wx w.heap.size (.bool false) (.string ⟨#[]⟩) (.int .i64 0) ∧ Below w.heap.size w wx) :=
      fun wx hB => ⟨HZ.out.1.below hB HZ.out.1.lt, HZ.out.2.trans (hB.mono HZ.out.2.size)⟩
    go_enter Tryz.func43, Tryz.ntmps43
    go_wp2_with fail
    refine (FN.out _).mono ?_
    rintro e wz ⟨rfl, hz⟩
    replace hz := hz.symm
    subst hz
    clear FN
    go_wp2_with fail
    refine (DC.out _).mono ?_
    rintro e w1 ⟨rfl, hB1⟩
    have HB1 := hid hB1
    clear hB1 DC
    go_upto_region 4 with fail
    have hb := HB1.out.trans ((alloc_b w1 (.cells #[.bool neg, .int .i64 c, .int .u64 m, .int .i64 x] 57)).mono HB1.out.size)
    have P := Row4.new w1 57 (.bool neg) (.int .i64 c) (.int .u64 m) (.int .i64 x)
    have ZW := ZS.out _ hb
    obtain ⟨SS, KS, CS, BS, MS⟩ := state (fun w' => (w'.cell? ⟨w1.heap.size, 0, none⟩ = some (.bool neg) ∧ w'.cell? ⟨w1.heap.size, 2, none⟩ = some (.int .u64 m) ∧ w'.cell? ⟨w1.heap.size, 3, none⟩ = some (.int .i64 x)) ∧ FR3 w' w.heap.size (.bool false) (.string ⟨#[]⟩) (.int .i64 0)) w (((Stays.cell _ _).and ((Stays.cell _ _).and (Stays.cell _ _))).and (fun _ _ h hB => h.below hB h.lt))
    have S0 := hid (MS.out _ ⟨⟨P.cells.1.1, P.cells.1.2.2.1, P.cells.1.2.2.2⟩, ZW.1⟩ ZW.2)
    have hbg : w.heap.size < w1.heap.size := by have := HB1.out.size; have := HZ.out.1.lt; omega
    have HBG := hid hbg
    clear P hb HB1 MS ZW ZS HZ hbg
    generalize w1.alloc (.cells #[.bool neg, .int .i64 c, .int .u64 m, .int .i64 x] 57) = wA at *
    generalize w1.heap.size = b at *
    have FIN : Hid (∀ (wx : World) (s : ByteArray) (ys : List Int) (E : Int), SS wx → Fx.Ex m x ys E → Str s ys → AllTold d w (.returned (.tuple #[.agg #[.bool neg, .string s, .int .i64 E], .int .i64 0])) (((wx.setCell ⟨w.heap.size, 0, none⟩ (.bool neg)).setCell ⟨w.heap.size, 1, none⟩ (.string s)).setCell ⟨w.heap.size, 2, none⟩ (.int .i64 E)) ∧ FR3 (((wx.setCell ⟨w.heap.size, 0, none⟩ (.bool neg)).setCell ⟨w.heap.size, 1, none⟩ (.string s)).setCell ⟨w.heap.size, 2, none⟩ (.int .i64 E)) w.heap.size (.bool neg) (.string s) (.int .i64 E)) :=
      fun wx s ys E hS hE hs => ⟨G.out _ s ys E hE hs (fset3_below (BS.out _ hS) (Nat.le_refl _)), (CS.out _ hS).2.put _ _ _⟩
    by_cases hm : m = 0
    · subst hm
      obtain ⟨F1, F2⟩ := FIN.out wA ⟨#[48]⟩ [48] 0 S0.out ⟨by omega, fun _ => ⟨rfl, rfl⟩, fun h => by omega, fun h => by omega⟩ rfl
      have HF1 := hid F1
      have HF2 := hid F2
      obtain ⟨⟨q0, q2, q3⟩, ZR⟩ := CS.out _ S0.out
      obtain ⟨⟨c0, c1, c2⟩, f0, f1, f2⟩ := ZR.cells
      clear F1 F2 FIN G
      go_wp2_with fail
      (try simp only [Exit.inBlock, Exit.then])
      refine bodyPost_ret (fresults_row_tmp rfl _ _ w.heap.size 48 _ (0, 0) _ rfl HF2.out Tryz.underlying48 rfl (by kernel_rfl)) rfl ?_
      exact HF1.out
    · have hm' : (m == 0) = false := by rw [beq_eq_false_iff_ne]; exact hm
      have mp : 0 < m := by omega
      have RO := hid (fun wx : World => rrow_any m wx mp m1)
      have RS : Hid (∀ (wx : World) (p : Option Addr) (cp : Nat) (zs : List Int) (k : Nat) (u : Int), Lies wx p zs → Gf.Rw zs m → zs.length ≤ 20 → k ≤ 2000 → (u = 2 ∨ u = 5) → Calls Tryz.prog 68 #[.slice p (List.length zs) cp, .int .u64 u, .int .i64 (k : Int)] wx fun e w' => RowTold (m * u ^ k) (20 + 11 * k) wx e w') :=
        fun wx p cp zs k u h1 h2 h3 h4 h5 => rraised_any p cp zs m u k 20 wx h1 h2 mp h3 h4 (by omega) (by omega) (by omega)
      have TX : Hid (∀ (wx : World) (p : Option Addr) (cp : Nat) (zs : List Int) (v : Int) (N : Nat), Lies wx p zs → Gf.Rw zs v → 0 < v → zs.length ≤ N → N ≤ 30000 → Calls Tryz.prog 69 #[.slice p (List.length zs) cp] wx fun e w' => ∃ s ts, e = .returned (.string s) ∧ Str s ts ∧ Digs ts ∧ dv ts = v ∧ ts ≠ [] ∧ ts.getD 0 0 ≠ 48 ∧ ts.length ≤ N ∧ Below wx.heap.size wx w') := by
        intro wx p cp zs v N h1 h2 h3 h4 h5
        obtain ⟨a, b, c, e⟩ := h2.tl h3
        have l := Gf.tl_len zs
        refine (rtext_any p cp zs wx h1 h2.dig (by omega) (by rw [← l]; exact List.length_pos_iff.2 c)).mono ?_
        rintro r w' ⟨s, rfl, hs, hB⟩
        exact ⟨s, _, rfl, hs, a, b, c, e, by omega, hB⟩
      have EXE : Hid (∀ (ts : List Int) (k : Nat) (v F : Int), Digs ts → dv ts = v → ts.getD 0 0 ≠ 48 → k ≤ ts.length → (∀ i, k ≤ i → i < ts.length → ts.getD i 0 = 48) → (0 < k → ts.getD (k - 1) 0 ≠ 48) → -1074 ≤ F → v * 10 ^ (F + 1074).toNat = m * 2 ^ (x + 1074).toNat * Fx.F5 → Fx.Ex m x (ts.take k) (F + (ts.length - k))) :=
        fun ts k v F a b c e f g h i => (Fx.ex_of mp a c e f g h (by rw [b]; exact i)).1
      have XB : Hid (-1074 ≤ x ∧ x ≤ 971) := ⟨e0, e1⟩
      have EU : Hid (∀ n : Nat, (n : Int) = x → m * 2 ^ n * 10 ^ ((0 : Int) + 1074).toNat = m * 2 ^ (x + 1074).toNat * Fx.F5) := fun n hn => ex_up hn
      have ED : Hid (∀ n : Nat, (n : Int) = -x → m * 5 ^ n * 10 ^ (x + 1074).toNat = m * 2 ^ (x + 1074).toNat * Fx.F5) := fun n hn => ex_dn hn e0
      have VP : Hid (∀ (u : Int) (n : Nat), 0 < u → 0 < m * u ^ n) := fun u n hu => Int.mul_pos mp (Int.pow_pos hu)
      obtain ⟨⟨q0, q2, q3⟩, -⟩ := CS.out _ S0.out
      clear G hm
      go_wp2_with fail
      refine (RO.out _).mono ?_
      rintro e w2 ⟨p, cp, zs, rfl, L2, R2, N2, B2⟩
      have S2 := hid (KS.out _ _ S0.out B2)
      have HL2 := hid (And.intro L2 (And.intro R2 N2))
      clear L2 R2 N2 B2 S0 RO q0 q2 q3
      obtain ⟨⟨q0, q2, q3⟩, -⟩ := CS.out _ S2.out
      by_cases hx : 0 ≤ x
      · obtain ⟨n, hn⟩ := Int.eq_ofNat_of_zero_le hx
        have R3 := hid (RS.out w2 p cp zs n 2 HL2.out.1 HL2.out.2.1 HL2.out.2.2 (by omega) (.inl rfl))
        have V3 := hid (VP.out 2 n (by omega))
        have E3 := hid (EU.out n hn.symm)
        have nb : (n : Int) ≤ 971 := by omega
        clear RS EU ED VP HL2
        subst hn
        generalize m * 2 ^ n = V at *
        go_wp2_with fail
        refine R3.out.mono ?_
        rintro e w3 ⟨p3, cp3, z3, rfl, L3, RW3, N3, B3⟩
        have S3 := hid (KS.out _ _ S2.out B3)
        have T3 := hid (TX.out w3 p3 cp3 z3 V _ L3 RW3 V3.out N3 (by omega))
        clear L3 RW3 N3 B3 S2 R3 TX q0 q2 q3
        obtain ⟨⟨q0, q2, q3⟩, -⟩ := CS.out _ S3.out
        go_wp2_with fail
        refine T3.out.mono ?_
        rintro e w4 ⟨s, ts, rfl, hs, td, tv, tn, th, tl, B4⟩
        have S4 := hid (KS.out _ _ S3.out B4)
        obtain ⟨L, hL⟩ : ∃ L, ts.length = L := ⟨_, rfl⟩
        have sL : s.size = L := by rw [hs.size, hL]
        have KK : Hid (∀ (wx : World) (k : Nat) (E : Int), SS wx → k ≤ L → (∀ i, k ≤ i → i < L → ts.getD i 0 = 48) → (0 < k → ts.getD (k - 1) 0 ≠ 48) → E = 0 + ((L : Int) - (k : Int)) → _) := fun wx k E hS hk hz hl hE => FIN.out wx (s.extract 0 k) (ts.take k) E hS (by
          rw [hE, ← hL]
          exact EXE.out ts k V (0) td tv th (by omega) (fun i a b => hz i a (by omega)) hl (by omega) E3.out) (by
          have e := hs.extract 0 k
          rw [List.drop_zero, Nat.sub_zero] at e
          exact e)
        have HA : Hid (∀ u, u < L → ∃ y : Int, 48 ≤ y ∧ y ≤ 57 ∧ ts.getD u 0 = y ∧ ∀ h : u < s.size, ((s[u]'h).toNat : Int) = y) := fun u hu => by
          have b := digs_at td u (by omega)
          exact ⟨_, b.1, b.2, rfl, fun h => hs.at u h⟩
        have L0 : 0 < L := by rw [← hL]; exact List.length_pos_iff.2 tn
        have LB : (L : Int) ≤ 30000 := by omega
        have HTH := hid th
        have hbs := HBG.out
        clear hs td tv tn th tl B4 S3 T3 FIN EXE E3 V3 q0 q2 q3 hL
        obtain ⟨⟨q0, q2, q3⟩, -⟩ := CS.out _ S4.out
        go_wp2_with fail
        go_loopg [8] L (fun j v wr => wr = w4 ∧ v = .int .i64 (j : Int) ∧ 0 < j ∧ j ≤ L ∧ Hid (∀ i, j ≤ i → i < L → ts.getD i 0 = 48))
        case atStart => exact ⟨rfl, rfl, L0, Nat.le_refl _, fun i a b => by omega⟩
        case round =>
          obtain ⟨rfl, rfl, hj0, hjL, I⟩ := hrel
          cases gk with
          | zero => omega
          | succ u =>
            obtain ⟨y, y0, y1, hy, hyi⟩ := HA.out u (by omega)
            have u1 : ((u + 1 : Nat) : Int) - 1 = (u : Int) := by omega
            have u2 : (u : Int) + 1 - 1 = (u : Int) := by omega
            have uL : (u : Int) < (L : Int) := by omega
            by_cases h48 : y = 48
            · have up : 0 < u := by
                rcases Nat.eq_zero_or_pos u with c | c
                · subst c; exact absurd (hy.trans h48) HTH.out
                · exact c
              have F : Hid (∀ i, u ≤ i → i < L → ts.getD i 0 = 48) := fun i a b => by
                by_cases e : i = u
                · subst e; omega
                · exact I.out i (by omega) b
              subst h48
              clear I KK hy
              go_wp2_with fail
              go_roundg u
              case measure => omega
              case rel => exact ⟨by first | rfl | trivial, by go_num, by omega, by omega, F.out⟩
            · have h48' : (y == 48) = false := by rw [beq_eq_false_iff_ne]; exact h48
              obtain ⟨E, hE⟩ : ∃ E, (L : Int) - ((u : Int) + 1) = E := ⟨_, rfl⟩
              have S5 := hid (KS.out _ _ S4.out (drew_nil _))
              obtain ⟨k1, k2⟩ := KK.out wr (u + 1) E S4.out (by omega) I.out (fun _ => by rw [Nat.add_sub_cancel, hy]; exact h48) (by omega)
              have K1 := hid (told_drew k1)
              have K2 := hid k2
              have uL1 : (u : Int) + 1 ≤ (L : Int) := by omega
              have WE : IntKind.i64.wrap ((L : Int)) = (L : Int) := by rw [IntKind.wrap_i64]; omega
              have WE2 : IntKind.i64.wrap ((L : Int) - ((u : Int) + 1)) = E := by rw [IntKind.wrap_i64]; omega
              obtain ⟨-, ZR⟩ := CS.out _ S4.out
              obtain ⟨⟨c0, c1, c2⟩, f0, f1, f2⟩ := ZR.cells
              obtain ⟨⟨d0, -, -⟩, ZD⟩ := CS.out _ S5.out
              obtain ⟨⟨e0', e1', e2'⟩, g0, g1, g2⟩ := ZD.cells
              clear k1 k2 KK I HA ZR ZD hy
              go_upto_region 16 with fail
              go_region
              all_goals
                go_wp2_with fail
                (try simp only [Exit.inBlock, Exit.then])
                refine bodyPost_ret (fresults_row_tmp rfl _ _ w.heap.size 48 _ (0, 0) _ rfl K2.out Tryz.underlying48 rfl (by kernel_rfl)) rfl ?_
                exact K1.out
      · obtain ⟨n, hn⟩ : ∃ n : Nat, -x = (n : Int) := ⟨(-x).toNat, by omega⟩
        have R3 := hid (RS.out w2 p cp zs n 5 HL2.out.1 HL2.out.2.1 HL2.out.2.2 (by omega) (.inr rfl))
        have V3 := hid (VP.out 5 n (by omega))
        have E3 := hid (ED.out n hn.symm)
        have nb : (n : Int) ≤ 1074 := by omega
        clear RS EU ED VP HL2
        generalize m * 5 ^ n = V at *
        go_wp2_with fail
        refine R3.out.mono ?_
        rintro e w3 ⟨p3, cp3, z3, rfl, L3, RW3, N3, B3⟩
        have S3 := hid (KS.out _ _ S2.out B3)
        have T3 := hid (TX.out w3 p3 cp3 z3 V _ L3 RW3 V3.out N3 (by omega))
        clear L3 RW3 N3 B3 S2 R3 TX q0 q2 q3
        obtain ⟨⟨q0, q2, q3⟩, -⟩ := CS.out _ S3.out
        go_wp2_with fail
        refine T3.out.mono ?_
        rintro e w4 ⟨s, ts, rfl, hs, td, tv, tn, th, tl, B4⟩
        have S4 := hid (KS.out _ _ S3.out B4)
        obtain ⟨L, hL⟩ : ∃ L, ts.length = L := ⟨_, rfl⟩
        have sL : s.size = L := by rw [hs.size, hL]
        have KK : Hid (∀ (wx : World) (k : Nat) (E : Int), SS wx → k ≤ L → (∀ i, k ≤ i → i < L → ts.getD i 0 = 48) → (0 < k → ts.getD (k - 1) 0 ≠ 48) → E = x + ((L : Int) - (k : Int)) → _) := fun wx k E hS hk hz hl hE => FIN.out wx (s.extract 0 k) (ts.take k) E hS (by
          rw [hE, ← hL]
          exact EXE.out ts k V (x) td tv th (by omega) (fun i a b => hz i a (by omega)) hl e0 E3.out) (by
          have e := hs.extract 0 k
          rw [List.drop_zero, Nat.sub_zero] at e
          exact e)
        have HA : Hid (∀ u, u < L → ∃ y : Int, 48 ≤ y ∧ y ≤ 57 ∧ ts.getD u 0 = y ∧ ∀ h : u < s.size, ((s[u]'h).toNat : Int) = y) := fun u hu => by
          have b := digs_at td u (by omega)
          exact ⟨_, b.1, b.2, rfl, fun h => hs.at u h⟩
        have L0 : 0 < L := by rw [← hL]; exact List.length_pos_iff.2 tn
        have LB : (L : Int) ≤ 30000 := by omega
        have HTH := hid th
        have hbs := HBG.out
        clear hs td tv tn th tl B4 S3 T3 FIN EXE E3 V3 q0 q2 q3 hL
        obtain ⟨⟨q0, q2, q3⟩, -⟩ := CS.out _ S4.out
        go_wp2_with fail
        go_loopg [8] L (fun j v wr => wr = w4 ∧ v = .int .i64 (j : Int) ∧ 0 < j ∧ j ≤ L ∧ Hid (∀ i, j ≤ i → i < L → ts.getD i 0 = 48))
        case atStart => exact ⟨rfl, rfl, L0, Nat.le_refl _, fun i a b => by omega⟩
        case round =>
          obtain ⟨rfl, rfl, hj0, hjL, I⟩ := hrel
          cases gk with
          | zero => omega
          | succ u =>
            obtain ⟨y, y0, y1, hy, hyi⟩ := HA.out u (by omega)
            have u1 : ((u + 1 : Nat) : Int) - 1 = (u : Int) := by omega
            have u2 : (u : Int) + 1 - 1 = (u : Int) := by omega
            have uL : (u : Int) < (L : Int) := by omega
            by_cases h48 : y = 48
            · have up : 0 < u := by
                rcases Nat.eq_zero_or_pos u with c | c
                · subst c; exact absurd (hy.trans h48) HTH.out
                · exact c
              have F : Hid (∀ i, u ≤ i → i < L → ts.getD i 0 = 48) := fun i a b => by
                by_cases e : i = u
                · subst e; omega
                · exact I.out i (by omega) b
              subst h48
              clear I KK hy
              go_wp2_with fail
              go_roundg u
              case measure => omega
              case rel => exact ⟨by first | rfl | trivial, by go_num, by omega, by omega, F.out⟩
            · have h48' : (y == 48) = false := by rw [beq_eq_false_iff_ne]; exact h48
              obtain ⟨E, hE⟩ : ∃ E, x + (L : Int) - ((u : Int) + 1) = E := ⟨_, rfl⟩
              have S5 := hid (KS.out _ _ S4.out (drew_nil _))
              obtain ⟨k1, k2⟩ := KK.out wr (u + 1) E S4.out (by omega) I.out (fun _ => by rw [Nat.add_sub_cancel, hy]; exact h48) (by omega)
              have K1 := hid (told_drew k1)
              have K2 := hid k2
              have uL1 : (u : Int) + 1 ≤ (L : Int) := by omega
              have WE : IntKind.i64.wrap (x + (L : Int)) = x + (L : Int) := by rw [IntKind.wrap_i64]; omega
              have WE2 : IntKind.i64.wrap (x + (L : Int) - ((u : Int) + 1)) = E := by rw [IntKind.wrap_i64]; omega
              obtain ⟨-, ZR⟩ := CS.out _ S4.out
              obtain ⟨⟨c0, c1, c2⟩, f0, f1, f2⟩ := ZR.cells
              obtain ⟨⟨d0, -, -⟩, ZD⟩ := CS.out _ S5.out
              obtain ⟨⟨e0', e1', e2'⟩, g0, g1, g2⟩ := ZD.cells
              clear k1 k2 KK I HA ZR ZD hy
              go_upto_region 16 with fail
              go_region
              all_goals
                go_wp2_with fail
                (try simp only [Exit.inBlock, Exit.then])
                refine bodyPost_ret (fresults_row_tmp rfl _ _ w.heap.size 48 _ (0, 0) _ rfl K2.out Tryz.underlying48 rfl (by kernel_rfl)) rfl ?_
                exact K1.out
  · have hf' : Ie.fnt d = false := by simpa using hf
    have G : Hid (∀ (w' : World), Below w.heap.size w w' → AllTold d w (.returned (.tuple #[.agg #[.bool false, .string ⟨#[]⟩, .int .i64 0], .int .i64 5])) w') := by
      intro w' hB
      refine ⟨⟨#[]⟩, ?_, by rw [Fx.aS, if_neg hf]; rfl, hB⟩
      rw [Fx.aN, Fx.aE, Fx.aR, if_neg hf, if_neg hf, hf', Bool.false_and]
    rw [hf'] at FN
    have HZ := hid (And.intro Z ZB)
    have K := hid (G.out _ ZB)
    obtain ⟨⟨c0, c1, c2⟩, f0, f1, f2⟩ := Z.cells
    clear Z ZB h0 h1 hf hf' G
    go_enter Tryz.func43, Tryz.ntmps43
    go_wp2_with fail
    refine (FN.out _).mono ?_
    rintro e wz ⟨rfl, hz⟩
    replace hz := hz.symm
    subst hz
    go_wp2_with fail
    (try simp only [Exit.inBlock, Exit.then])
    refine bodyPost_ret (fresults_row_tmp rfl _ _ w.heap.size 48 _ (0, 0) _ rfl HZ.out.1 Tryz.underlying48 rfl (by kernel_rfl)) rfl ?_
    exact K.out
end Go.Proofs.YtbdbpjghmejfjaaGreatDoor

namespace Go.Proofs.YtbdbpjghmejfjaaGreatDoor
open Go.RowKit Go.Deep

/-- A block of bytes of our own; a mark may stand behind its end. -/
def OwnF (w : World) (g : Nat) (zs : List Int) : Prop := ∃ lo hi, w.heap[g]? = some (.cells (zs.map (Value.int .u8)).toArray 5 (lo, hi)) ∧ zs.length ≤ lo

theorem OwnF.cell {w : World} {g : Nat} {zs : List Int} (h : OwnF w g zs) (i : Nat) (hi : i < zs.length) : w.cell? ⟨g, i, none⟩ = some (.int .u8 (zs.getD i 0)) := by
  obtain ⟨lo, k, h, _⟩ := h
  simp [World.cell?, h, List.getD, hi]

theorem OwnF.free {w : World} {g : Nat} {zs : List Int} (h : OwnF w g zs) (i : Nat) (hi : i < zs.length) : w.frozen? ⟨g, i, none⟩ = false := by
  obtain ⟨lo, k, h, hl⟩ := h
  simp [World.frozen?, h]
  omega

theorem OwnF.lt {w : World} {g : Nat} {zs : List Int} (h : OwnF w g zs) : g < w.heap.size := by
  obtain ⟨lo, k, h, _⟩ := h
  rcases Nat.lt_or_ge g w.heap.size with hl | hl
  · exact hl
  · simp [Array.getElem?_eq_none hl] at h

theorem OwnF.set {w : World} {g : Nat} {zs : List Int} (h : OwnF w g zs) (i : Nat) (s : Int) : OwnF (w.setCell ⟨g, i, none⟩ (.int .u8 s)) g (zs.set i s) := by
  have hl := h.lt
  obtain ⟨lo, k, h, hz⟩ := h
  exact ⟨lo, k, by simp [World.setCell, Array.getElem?_modify, h, List.map_set], by simpa using hz⟩

theorem OwnF.below {w w' : World} {B g : Nat} {zs : List Int} (h : OwnF w g zs) (hb : Below B w w') (hg : g < B) : OwnF w' g zs := by
  obtain ⟨lo, k, h, hz⟩ := h
  exact ⟨lo, k, by rw [hb.block g hg, h], hz⟩

/-- One unit of the last place more, and whether it was carried out. -/
def Raised (ds ds' : List Int) (c : Bool) : Prop := Digs ds' ∧ ds'.length = ds.length ∧ dv ds' + (if c then 10 ^ ds.length else 0) = dv ds + 1

theorem tail57 {es : List Int} {n j : Nat} (hn : n ≤ es.length) (hj : j ≤ n) (h : ∀ i, j ≤ i → i < n → es.getD i 0 = 57) : es.take n = es.take j ++ List.replicate (n - j) 57 := by
  apply List.ext_getElem?
  intro i
  by_cases h1 : i < j
  · rw [List.getElem?_append_left (by simp; omega), List.getElem?_take, List.getElem?_take, if_pos (by omega), if_pos h1]
  · by_cases h2 : i < n
    · have := h i (by omega) h2
      rw [List.getElem?_append_right (by simp; omega), List.getElem?_take, if_pos h2, List.getElem?_replicate, if_pos (by simp; omega)]
      rw [List.getElem?_eq_getElem (by omega)] at *
      simp [List.getD, List.getElem?_eq_getElem (show i < es.length by omega)] at this
      rw [this]
    · rw [List.getElem?_eq_none (by simp; omega), List.getElem?_eq_none (by simp; omega)]

theorem put_take (es : List Int) (o n : Nat) (xs : List Int) (h : o + xs.length = n) (hn : n ≤ es.length) : (put es o xs).take n = es.take o ++ xs := by
  unfold put
  rw [List.take_append_of_le_length (by simp; omega), List.take_of_length_le (by simp; omega)]

theorem raised_all {es : List Int} {n : Nat} (hn : n ≤ es.length) (h : ∀ i, 0 ≤ i → i < n → es.getD i 0 = 57) : Raised (es.take n) ((put es 0 (List.replicate n 48)).take n) true := by
  rw [put_take es 0 n _ (by simp) hn, tail57 hn (Nat.zero_le _) h]
  simp only [List.take_zero, List.nil_append, Nat.sub_zero]
  refine ⟨fun d hd => ?_, by simp, ?_⟩
  · have := List.eq_of_mem_replicate hd
    omega
  · rw [dv_zeros, dv_nines]
    simp

theorem raised_at {es : List Int} {n u : Nat} {x : Int} (hn : n ≤ es.length) (hu : u < n) (hx : es.getD u 0 = x) (hx1 : x ≠ 57) (hd : Digs (es.take n)) (h : ∀ i, u + 1 ≤ i → i < n → es.getD i 0 = 57) : Raised (es.take n) ((put es u ((x + 1) :: List.replicate (n - (u + 1)) 48)).take n) false := by
  have e1 : es.take (u + 1) = es.take u ++ [x] := by
    rw [List.take_add_one, ← hx]
    simp [List.getD, List.getElem?_eq_getElem (show u < es.length by omega)]
  have e2 := tail57 hn (by omega) h
  rw [e1] at e2
  have hxd := hd x (by rw [e2]; simp)
  rw [put_take es u n _ (by simp; omega) hn]
  refine ⟨fun d hm => ?_, by simp; omega, ?_⟩
  · rw [List.mem_append, List.mem_cons] at hm
    rcases hm with hm | hm | hm
    · exact hd d (by rw [e2]; simp [hm])
    · omega
    · have := List.eq_of_mem_replicate hm
      omega
  · rw [e2, dv_append, dv_cons, dv_zeros, List.append_assoc, dv_append, List.singleton_append, dv_cons, dv_nines]
    simp only [List.length_cons, List.length_replicate]
    rw [show (x + 1 - 48) = (x - 48) + 1 by omega, Int.add_mul]
    simp
    omega

def RaiseTold (g : Nat) (es : List Int) (n : Nat) (w : World) (e : Ending) (w' : World) : Prop :=
  ∃ c es', e = .returned (.bool c) ∧ OwnF w' g es' ∧ es'.length = es.length ∧ Raised (es.take n) (es'.take n) c ∧ Only g w w'

set_option maxRecDepth 100000 in
set_option maxHeartbeats 2000000 in
theorem raise_any (g n cap : Nat) (es : List Int) (w : World) (ho : OwnF w g es) (hn : n ≤ es.length) (hs : n ≤ 140737488351232) (hd : Digs (es.take n)) :
    Calls Tryz.prog 79 #[.slice (some ⟨g, 0, none⟩) n cap] w fun e w' => RaiseTold g es n w e w' := by
  have HO := hid ho
  have HN := hid hn
  have HD := hid hd
  have hsi : (n : Int) ≤ 140737488351232 := by omega
  clear ho hn hd
  go_enter Tryz.func79, Tryz.ntmps79
  go_wp2_with fail
  go_loopg [3] n (fun j i wr => i = .int .i64 ((j : Int) - 1) ∧ j ≤ n ∧ Hid (OwnF wr g (put es j (List.replicate (n - j) 48)) ∧ (∀ i, j ≤ i → i < n → es.getD i 0 = 57) ∧ Only g w wr))
  case atStart => exact ⟨rfl, Nat.le_refl _, by rw [Nat.sub_self]; simpa [put_nil] using HO.out, fun i h1 h2 => by omega, Only.refl _ _⟩
  case round =>
    obtain ⟨rfl, hj, I⟩ := hrel
    cases gk with
    | zero =>
      have F : Hid (RaiseTold g es n w (.returned (.bool true)) wr) := by
        refine ⟨true, _, rfl, I.out.1, ?_, ?_, I.out.2.2⟩
        · rw [put_length _ _ _ (by simp; have := HN.out; omega)]
        · exact raised_all HN.out I.out.2.1
      clear I
      go_wp2_with fail
      go_ret
      exact F.out
    | succ u =>
      rw [show ((u + 1 : Nat) : Int) - 1 = (u : Int) by omega]
      have hu : (u : Int) < (n : Int) := by omega
      have hl : (put es (u + 1) (List.replicate (n - (u + 1)) 48)).length = es.length := put_length _ _ _ (by simp; have := HN.out; omega)
      obtain ⟨x, X⟩ : ∃ x, Hid (es.getD u 0 = x) := ⟨_, rfl⟩
      have hx : wr.cell? ⟨g, u, none⟩ = some (.int .u8 x) := by
        rw [I.out.1.cell u (by rw [hl]; have := HN.out; omega), ← X.out]
        simp [put, List.getD, List.getElem?_append_left (show u < (es.take (u + 1)).length by simp; have := HN.out; omega)]
      have hf := I.out.1.free u (by rw [hl]; have := HN.out; omega)
      have hxd : 48 ≤ x ∧ x ≤ 57 := by
        have hlt : u < (es.take n).length := by simp; have := HN.out; omega
        have := HD.out _ (List.getElem_mem hlt)
        rw [← X.out]
        simpa [List.getD, List.getElem?_eq_getElem (show u < es.length by have := HN.out; omega)] using this
      obtain ⟨hx0, hx1⟩ := hxd
      by_cases h9 : x = 57
      · have F : Hid (OwnF (wr.setCell ⟨g, u, none⟩ (.int .u8 48)) g (put es u (List.replicate (n - u) 48)) ∧ (∀ i, u ≤ i → i < n → es.getD i 0 = 57) ∧ Only g w (wr.setCell ⟨g, u, none⟩ (.int .u8 48))) := by
          refine ⟨?_, fun i h1 h2 => ?_, I.out.2.2.trans (Only.set _ _)⟩
          · have := I.out.1.set u 48
            rw [put_head _ _ _ _ (by simp; have := HN.out; omega), ← List.replicate_succ, show n - (u + 1) + 1 = n - u by omega] at this
            exact this
          · by_cases e : i = u
            · subst e; rw [X.out]; exact h9
            · exact I.out.2.1 i (by omega) h2
        subst h9
        clear I hl
        go_wp2_with fail
        go_roundg u
        case measure => omega
        case rel => exact ⟨by go_num, by omega, F.out⟩
      · have h9' : (x == 57) = false := by rw [beq_eq_false_iff_ne]; exact h9
        have F : Hid (RaiseTold g es n w (.returned (.bool false)) (wr.setCell ⟨g, u, none⟩ (.int .u8 (x + 1)))) := by
          have o := I.out.1.set u (x + 1)
          rw [put_head _ _ _ _ (by simp; have := HN.out; omega)] at o
          refine ⟨false, _, rfl, o, ?_, ?_, I.out.2.2.trans (Only.set _ _)⟩
          · rw [put_length _ _ _ (by simp; have := HN.out; omega)]
          · exact raised_at HN.out (by omega) X.out h9 HD.out I.out.2.1
        clear I hl
        go_wp2_with fail
        go_ret
        exact F.out
end Go.Proofs.YtbdbpjghmejfjaaGreatDoor

namespace Go.Proofs.YtbdbpjghmejfjaaGreatDoor
open Go.RowKit Go.Deep

/-- Whether the kept digits ds are taken up by the dropped ones. -/
def UpIs (ds ys : List Int) (more u : Bool) : Prop :=
  (u = true → 10 ^ ys.length ≤ 2 * dv ys ∧ (2 * dv ys = 10 ^ ys.length → more = true ∨ dv ds % 2 = 1)) ∧ (u = false → 2 * dv ys ≤ 10 ^ ys.length ∧ (2 * dv ys = 10 ^ ys.length → more = false ∧ dv ds % 2 = 0))

theorem dv_first {y : Int} {rest : List Int} (h : Digs (y :: rest)) : ∃ P : Int, 0 < P ∧ (10 : Int) ^ (y :: rest).length = 10 * P ∧ dv (y :: rest) = (y - 48) * P + dv rest ∧ 0 ≤ dv rest ∧ dv rest < P := by
  have hr : Digs rest := fun d hd => h d (by simp [hd])
  have b := dv_bd hr
  refine ⟨10 ^ rest.length, Int.pow_pos (by omega), by rw [List.length_cons, Int.pow_succ, Int.mul_comm], dv_cons y rest, b.1, b.2⟩

theorem dv_zero_iff : ∀ {ds : List Int}, Digs ds → (dv ds = 0 ↔ ∀ i, i < ds.length → ds.getD i 0 = 48)
  | [], _ => by simp [dv, Dn.tv]
  | d :: ds, h => by
    have hr : Digs ds := fun e he => h e (by simp [he])
    have b := dv_bd hr
    have hd := h d (by simp)
    have hP : (0 : Int) < 10 ^ ds.length := Int.pow_pos (by omega)
    rw [dv_cons]
    constructor
    · intro c
      have h1 : 0 ≤ (d - 48) * 10 ^ ds.length := Int.mul_nonneg (by omega) (Int.le_of_lt hP)
      have h2 : (d - 48) * 10 ^ ds.length = 0 := by omega
      have h3 : d - 48 = 0 := by
        rcases Int.mul_eq_zero.1 h2 with e | e
        · exact e
        · omega
      have h4 : dv ds = 0 := by omega
      intro i hi
      cases i with
      | zero => simp; omega
      | succ i => simpa using (dv_zero_iff hr).1 h4 i (by simpa using hi)
    · intro c
      have h1 : d = 48 := by simpa using c 0 (by simp)
      have h2 : dv ds = 0 := (dv_zero_iff hr).2 (fun i hi => by simpa using c (i + 1) (by simpa using hi))
      rw [h1, h2]
      simp

theorem up_over {ds ys : List Int} {more : Bool} {y : Int} {rest : List Int} (hy : ys = y :: rest) (hd : Digs ys) (h : 53 < y) : UpIs ds ys more true := by
  subst hy
  obtain ⟨P, p1, p2, p3, p4, p5⟩ := dv_first hd
  have : 6 * P ≤ (y - 48) * P := Int.mul_le_mul_of_nonneg_right (by omega) (by omega)
  refine ⟨fun _ => ⟨by omega, fun c => by omega⟩, fun c => by cases c⟩

theorem up_under {ds ys : List Int} {more : Bool} {y : Int} {rest : List Int} (hy : ys = y :: rest) (hd : Digs ys) (h : y < 53) : UpIs ds ys more false := by
  subst hy
  obtain ⟨P, p1, p2, p3, p4, p5⟩ := dv_first hd
  have : (y - 48) * P ≤ 4 * P := Int.mul_le_mul_of_nonneg_right (by omega) (by omega)
  refine ⟨fun c => (by cases c), fun _ => ⟨by omega, fun c => by omega⟩⟩

theorem up_more {ds ys : List Int} {rest : List Int} (hy : ys = 53 :: rest) (hd : Digs ys) : UpIs ds ys true true := by
  subst hy
  obtain ⟨P, p1, p2, p3, p4, p5⟩ := dv_first hd
  refine ⟨fun _ => ⟨by omega, fun c => .inl rfl⟩, fun c => by cases c⟩

theorem up_rest {ds ys : List Int} {more : Bool} {rest : List Int} (hy : ys = 53 :: rest) (hd : Digs ys) (h : dv rest ≠ 0) : UpIs ds ys more true := by
  subst hy
  obtain ⟨P, p1, p2, p3, p4, p5⟩ := dv_first hd
  refine ⟨fun _ => ⟨by omega, fun c => by omega⟩, fun c => by cases c⟩

theorem up_half {ds ys : List Int} {rest : List Int} (hy : ys = 53 :: rest) (hd : Digs ys) (h : dv rest = 0) {u : Bool} (hu : u = decide (dv ds % 2 = 1)) : UpIs ds ys false u := by
  subst hy
  obtain ⟨P, p1, p2, p3, p4, p5⟩ := dv_first hd
  refine ⟨fun c => ⟨by omega, fun _ => .inr ?_⟩, fun c => ⟨by omega, fun _ => ⟨rfl, ?_⟩⟩⟩
  · rw [c] at hu
    exact of_decide_eq_true hu.symm
  · rw [c] at hu
    have := of_decide_eq_false hu.symm
    omega

theorem dv_last {ds : List Int} {n : Nat} (hn : ds.length = n + 1) : dv ds % 2 = ds.getD n 0 % 2 := by
  have e : ds = ds.take n ++ [ds.getD n 0] := by
    have h := List.take_append_drop n ds
    rw [List.drop_eq_getElem_cons (by omega), List.drop_of_length_le (by omega)] at h
    simpa [List.getD, show n < ds.length by omega] using h.symm
  generalize ds.getD n 0 = x at *
  rw [e, dv_append, dv_cons]
  simp [dv, Dn.tv]
  omega

def UpTold (ds ys : List Int) (more : Bool) (e : Ending) : Prop := ∃ u, e = .returned (.bool u) ∧ UpIs ds ys more u

set_option maxRecDepth 100000 in
set_option maxHeartbeats 2000000 in
theorem upward_any (g n cap : Nat) (es ys : List Int) (sd : ByteArray) (more : Bool) (w : World) (ho : OwnF w g es) (hn : n ≤ es.length) (hnb : n ≤ 140737488351232) (hs : Str sd ys) (hy0 : ys ≠ []) (hyb : ys.length ≤ 140737488351232) (hd : Digs ys) (hde : Digs (es.take n)) :
    Calls Tryz.prog 78 #[.slice (some ⟨g, 0, none⟩) n cap, .string sd, .bool more] w fun e w' => UpTold (es.take n) ys more e ∧ Below w.heap.size w w' := by
  obtain ⟨y, rest, hys⟩ := List.exists_cons_of_ne_nil hy0
  obtain ⟨m, HM⟩ : ∃ m, Hid (ys.length = m) := ⟨_, rfl⟩
  have hsz : sd.size = m := by rw [hs.size, HM.out]
  have hm0 : 0 < m := by have := HM.out; rw [hys] at this; simp at this; omega
  have hmi : (0 : Int) < (m : Int) := by omega
  have hmb : (m : Int) ≤ 140737488351232 := by have := HM.out; omega
  have hx : ∀ h : 0 < sd.size, ((sd[0]'h).toNat : Int) = y := fun h => by rw [hs.at 0 h, hys]; rfl
  have hyd := hd y (by rw [hys]; simp)
  have SR : Str (sd.extract 1 m) rest := by
    have := hs.extract 1 m
    rw [hys, List.drop_succ_cons, List.drop_zero, List.take_of_length_le (by have := HM.out; rw [hys] at this; simp at this; omega)] at this
    exact this
  have TR := hid (trim0_any (sd.extract 1 m) rest w SR (by have := HM.out; rw [hys] at this; simp at this; omega))
  have HY := hid hys
  have HD := hid hd
  have HO := hid ho
  have HN := hid hn
  have hnbi : (n : Int) ≤ 140737488351232 := by omega
  obtain ⟨hyd0, hyd1⟩ := hyd
  clear ho hn hs hy0 hyb hys SR hd
  rcases (show 53 < y ∨ y < 53 ∨ y = 53 by omega) with h | h | h
  · have F := hid (up_over (ds := es.take n) (more := more) HY.out HD.out h)
    have hne : (y == 53) = false := by rw [beq_eq_false_iff_ne]; omega
    go_enter Tryz.func78, Tryz.ntmps78
    go_wp2_with fail
    go_ret
    exact ⟨⟨_, rfl, F.out⟩, Below.refl _ _⟩
  · have F := hid (up_under (ds := es.take n) (more := more) HY.out HD.out h)
    have hne : (y == 53) = false := by rw [beq_eq_false_iff_ne]; omega
    have hnl : ¬ 53 < y := by omega
    go_enter Tryz.func78, Tryz.ntmps78
    go_wp2_with fail
    go_ret
    exact ⟨⟨_, rfl, F.out⟩, Below.refl _ _⟩
  · subst h
    cases more with
    | true =>
      have F := hid (up_more (ds := es.take n) HY.out HD.out)
      go_enter Tryz.func78, Tryz.ntmps78
      go_wp2_with fail
      go_ret
      exact ⟨⟨_, rfl, F.out⟩, Below.refl _ _⟩
    | false =>
      go_enter Tryz.func78, Tryz.ntmps78
      go_wp2_with fail
      refine TR.out.mono ?_
      rintro e w1 ⟨⟨s', rfl, hz⟩, d1⟩
      have D1 := hid d1
      have hr : Digs rest := fun d hd => HD.out d (by rw [HY.out]; simp [hd])
      have zi := dv_zero_iff hr
      by_cases hzr : dv rest = 0
      · have e1 : s'.toList = [] := hz.2 (zi.1 hzr)
        have UH := hid (fun (u : Bool) (hu : u = decide (dv (es.take n) % 2 = 1)) => up_half (ds := es.take n) HY.out HD.out hzr hu)
        have O1 := hid (HO.out.below d1 HO.out.lt)
        clear hz zi hr d1 TR hzr
        cases n with
        | zero =>
          have F := hid (UH.out false (by simp [dv, Dn.tv]))
          go_wp2_with fail
          go_ret
          exact ⟨⟨_, rfl, F.out⟩, D1.out⟩
        | succ k =>
          obtain ⟨N, HNk⟩ : ∃ N, Hid (k + 1 = N) := ⟨_, rfl⟩
          have hNk : (N : Int) - 1 = (k : Int) := by have := HNk.out; omega
          have hkN : (k : Int) < (N : Int) := by have := HNk.out; omega
          have hN0 : (0 : Int) < (N : Int) := by have := HNk.out; omega
          have hNb : (N : Int) ≤ 140737488351232 := by have := HNk.out; omega
          obtain ⟨x, X⟩ : ∃ x, Hid (es.getD k 0 = x) := ⟨_, rfl⟩
          have hc : w1.cell? ⟨g, k, none⟩ = some (.int .u8 x) := by rw [O1.out.cell k (by have := HN.out; omega), X.out]
          have LP : Hid (dv (es.take (k + 1)) % 2 = x % 2) := by
            show _ = _
            rw [dv_last (n := k) (by simp; have := HN.out; omega), ← X.out]
            simp [List.getD]
          rw [HNk.out] at UH LP ⊢
          have x0 : 0 ≤ x ∧ x < 256 := by
            have hlt : k < (es.take (k + 1)).length := by simp; have := HN.out; omega
            have := hde _ (List.getElem_mem hlt)
            have e : (es.take (k + 1))[k] = x := by rw [← X.out]; simp [List.getD, List.getElem?_eq_getElem (show k < es.length by have := HN.out; omega)]
            rw [e] at this
            omega
          obtain ⟨b, hb⟩ : ∃ b, x % 2 = b := ⟨_, rfl⟩
          have hb2 : x.tmod 2 = b := by rw [Int.tmod_eq_emod_of_nonneg x0.1]; exact hb
          have q1 : IntKind.i64.wrap ((N : Int) - 1) = (k : Int) := by rw [IntKind.wrap_i64]; omega
          have q2 : IntKind.i64.wrap (k : Int) = (k : Int) := by rw [IntKind.wrap_i64]; omega
          have b01 : b = 1 ∨ b = 0 := by omega
          clear hNb hnb hnbi hde
          rcases b01 with c | c
          · subst c
            have F := hid (UH.out true (by rw [LP.out, hb]; rfl))
            clear UH
            go_wp2_with fail
            go_ret
            exact ⟨⟨_, rfl, by have h := F.out; rw [← HNk.out] at h; exact h⟩, D1.out⟩
          · subst c
            have F := hid (UH.out false (by rw [LP.out, hb]; rfl))
            clear UH
            go_wp2_with fail
            go_ret
            exact ⟨⟨_, rfl, by have h := F.out; rw [← HNk.out] at h; exact h⟩, D1.out⟩
      · have e1 : s'.toList ≠ [] := fun c => hzr (zi.2 (hz.1 c))
        have e2 : (s'.toList == []) = false := by rw [beq_eq_false_iff_ne]; exact e1
        have e3 : s'.toList.isEmpty = false := by rw [List.isEmpty_eq_false_iff]; exact e1
        have F := hid (up_rest (ds := es.take n) (more := false) HY.out HD.out hzr)
        clear hz zi hr d1 TR hzr
        go_wp2_with fail
        go_ret
        exact ⟨⟨_, rfl, F.out⟩, D1.out⟩
end Go.Proofs.YtbdbpjghmejfjaaGreatDoor

namespace Go.Proofs.YtbdbpjghmejfjaaGreatDoor
open Go.RowKit Go.Deep Go.Shelf

def cloneRen : Go.Shelf.Ren := ⟨fun _ => 100, fun t => if t = 37 then 70 else if t = 47 then 114 else if t = 5 then 5 else if t = 9 then 9 else if t = 3 then 3 else t, fun g => g⟩
theorem cloneLays : LaysPu.n25 Tryz.prog cloneRen where
  mixed := by kernel_rfl
  f25 := by kernel_rfl
  t0 := by kernel_rfl
  a0 := fun _ => by kernel_rfl
  z0 := fun _ => by kernel_rfl
  v0 := fun _ => by kernel_rfl
  i0 := by kernel_rfl
  t3 := by kernel_rfl
  a3 := fun _ => by kernel_rfl
  z3 := fun _ => by kernel_rfl
  v3 := fun _ => by kernel_rfl
  i3 := by kernel_rfl
  t4 := by kernel_rfl
  a4 := fun _ => by kernel_rfl
  z4 := fun _ => by kernel_rfl
  v4 := fun _ => by kernel_rfl
  i4 := by kernel_rfl
  t5 := by kernel_rfl
  a5 := fun _ => by kernel_rfl
  z5 := fun _ => by kernel_rfl
  v5 := fun _ => by kernel_rfl
  i5 := by kernel_rfl
  t9 := by kernel_rfl
  a9 := fun _ => by kernel_rfl
  z9 := fun _ => by kernel_rfl
  v9 := fun _ => by kernel_rfl
  i9 := by kernel_rfl
  t37 := by kernel_rfl
  a37 := fun _ => by kernel_rfl
  z37 := fun _ => by kernel_rfl
  v37 := fun _ => by kernel_rfl
  i37 := by kernel_rfl
  t47 := by kernel_rfl
  a47 := fun _ => by kernel_rfl
  z47 := fun _ => by kernel_rfl
  v47 := fun _ => by kernel_rfl
  i47 := by kernel_rfl

theorem clone_any (s : ByteArray) (w : World) (hs : s.size ≤ 140737488355328) : Calls Tryz.prog 77 #[.string s] w fun e w' => e = .returned (.string s) ∧ Below w.heap.size w w' := by
  have C : Hid (Calls Tryz.prog 100 #[.string s] w fun e w' => e = .returned (.string s) ∧ Below w.heap.size w w') := AnyPu.stringslite_Clone cloneLays s w (by omega)
  go_enter Tryz.func77, Tryz.ntmps77
  go_wp2_with fail
  refine C.out.mono ?_
  rintro e w1 ⟨rfl, d1⟩
  have D := hid d1
  clear d1
  go_wp2_with fail
  go_ret
  exact ⟨rfl, D.out⟩
end Go.Proofs.YtbdbpjghmejfjaaGreatDoor

namespace Go.Proofs.YtbdbpjghmejfjaaGreatDoor
open Go.RowKit Go.Deep

/-- The rounded row. -/
def Rounded (xs ds : List Int) (k : Nat) (more c : Bool) : Prop :=
  Digs ds ∧ ds.length = k ∧ ∃ u, UpIs (xs.take k) (xs.drop k) more u ∧ dv ds + (if c then 10 ^ k else 0) = dv (xs.take k) + (if u then 1 else 0)

def RoundTold (s : ByteArray) (xs : List Int) (keep : Int) (more : Bool) (e : Ending) : Prop :=
  ((xs.length : Int) ≤ keep → e = .returned (.tuple #[.string s, .bool false, .int .i64 0])) ∧
  (keep < (xs.length : Int) → ∃ s' ds c, e = .returned (.tuple #[.string s', .bool c, .int .i64 0]) ∧ Str s' ds ∧ Rounded xs ds keep.toNat more c)



theorem bytes_own {s : ByteArray} {xs : List Int} (hs : Str s xs) (w : World) (cap : Nat) : OwnF (w.drew.alloc (.cells (bytesRow s cap) 5 ((bytesRow s cap).size, (bytesRow s cap).size + 1))) w.heap.size (xs ++ List.replicate (cap - xs.length) 0) := by
  have e : bytesRow s cap = ((xs ++ List.replicate (cap - xs.length) 0).map (Value.int .u8)).toArray := by
    unfold bytesRow
    rw [hs.size]
    apply Array.toList_inj.1
    rw [← hs]
    simp
  refine ⟨(bytesRow s cap).size, (bytesRow s cap).size + 1, ?_, ?_⟩
  · show (w.heap.push _)[w.heap.size]? = _
    rw [Array.getElem?_push, if_pos rfl, ← e]
  · rw [e]
    simp

set_option maxRecDepth 100000 in
set_option maxHeartbeats 4000000 in
theorem round_any (s : ByteArray) (xs : List Int) (keep : Int) (more : Bool) (w : World) (hs : Str s xs) (h0 : xs ≠ []) (hd : Digs xs) (hl : xs.length ≤ 140737488351232) (hk : 0 ≤ keep) (hk1 : keep ≤ 9223372036854775807) :
    Calls Tryz.prog 50 #[.string s, .int .i64 keep, .bool more] w fun e w' => RoundTold s xs keep more e ∧ Below w.heap.size w w' := by
  obtain ⟨n, HN⟩ : ∃ n, Hid (xs.length = n) := ⟨_, rfl⟩
  have hsz : s.size = n := by rw [hs.size, HN.out]
  have e1 : s.toList ≠ [] := fun c => h0 ((str_nil hs).1 c)
  have e2 : (s.toList == []) = false := by rw [beq_eq_false_iff_ne]; exact e1
  have e3 : s.toList.isEmpty = false := by rw [List.isEmpty_eq_false_iff]; exact e1
  have WR : Hid (Calls Tryz.prog 61 #[.string s, .int .u64 10] w fun e w' => e = .returned (.int .i64 (-1)) ∧ w' = w) := by
    refine (wrong_any s xs xs.length 10 w hs rfl (by omega)).mono ?_
    rintro e w' ⟨⟨r, rfl, k⟩, rfl⟩
    cases k with
    | none _ => exact ⟨rfl, rfl⟩
    | here t h1 h2 h3 =>
      exfalso
      have := digs_at hd t h1
      rw [wv_dig this] at h3
      omega
  by_cases hge : (n : Int) ≤ keep
  · have CL := hid (clone_any s w (by rw [hsz]; have := HN.out; omega))
    have F : Hid (RoundTold s xs keep more (.returned (.tuple #[.string s, .bool false, .int .i64 0]))) := ⟨fun _ => rfl, fun c => by have := HN.out; omega⟩
    clear hs h0 hd hl
    go_enter Tryz.func50, Tryz.ntmps50
    go_wp2_with fail
    refine WR.out.mono ?_
    rintro e w' ⟨rfl, rfl⟩
    go_wp2_with fail
    refine CL.out.mono ?_
    rintro e w1 ⟨rfl, d1⟩
    have D1 := hid d1
    clear d1
    go_wp2_with fail
    go_ret3
    exact ⟨F.out, D1.out⟩
  · have hlt : keep < (n : Int) := by omega
    obtain ⟨k, HK⟩ : ∃ k, Hid (keep.toNat = k) := ⟨_, rfl⟩
    have hkk : keep = (k : Int) := by have := HK.out; omega
    have hkn : k < n := by omega
    have ST := hs.extract 0 k
    rw [List.drop_zero, Nat.sub_zero] at ST
    have SD := hs.extract k n
    rw [List.take_of_length_le (by have := HN.out; simp; omega)] at SD
    have hz1 : (s.extract 0 k).size = k := by rw [ST.size]; have := HN.out; simp; omega
    have CV := run_bytes_of_string (P := Tryz.prog) w 9 70 5 (s.extract 0 k) Tryz.underlying9 Tryz.underlying70 Tryz.underlying5
    rw [hz1] at CV
    obtain ⟨cap, hcap⟩ : ∃ cap, grownCap w k 0 5 = cap := ⟨_, rfl⟩
    rw [hcap] at CV
    have OF := bytes_own ST w cap
    have BW : Below w.heap.size w (w.drew.alloc (.cells (bytesRow (s.extract 0 k) cap) 5 ((bytesRow (s.extract 0 k) cap).size, (bytesRow (s.extract 0 k) cap).size + 1))) := (below_drewN (Below.refl _ _) 1).alloc (Nat.le_refl _) _
    obtain ⟨w1, hw1⟩ : ∃ w1, w.drew.alloc (.cells (bytesRow (s.extract 0 k) cap) 5 ((bytesRow (s.extract 0 k) cap).size, (bytesRow (s.extract 0 k) cap).size + 1)) = w1 := ⟨_, rfl⟩
    rw [hw1] at CV OF BW
    obtain ⟨es, hes⟩ : ∃ es, xs.take k ++ List.replicate (cap - (xs.take k).length) 0 = es := ⟨_, rfl⟩
    rw [hes] at OF
    have htk : (xs.take k).length = k := by have := HN.out; simp; omega
    have est : es.take k = xs.take k := by rw [← hes, List.take_append_of_le_length (by omega), List.take_of_length_le (by omega)]
    have esl : k ≤ es.length := by rw [← hes]; simp; have := HN.out; omega
    have dk : Digs (es.take k) := by rw [est]; exact fun d h => hd d (List.mem_of_mem_take h)
    have UP := hid (upward_any w.heap.size k cap es (xs.drop k) (s.extract k n) more w1 OF esl (by have := HN.out; omega) SD (fun c => by have := congrArg List.length c; have := HN.out; simp at *; omega) (by simp; omega) (fun d h => hd d (List.mem_of_mem_drop h)) dk)
    rw [est] at UP
    have EST := hid est
    have ESL := hid esl
    have HOF := hid OF
    have D1 := hid BW
    have DK := hid dk
    have FIN : Hid (∀ (W : World) (fs : List Int) (c u : Bool), OwnF W w.heap.size fs → k ≤ fs.length → UpIs (xs.take k) (xs.drop k) more u → Digs (fs.take k) → dv (fs.take k) + (if c then 10 ^ k else 0) = dv (xs.take k) + (if u then 1 else 0) →
        (convert 70 9 (.slice (some ⟨w.heap.size, 0, none⟩) k cap)).run Tryz.prog W = .ok (.string (strOfNums (fs.take k))) W ∧ RoundTold s xs keep more (.returned (.tuple #[.string (strOfNums (fs.take k)), .bool c, .int .i64 0]))) := by
      intro W fs c u o hl h1 h2 h3
      have hlen : (fs.take k).length = k := by simp; omega
      refine ⟨run_convert_bytes_arg (P := Tryz.prog) W 70 5 Tryz.underlying70 Tryz.underlying5 w.heap.size 0 k cap (fs.take k) hlen (fun i hi => ?_) 9 Tryz.underlying9, fun c => by have := HN.out; omega, fun _ => ⟨_, fs.take k, c, rfl, Str.of_nums (fun x hx => by have := h2 x hx; omega), ?_⟩⟩
      · rw [Nat.zero_add, o.cell i (by omega)]
        simp [List.getD, hi]
      · rw [HK.out]
        exact ⟨h2, hlen, u, h1, h3⟩
    have hkni : (k : Int) < (n : Int) := by omega
    have hnb : (n : Int) ≤ 140737488351232 := by have := HN.out; omega
    subst hkk
    clear hs h0 hd hl hlt hge ST SD OF BW hes est esl htk dk hw1 hcap hk1 hk
    go_enter Tryz.func50, Tryz.ntmps50
    go_wp2_with fail
    refine WR.out.mono ?_
    rintro e w' ⟨rfl, rfl⟩
    go_wp2_with fail
    refine UP.out.mono ?_
    rintro e w2 ⟨⟨u, rfl, hu⟩, d2⟩
    have O2 := hid (HOF.out.below d2 HOF.out.lt)
    have D2 := hid (chain D1.out d2 (Nat.le_refl _))
    have HU := hid hu
    clear hu d2 UP
    cases u with
    | false =>
      obtain ⟨cv, rt⟩ := FIN.out w2 es false false O2.out ESL.out HU.out DK.out (by rw [EST.out]; simp)
      have RT := hid rt
      clear rt FIN
      go_wp2_with fail
      go_ret3
      exact ⟨RT.out, D2.out⟩
    | true =>
      have RA := hid (raise_any w'.heap.size k cap es w2 O2.out ESL.out (by omega) DK.out)
      have HG : Hid (w'.heap.size ≤ w2.heap.size) := D2.out.size
      go_wp2_with fail
      refine RA.out.mono ?_
      rintro e w3 ⟨c, fs, rfl, o3, l3, r3, n3⟩
      have D3 : Hid (Below w'.heap.size w' w3) := D2.out.trans (n3.below (Nat.le_refl _) HG.out)
      rw [EST.out] at r3
      have hx : (es.take k).length = (xs.take k).length := by rw [EST.out]
      have hl1 : (xs.take k).length = k := by rw [← hx]; have := ESL.out; simp; omega
      obtain ⟨cv, rt⟩ := FIN.out w3 fs c true o3 (by have := ESL.out; omega) HU.out r3.1 (by have := r3.2.2; rw [hl1] at this; simpa using this)
      have RT := hid rt
      clear rt FIN o3 l3 r3 n3 RA hx hl1
      go_wp2_with fail
      go_ret3
      exact ⟨RT.out, D3.out⟩
end Go.Proofs.YtbdbpjghmejfjaaGreatDoor

namespace Go.Proofs.YtbdbpjghmejfjaaGreatDoor
open Go.RowKit Go.Deep
namespace Fx

/-- Whether the digits behind the first k take them up. -/
def up (xs : List Int) (k : Nat) : Bool := decide (10 ^ (xs.length - k) < 2 * dv (xs.drop k) ∨ (2 * dv (xs.drop k) = 10 ^ (xs.length - k) ∧ dv (xs.take k) % 2 = 1))
/-- The number of the first k digits, rounded. -/
def rn (xs : List Int) (k : Nat) : Int := dv (xs.take k) + if up xs k = true then 1 else 0
/-- .. and its digits. -/
def rd (xs : List Int) (k : Nat) : List Int := tx (if rn xs k = 10 ^ k then k + 1 else k) (rn xs k)
/-- The first c digits of a row, rounded, or filled up with zeros. -/
def kp (xs : List Int) (c : Int) : List Int := if c < 0 then [] else if (xs.length : Int) ≤ c then xs ++ List.replicate (c.toNat - xs.length) 48 else rd xs c.toNat

theorem up_is {xs : List Int} {k : Nat} {u : Bool} (h : UpIs (xs.take k) (xs.drop k) false u) : u = up xs k := by
  obtain ⟨h1, h2⟩ := h
  rw [List.length_drop] at h1 h2
  unfold up
  cases u with
  | true =>
    obtain ⟨a, b⟩ := h1 rfl
    symm
    rw [decide_eq_true_iff]
    rcases (show 2 * dv (xs.drop k) = 10 ^ (xs.length - k) ∨ 10 ^ (xs.length - k) < 2 * dv (xs.drop k) by omega) with c | c
    · right
      rcases b c with e | e
      · cases e
      · exact ⟨c, e⟩
    · exact .inl c
  | false =>
    obtain ⟨a, b⟩ := h2 rfl
    symm
    rw [decide_eq_false_iff_not]
    rintro (c | ⟨c, e⟩)
    · omega
    · have := (b c).2
      omega

theorem rn_bd {xs : List Int} (hd : Digs xs) {k : Nat} (hk : k ≤ xs.length) : 0 ≤ rn xs k ∧ rn xs k ≤ 10 ^ k := by
  have b := dv_bd (ds := xs.take k) (fun d h => hd d (List.mem_of_mem_take h))
  rw [List.length_take, Nat.min_eq_left hk] at b
  unfold rn
  split <;> omega

theorem rd_len (xs : List Int) (k : Nat) : (rd xs k).length = if rn xs k = 10 ^ k then k + 1 else k := tx_len _ _
theorem rd_digs (xs : List Int) (k : Nat) : Digs (rd xs k) := tx_digs _ _
theorem rd_dv {xs : List Int} (hd : Digs xs) {k : Nat} (hk : k ≤ xs.length) : dv (rd xs k) = rn xs k := by
  have b := rn_bd hd hk
  apply tx_dv b.1
  split
  · rw [Int.pow_succ]; have := p_pos k; omega
  · omega
theorem rd_of {xs ds : List Int} {k : Nat} (h : Digs ds) (hv : dv ds = rn xs k) (hl : ds.length = if rn xs k = 10 ^ k then k + 1 else k) : ds = rd xs k := by
  have := eq_tx h
  rw [hv, hl] at this
  exact this

theorem rd_round {xs ds : List Int} {k : Nat} {c : Bool} (hx : Digs xs) (hk : k ≤ xs.length) (h : Rounded xs ds k false c) : (if c = true then 49 :: ds else ds) = rd xs k := by
  obtain ⟨h1, h2, u, h3, h4⟩ := h
  have e := up_is h3
  subst e
  have v : dv ds + (if c = true then 10 ^ k else 0) = rn xs k := h4
  have b := dv_bd h1
  have hb := rn_bd hx hk
  rw [h2] at b
  cases c with
  | true =>
    rw [if_pos rfl] at v ⊢
    refine rd_of (fun d hd => ?_) ?_ ?_
    · rcases List.mem_cons.1 hd with rfl | hd
      · omega
      · exact h1 d hd
    · rw [dv_cons, h2]; omega
    · rw [if_pos (by omega), List.length_cons, h2]
  | false =>
    rw [if_neg Bool.false_ne_true] at v ⊢
    exact rd_of h1 (by omega) (by rw [if_neg (by omega), h2])

theorem kp_neg {xs : List Int} {c : Int} (h : c < 0) : kp xs c = [] := by rw [kp, if_pos h]
theorem kp_full {xs : List Int} {c : Nat} (h : xs.length ≤ c) : kp xs (c : Int) = xs ++ List.replicate (c - xs.length) 48 := by rw [kp, if_neg (by omega), if_pos (by omega), Int.toNat_natCast]
theorem kp_cut {xs : List Int} {c : Nat} (h : c < xs.length) : kp xs (c : Int) = rd xs c := by rw [kp, if_neg (by omega), if_neg (by omega), Int.toNat_natCast]
end Fx
end Go.Proofs.YtbdbpjghmejfjaaGreatDoor
