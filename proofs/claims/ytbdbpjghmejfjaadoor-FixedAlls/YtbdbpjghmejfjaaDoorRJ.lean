/-
  Texts put together: FRAll, OpenList, OpenAsks.
-/
import Derived.Test.YtbdbpjghmejfjaaDoorRF
import Derived.Test.YtbdbpjghmejfjaaDoorRG
import Derived.Test.YtbdbpjghmejfjaaDoorRI
import Derived.Test.YtbdbpjghmejfjaaDoorMem
import Derived.SizedLaws
import Derived.ProofKit
namespace Go.Proofs.YtbdbpjghmejfjaaDoor
open Go Go.RowKit Go.Deep

set_option maxRecDepth 100000 in
theorem rabs_any (d : Int) (w : World) (_h0 : 0 ≤ d) (_h1 : d < 18446744073709551616) :
    Calls Tryd.prog 48 #[.int .u64 d] w fun e w' => e = .returned (.int .u64 (d % 9223372036854775808)) ∧ w' = w := by
  go_enter Tryd.func48, Tryd.ntmps48
  go_wp2
  go_ret
  exact ⟨rfl, rfl⟩

set_option maxRecDepth 100000 in
theorem rfinite_any (d : Int) (w : World) (h0 : 0 ≤ d) (h1 : d < 18446744073709551616) :
    Calls Tryd.prog 29 #[.int .u64 d] w fun e w' => e = .returned (.bool (Ie.fnt d)) ∧ w' = w := by
  have A := hid (rabs_any d w h0 h1)
  have E := hid (fnt_abs d)
  generalize d % 9223372036854775808 = a at *
  clear h0 h1
  go_enter Tryd.func29, Tryd.ntmps29
  go_wp2_with fail
  refine A.out.mono ?_
  rintro e w' ⟨rfl, rfl⟩
  go_wp2_with fail
  go_ret
  exact ⟨fretB E.out, rfl⟩

theorem ex_up {m e : Int} {n : Nat} (hn : (n : Int) = e) : m * 2 ^ n * 10 ^ ((0 : Int) + 1074).toNat = m * 2 ^ (e + 1074).toNat * Fx.F5 := by
  have e1 : (e + 1074).toNat = n + 1074 := by omega
  rw [e1, Fx.F5, show ((0 : Int) + 1074).toNat = 1074 from rfl]
  generalize 1074 = z
  rw [show (10 : Int) = 2 * 5 from rfl, Int.mul_pow, Int.pow_add]
  ac_rfl
theorem ex_dn {m e : Int} {n : Nat} (hn : (n : Int) = -e) (he : -1074 ≤ e) : m * 5 ^ n * 10 ^ (e + 1074).toNat = m * 2 ^ (e + 1074).toNat * Fx.F5 := by
  obtain ⟨a, ha⟩ : ∃ a, (e + 1074).toNat = a := ⟨_, rfl⟩
  have e1 : 1074 = n + a := by omega
  rw [ha, Fx.F5, e1, show (10 : Int) = 2 * 5 from rfl, Int.mul_pow, Int.pow_add]
  ac_rfl

theorem told_drew {d : Int} {w w' : World} {e : Ending} (h : AllTold d w e w') : AllTold d w e w'.drew := by
  obtain ⟨s, a, b, c⟩ := h
  exact ⟨s, a, b, below_drewN c 1⟩

set_option maxRecDepth 100000 in
set_option maxHeartbeats 8000000 in
theorem rall_any (d : Int) (w : World) (h0 : 0 ≤ d) (h1 : d < 18446744073709551616) :
    Calls Tryd.prog 15 #[.int .u64 d] w fun e w' => AllTold d w e w' := by
  have FN := hid (fun wx : World => rfinite_any d wx h0 h1)
  have Z := FR3.new w (.bool false) (.string ⟨#[]⟩) (.int .i64 0)
  have ZB := alloc_b w (.cells #[.bool false, .string ⟨#[]⟩, .int .i64 0] 29)
  by_cases hf : Ie.fnt d = true
  · have G : Hid (∀ (w' : World) (s : ByteArray) (ys : List Int) (E : Int), Fx.Ex (Ie.dm d) (Ie.de d) ys E → Str s ys → Below w.heap.size w w' → AllTold d w (.returned (.tuple #[.agg #[.bool (decide (9223372036854775808 ≤ d)), .string s, .int .i64 E], .int .i64 0])) w') := by
      intro w' s ys E hE hs hB
      obtain ⟨a, b⟩ := hE.is (Ie.fdec d (of_decide_eq_true hf)).1
      refine ⟨s, ?_, by rw [Fx.aS, if_pos hf, Fx.X, ← a]; exact hs, hB⟩
      rw [Fx.aN, Fx.aE, Fx.aR, if_pos hf, if_pos hf, hf, Bool.true_and, Fx.P, ← b]
    have DC := hid (fun wx : World => zdecode_any d wx h0 h1)
    obtain ⟨m0, m1, e0, e1, -⟩ := Ie.fdec d (of_decide_eq_true hf)
    have HZ := hid (And.intro Z ZB)
    rw [hf] at FN
    clear Z ZB h0 h1 hf
    simp only [partsOf] at DC
    generalize decide (9223372036854775808 ≤ d) = neg at *
    generalize Ie.dm d = m at *
    generalize Ie.de d = x at *
    generalize Ie.cls d = c at *
    have ZS : Hid (∀ wx : World, Below (w.alloc (.cells #[.bool false, .string ⟨#[]⟩, .int .i64 0] 29)).heap.size (w.alloc (.cells #[.bool false, .string ⟨#[]⟩, .int .i64 0] 29)) wx → FR3 wx w.heap.size (.bool false) (.string ⟨#[]⟩) (.int .i64 0) ∧ Below w.heap.size w wx) :=
      fun wx hB => ⟨HZ.out.1.below hB HZ.out.1.lt, HZ.out.2.trans (hB.mono HZ.out.2.size)⟩
    go_enter Tryd.func15, Tryd.ntmps15
    go_wp2_with fail
    refine (FN.out _).mono ?_
    rintro e wz ⟨rfl, hz⟩
    replace hz := hz.symm
    subst hz
    clear FN
    go_wp2_with fail
    refine (DC.out _).mono ?_
    rintro e w1 ⟨rfl, hB1⟩
    have HB1 := hid hB1
    clear hB1 DC
    go_upto_region 4 with fail
    have hb := HB1.out.trans ((alloc_b w1 (.cells #[.bool neg, .int .i64 c, .int .u64 m, .int .i64 x] 47)).mono HB1.out.size)
    have P := Row4.new w1 47 (.bool neg) (.int .i64 c) (.int .u64 m) (.int .i64 x)
    have ZW := ZS.out _ hb
    obtain ⟨SS, KS, CS, BS, MS⟩ := state (fun w' => (w'.cell? ⟨w1.heap.size, 0, none⟩ = some (.bool neg) ∧ w'.cell? ⟨w1.heap.size, 2, none⟩ = some (.int .u64 m) ∧ w'.cell? ⟨w1.heap.size, 3, none⟩ = some (.int .i64 x)) ∧ FR3 w' w.heap.size (.bool false) (.string ⟨#[]⟩) (.int .i64 0)) w (((Stays.cell _ _).and ((Stays.cell _ _).and (Stays.cell _ _))).and (fun _ _ h hB => h.below hB h.lt))
    have S0 := hid (MS.out _ ⟨⟨P.cells.1.1, P.cells.1.2.2.1, P.cells.1.2.2.2⟩, ZW.1⟩ ZW.2)
    have hbg : w.heap.size < w1.heap.size := by have := HB1.out.size; have := HZ.out.1.lt; omega
    have HBG := hid hbg
    clear P hb HB1 MS ZW ZS HZ hbg
    generalize w1.alloc (.cells #[.bool neg, .int .i64 c, .int .u64 m, .int .i64 x] 47) = wA at *
    generalize w1.heap.size = b at *
    have FIN : Hid (∀ (wx : World) (s : ByteArray) (ys : List Int) (E : Int), SS wx → Fx.Ex m x ys E → Str s ys → AllTold d w (.returned (.tuple #[.agg #[.bool neg, .string s, .int .i64 E], .int .i64 0])) (((wx.setCell ⟨w.heap.size, 0, none⟩ (.bool neg)).setCell ⟨w.heap.size, 1, none⟩ (.string s)).setCell ⟨w.heap.size, 2, none⟩ (.int .i64 E)) ∧ FR3 (((wx.setCell ⟨w.heap.size, 0, none⟩ (.bool neg)).setCell ⟨w.heap.size, 1, none⟩ (.string s)).setCell ⟨w.heap.size, 2, none⟩ (.int .i64 E)) w.heap.size (.bool neg) (.string s) (.int .i64 E)) :=
      fun wx s ys E hS hE hs => ⟨G.out _ s ys E hE hs (fset3_below (BS.out _ hS) (Nat.le_refl _)), (CS.out _ hS).2.put _ _ _⟩
    by_cases hm : m = 0
    · subst hm
      obtain ⟨F1, F2⟩ := FIN.out wA ⟨#[48]⟩ [48] 0 S0.out ⟨by omega, fun _ => ⟨rfl, rfl⟩, fun h => by omega, fun h => by omega⟩ rfl
      have HF1 := hid F1
      have HF2 := hid F2
      obtain ⟨⟨q0, q2, q3⟩, ZR⟩ := CS.out _ S0.out
      obtain ⟨⟨c0, c1, c2⟩, f0, f1, f2⟩ := ZR.cells
      clear F1 F2 FIN G
      go_wp2_with fail
      (try simp only [Exit.inBlock, Exit.then])
      refine bodyPost_ret (fresults_row_tmp rfl _ _ w.heap.size 29 _ (0, 0) _ rfl HF2.out Tryd.underlying29 rfl (by kernel_rfl)) rfl ?_
      exact HF1.out
    · have hm' : (m == 0) = false := by rw [beq_eq_false_iff_ne]; exact hm
      have mp : 0 < m := by omega
      have RO := hid (fun wx : World => rrow_any m wx mp m1)
      have RS : Hid (∀ (wx : World) (p : Option Addr) (cp : Nat) (zs : List Int) (k : Nat) (u : Int), Lies wx p zs → Gf.Rw zs m → zs.length ≤ 20 → k ≤ 2000 → (u = 2 ∨ u = 5) → Calls Tryd.prog 32 #[.slice p (List.length zs) cp, .int .u64 u, .int .i64 (k : Int)] wx fun e w' => RowTold (m * u ^ k) (20 + 11 * k) wx e w') :=
        fun wx p cp zs k u h1 h2 h3 h4 h5 => rraised_any p cp zs m u k 20 wx h1 h2 mp h3 h4 (by omega) (by omega) (by omega)
      have TX : Hid (∀ (wx : World) (p : Option Addr) (cp : Nat) (zs : List Int) (v : Int) (N : Nat), Lies wx p zs → Gf.Rw zs v → 0 < v → zs.length ≤ N → N ≤ 30000 → Calls Tryd.prog 33 #[.slice p (List.length zs) cp] wx fun e w' => ∃ s ts, e = .returned (.string s) ∧ Str s ts ∧ Digs ts ∧ dv ts = v ∧ ts ≠ [] ∧ ts.getD 0 0 ≠ 48 ∧ ts.length ≤ N ∧ Below wx.heap.size wx w') := by
        intro wx p cp zs v N h1 h2 h3 h4 h5
        obtain ⟨a, b, c, e⟩ := h2.tl h3
        have l := Gf.tl_len zs
        refine (rtext_any p cp zs wx h1 h2.dig (by omega) (by rw [← l]; exact List.length_pos_iff.2 c)).mono ?_
        rintro r w' ⟨s, rfl, hs, hB⟩
        exact ⟨s, _, rfl, hs, a, b, c, e, by omega, hB⟩
      have EXE : Hid (∀ (ts : List Int) (k : Nat) (v F : Int), Digs ts → dv ts = v → ts.getD 0 0 ≠ 48 → k ≤ ts.length → (∀ i, k ≤ i → i < ts.length → ts.getD i 0 = 48) → (0 < k → ts.getD (k - 1) 0 ≠ 48) → -1074 ≤ F → v * 10 ^ (F + 1074).toNat = m * 2 ^ (x + 1074).toNat * Fx.F5 → Fx.Ex m x (ts.take k) (F + (ts.length - k))) :=
        fun ts k v F a b c e f g h i => (Fx.ex_of mp a c e f g h (by rw [b]; exact i)).1
      have XB : Hid (-1074 ≤ x ∧ x ≤ 971) := ⟨e0, e1⟩
      have EU : Hid (∀ n : Nat, (n : Int) = x → m * 2 ^ n * 10 ^ ((0 : Int) + 1074).toNat = m * 2 ^ (x + 1074).toNat * Fx.F5) := fun n hn => ex_up hn
      have ED : Hid (∀ n : Nat, (n : Int) = -x → m * 5 ^ n * 10 ^ (x + 1074).toNat = m * 2 ^ (x + 1074).toNat * Fx.F5) := fun n hn => ex_dn hn e0
      have VP : Hid (∀ (u : Int) (n : Nat), 0 < u → 0 < m * u ^ n) := fun u n hu => Int.mul_pos mp (Int.pow_pos hu)
      obtain ⟨⟨q0, q2, q3⟩, -⟩ := CS.out _ S0.out
      clear G hm
      go_wp2_with fail
      refine (RO.out _).mono ?_
      rintro e w2 ⟨p, cp, zs, rfl, L2, R2, N2, B2⟩
      have S2 := hid (KS.out _ _ S0.out B2)
      have HL2 := hid (And.intro L2 (And.intro R2 N2))
      clear L2 R2 N2 B2 S0 RO q0 q2 q3
      obtain ⟨⟨q0, q2, q3⟩, -⟩ := CS.out _ S2.out
      by_cases hx : 0 ≤ x
      · obtain ⟨n, hn⟩ := Int.eq_ofNat_of_zero_le hx
        have R3 := hid (RS.out w2 p cp zs n 2 HL2.out.1 HL2.out.2.1 HL2.out.2.2 (by omega) (.inl rfl))
        have V3 := hid (VP.out 2 n (by omega))
        have E3 := hid (EU.out n hn.symm)
        have nb : (n : Int) ≤ 971 := by omega
        clear RS EU ED VP HL2
        subst hn
        generalize m * 2 ^ n = V at *
        go_wp2_with fail
        refine R3.out.mono ?_
        rintro e w3 ⟨p3, cp3, z3, rfl, L3, RW3, N3, B3⟩
        have S3 := hid (KS.out _ _ S2.out B3)
        have T3 := hid (TX.out w3 p3 cp3 z3 V _ L3 RW3 V3.out N3 (by omega))
        clear L3 RW3 N3 B3 S2 R3 TX q0 q2 q3
        obtain ⟨⟨q0, q2, q3⟩, -⟩ := CS.out _ S3.out
        go_wp2_with fail
        refine T3.out.mono ?_
        rintro e w4 ⟨s, ts, rfl, hs, td, tv, tn, th, tl, B4⟩
        have S4 := hid (KS.out _ _ S3.out B4)
        obtain ⟨L, hL⟩ : ∃ L, ts.length = L := ⟨_, rfl⟩
        have sL : s.size = L := by rw [hs.size, hL]
        have KK : Hid (∀ (wx : World) (k : Nat) (E : Int), SS wx → k ≤ L → (∀ i, k ≤ i → i < L → ts.getD i 0 = 48) → (0 < k → ts.getD (k - 1) 0 ≠ 48) → E = 0 + ((L : Int) - (k : Int)) → _) := fun wx k E hS hk hz hl hE => FIN.out wx (s.extract 0 k) (ts.take k) E hS (by
          rw [hE, ← hL]
          exact EXE.out ts k V (0) td tv th (by omega) (fun i a b => hz i a (by omega)) hl (by omega) E3.out) (by
          have e := hs.extract 0 k
          rw [List.drop_zero, Nat.sub_zero] at e
          exact e)
        have HA : Hid (∀ u, u < L → ∃ y : Int, 48 ≤ y ∧ y ≤ 57 ∧ ts.getD u 0 = y ∧ ∀ h : u < s.size, ((s[u]'h).toNat : Int) = y) := fun u hu => by
          have b := digs_at td u (by omega)
          exact ⟨_, b.1, b.2, rfl, fun h => hs.at u h⟩
        have L0 : 0 < L := by rw [← hL]; exact List.length_pos_iff.2 tn
        have LB : (L : Int) ≤ 30000 := by omega
        have HTH := hid th
        have hbs := HBG.out
        clear hs td tv tn th tl B4 S3 T3 FIN EXE E3 V3 q0 q2 q3 hL
        obtain ⟨⟨q0, q2, q3⟩, -⟩ := CS.out _ S4.out
        go_wp2_with fail
        go_loopg [8] L (fun j v wr => wr = w4 ∧ v = .int .i64 (j : Int) ∧ 0 < j ∧ j ≤ L ∧ Hid (∀ i, j ≤ i → i < L → ts.getD i 0 = 48))
        case atStart => exact ⟨rfl, rfl, L0, Nat.le_refl _, fun i a b => by omega⟩
        case round =>
          obtain ⟨rfl, rfl, hj0, hjL, I⟩ := hrel
          cases gk with
          | zero => omega
          | succ u =>
            obtain ⟨y, y0, y1, hy, hyi⟩ := HA.out u (by omega)
            have u1 : ((u + 1 : Nat) : Int) - 1 = (u : Int) := by omega
            have u2 : (u : Int) + 1 - 1 = (u : Int) := by omega
            have uL : (u : Int) < (L : Int) := by omega
            by_cases h48 : y = 48
            · have up : 0 < u := by
                rcases Nat.eq_zero_or_pos u with c | c
                · subst c; exact absurd (hy.trans h48) HTH.out
                · exact c
              have F : Hid (∀ i, u ≤ i → i < L → ts.getD i 0 = 48) := fun i a b => by
                by_cases e : i = u
                · subst e; omega
                · exact I.out i (by omega) b
              subst h48
              clear I KK hy
              go_wp2_with fail
              go_roundg u
              case measure => omega
              case rel => exact ⟨by first | rfl | trivial, by go_num, by omega, by omega, F.out⟩
            · have h48' : (y == 48) = false := by rw [beq_eq_false_iff_ne]; exact h48
              obtain ⟨E, hE⟩ : ∃ E, (L : Int) - ((u : Int) + 1) = E := ⟨_, rfl⟩
              have S5 := hid (KS.out _ _ S4.out (drew_nil _))
              obtain ⟨k1, k2⟩ := KK.out wr (u + 1) E S4.out (by omega) I.out (fun _ => by rw [Nat.add_sub_cancel, hy]; exact h48) (by omega)
              have K1 := hid (told_drew k1)
              have K2 := hid k2
              have uL1 : (u : Int) + 1 ≤ (L : Int) := by omega
              have WE : IntKind.i64.wrap ((L : Int)) = (L : Int) := by rw [IntKind.wrap_i64]; omega
              have WE2 : IntKind.i64.wrap ((L : Int) - ((u : Int) + 1)) = E := by rw [IntKind.wrap_i64]; omega
              obtain ⟨-, ZR⟩ := CS.out _ S4.out
              obtain ⟨⟨c0, c1, c2⟩, f0, f1, f2⟩ := ZR.cells
              obtain ⟨⟨d0, -, -⟩, ZD⟩ := CS.out _ S5.out
              obtain ⟨⟨e0', e1', e2'⟩, g0, g1, g2⟩ := ZD.cells
              clear k1 k2 KK I HA ZR ZD hy
              go_upto_region 16 with fail
              go_region
              all_goals
                go_wp2_with fail
                (try simp only [Exit.inBlock, Exit.then])
                refine bodyPost_ret (fresults_row_tmp rfl _ _ w.heap.size 29 _ (0, 0) _ rfl K2.out Tryd.underlying29 rfl (by kernel_rfl)) rfl ?_
                exact K1.out
      · obtain ⟨n, hn⟩ : ∃ n : Nat, -x = (n : Int) := ⟨(-x).toNat, by omega⟩
        have R3 := hid (RS.out w2 p cp zs n 5 HL2.out.1 HL2.out.2.1 HL2.out.2.2 (by omega) (.inr rfl))
        have V3 := hid (VP.out 5 n (by omega))
        have E3 := hid (ED.out n hn.symm)
        have nb : (n : Int) ≤ 1074 := by omega
        clear RS EU ED VP HL2
        generalize m * 5 ^ n = V at *
        go_wp2_with fail
        refine R3.out.mono ?_
        rintro e w3 ⟨p3, cp3, z3, rfl, L3, RW3, N3, B3⟩
        have S3 := hid (KS.out _ _ S2.out B3)
        have T3 := hid (TX.out w3 p3 cp3 z3 V _ L3 RW3 V3.out N3 (by omega))
        clear L3 RW3 N3 B3 S2 R3 TX q0 q2 q3
        obtain ⟨⟨q0, q2, q3⟩, -⟩ := CS.out _ S3.out
        go_wp2_with fail
        refine T3.out.mono ?_
        rintro e w4 ⟨s, ts, rfl, hs, td, tv, tn, th, tl, B4⟩
        have S4 := hid (KS.out _ _ S3.out B4)
        obtain ⟨L, hL⟩ : ∃ L, ts.length = L := ⟨_, rfl⟩
        have sL : s.size = L := by rw [hs.size, hL]
        have KK : Hid (∀ (wx : World) (k : Nat) (E : Int), SS wx → k ≤ L → (∀ i, k ≤ i → i < L → ts.getD i 0 = 48) → (0 < k → ts.getD (k - 1) 0 ≠ 48) → E = x + ((L : Int) - (k : Int)) → _) := fun wx k E hS hk hz hl hE => FIN.out wx (s.extract 0 k) (ts.take k) E hS (by
          rw [hE, ← hL]
          exact EXE.out ts k V (x) td tv th (by omega) (fun i a b => hz i a (by omega)) hl e0 E3.out) (by
          have e := hs.extract 0 k
          rw [List.drop_zero, Nat.sub_zero] at e
          exact e)
        have HA : Hid (∀ u, u < L → ∃ y : Int, 48 ≤ y ∧ y ≤ 57 ∧ ts.getD u 0 = y ∧ ∀ h : u < s.size, ((s[u]'h).toNat : Int) = y) := fun u hu => by
          have b := digs_at td u (by omega)
          exact ⟨_, b.1, b.2, rfl, fun h => hs.at u h⟩
        have L0 : 0 < L := by rw [← hL]; exact List.length_pos_iff.2 tn
        have LB : (L : Int) ≤ 30000 := by omega
        have HTH := hid th
        have hbs := HBG.out
        clear hs td tv tn th tl B4 S3 T3 FIN EXE E3 V3 q0 q2 q3 hL
        obtain ⟨⟨q0, q2, q3⟩, -⟩ := CS.out _ S4.out
        go_wp2_with fail
        go_loopg [8] L (fun j v wr => wr = w4 ∧ v = .int .i64 (j : Int) ∧ 0 < j ∧ j ≤ L ∧ Hid (∀ i, j ≤ i → i < L → ts.getD i 0 = 48))
        case atStart => exact ⟨rfl, rfl, L0, Nat.le_refl _, fun i a b => by omega⟩
        case round =>
          obtain ⟨rfl, rfl, hj0, hjL, I⟩ := hrel
          cases gk with
          | zero => omega
          | succ u =>
            obtain ⟨y, y0, y1, hy, hyi⟩ := HA.out u (by omega)
            have u1 : ((u + 1 : Nat) : Int) - 1 = (u : Int) := by omega
            have u2 : (u : Int) + 1 - 1 = (u : Int) := by omega
            have uL : (u : Int) < (L : Int) := by omega
            by_cases h48 : y = 48
            · have up : 0 < u := by
                rcases Nat.eq_zero_or_pos u with c | c
                · subst c; exact absurd (hy.trans h48) HTH.out
                · exact c
              have F : Hid (∀ i, u ≤ i → i < L → ts.getD i 0 = 48) := fun i a b => by
                by_cases e : i = u
                · subst e; omega
                · exact I.out i (by omega) b
              subst h48
              clear I KK hy
              go_wp2_with fail
              go_roundg u
              case measure => omega
              case rel => exact ⟨by first | rfl | trivial, by go_num, by omega, by omega, F.out⟩
            · have h48' : (y == 48) = false := by rw [beq_eq_false_iff_ne]; exact h48
              obtain ⟨E, hE⟩ : ∃ E, x + (L : Int) - ((u : Int) + 1) = E := ⟨_, rfl⟩
              have S5 := hid (KS.out _ _ S4.out (drew_nil _))
              obtain ⟨k1, k2⟩ := KK.out wr (u + 1) E S4.out (by omega) I.out (fun _ => by rw [Nat.add_sub_cancel, hy]; exact h48) (by omega)
              have K1 := hid (told_drew k1)
              have K2 := hid k2
              have uL1 : (u : Int) + 1 ≤ (L : Int) := by omega
              have WE : IntKind.i64.wrap (x + (L : Int)) = x + (L : Int) := by rw [IntKind.wrap_i64]; omega
              have WE2 : IntKind.i64.wrap (x + (L : Int) - ((u : Int) + 1)) = E := by rw [IntKind.wrap_i64]; omega
              obtain ⟨-, ZR⟩ := CS.out _ S4.out
              obtain ⟨⟨c0, c1, c2⟩, f0, f1, f2⟩ := ZR.cells
              obtain ⟨⟨d0, -, -⟩, ZD⟩ := CS.out _ S5.out
              obtain ⟨⟨e0', e1', e2'⟩, g0, g1, g2⟩ := ZD.cells
              clear k1 k2 KK I HA ZR ZD hy
              go_upto_region 16 with fail
              go_region
              all_goals
                go_wp2_with fail
                (try simp only [Exit.inBlock, Exit.then])
                refine bodyPost_ret (fresults_row_tmp rfl _ _ w.heap.size 29 _ (0, 0) _ rfl K2.out Tryd.underlying29 rfl (by kernel_rfl)) rfl ?_
                exact K1.out
  · have hf' : Ie.fnt d = false := by simpa using hf
    have G : Hid (∀ (w' : World), Below w.heap.size w w' → AllTold d w (.returned (.tuple #[.agg #[.bool false, .string ⟨#[]⟩, .int .i64 0], .int .i64 5])) w') := by
      intro w' hB
      refine ⟨⟨#[]⟩, ?_, by rw [Fx.aS, if_neg hf]; rfl, hB⟩
      rw [Fx.aN, Fx.aE, Fx.aR, if_neg hf, if_neg hf, hf', Bool.false_and]
    rw [hf'] at FN
    have HZ := hid (And.intro Z ZB)
    have K := hid (G.out _ ZB)
    obtain ⟨⟨c0, c1, c2⟩, f0, f1, f2⟩ := Z.cells
    clear Z ZB h0 h1 hf hf' G
    go_enter Tryd.func15, Tryd.ntmps15
    go_wp2_with fail
    refine (FN.out _).mono ?_
    rintro e wz ⟨rfl, hz⟩
    replace hz := hz.symm
    subst hz
    go_wp2_with fail
    (try simp only [Exit.inBlock, Exit.then])
    refine bodyPost_ret (fresults_row_tmp rfl _ _ w.heap.size 29 _ (0, 0) _ rfl HZ.out.1 Tryd.underlying29 rfl (by kernel_rfl)) rfl ?_
    exact K.out
end Go.Proofs.YtbdbpjghmejfjaaDoor

namespace Go.Proofs.YtbdbpjghmejfjaaDoor
open Go.RowKit Go.Deep Go.ChangeShapes Go.WideShapes Go.ChangeAt

/-- A list of limbs that was read, wherever it stands. -/
theorem open_list {H : Type} {enc : TypeId × Value → H} {W : World} {fuel : Nat} {c : Value} {y : DataW H × List MemPlace} (hf : DataW.trod enc Tryd.prog W 0 (fun _ => true) true fuel 34 [c] = some y)
    (hsz : ∀ n ∈ y.1.weights Tryd.prog 34, n ≤ reachBytes) : ∃ p n cap zs, c = .slice p n cap ∧ Arg W p n cap zs ∧ cap ≤ 17592186043904 := by
  rcases open_ints Tryd.underlying34 Tryd.underlying24 (by kernel_rfl) hf with ⟨hcs, _⟩ | ⟨x, l, cp, zs, hcs, _, hl, hm, hz, hx, hcell, hwz⟩
  · simp only [List.cons.injEq, and_true] at hcs
    exact ⟨none, 0, 0, [], hcs, ⟨rfl, Nat.le_refl _, by omega, Lies.nil _ _, Nm.Limbs.nil⟩, by omega⟩
  · simp only [List.cons.injEq, and_true] at hcs
    have hz' : zs.length = cp := by simpa using hz
    have hr := hsz (((lits (H := H) .u64 (zs.take l)).length + (lits (H := H) .u64 (zs.drop l)).length) * Tryd.prog.bytesOf 24) (by rw [hx]; simp [DataW.weights, Tryd.underlying34])
    rw [show Tryd.prog.bytesOf 24 = 8 by kernel_rfl] at hr
    simp only [lits, List.length_map, List.length_take, List.length_drop, reachBytes] at hr
    have hb : cp ≤ 17592186043904 := by omega
    exact ⟨some x, l, cp, _, hcs, arg_open hl hz' hb hcell hwz, hb⟩

theorem all_mem {H : Type} {P : Program} {e : TypeId} : ∀ {l : List (DataW H)} {d : DataW H}, d ∈ l → ∀ n ∈ d.weights P e, n ∈ DataW.weightsAll P e l
  | [], _, h, _, _ => by simp at h
  | x :: r, d, h, n, hn => by
    simp only [DataW.weightsAll, List.mem_append]
    rcases List.mem_cons.1 h with rfl | h
    · exact .inl hn
    · exact .inr (all_mem h n hn)

/-- What can be told of each place can be told of a list. -/
theorem list_of_each {α : Type} {Q : Nat → α → Prop} : ∀ n, (∀ i, i < n → ∃ x, Q i x) → ∃ l : List α, l.length = n ∧ ∀ i x, l[i]? = some x → Q i x
  | 0, _ => ⟨[], rfl, by simp⟩
  | n + 1, h => by
    obtain ⟨l, h1, h2⟩ := list_of_each n (fun i hi => h i (by omega))
    obtain ⟨x, hx⟩ := h n (by omega)
    refine ⟨l ++ [x], by simp [h1], fun i y hy => ?_⟩
    by_cases hi : i < l.length
    · rw [List.getElem?_append_left hi] at hy
      exact h2 i y hy
    · have hlt := (List.getElem?_eq_some_iff.1 hy).1
      simp only [List.length_append, List.length_cons, List.length_nil] at hlt
      obtain rfl : i = n := by omega
      rw [List.getElem?_append_right (by omega), h1, Nat.sub_self] at hy
      simp at hy
      subst hy
      exact hx
end Go.Proofs.YtbdbpjghmejfjaaDoor

namespace Go.Proofs.YtbdbpjghmejfjaaDoor
open Go.RowKit Go.Deep Go.ChangeShapes Go.WideShapes Go.ChangeAt

/-- A call that was read. -/
structure Ak where
  A : Int
  B : Int

/-- Its two cells stand there. -/
def Ak.Cells (w : World) (b o : Nat) (it : Ak) : Prop :=
  w.cell? ⟨b, o, none⟩ = some (.int .u64 it.A) ∧ w.cell? ⟨b, o + 1, none⟩ = some (.int .i64 it.B)

def Ak.Bd (it : Ak) : Prop := (0 ≤ it.A ∧ it.A < 18446744073709551616) ∧ (-9223372036854775808 ≤ it.B ∧ it.B ≤ 9223372036854775807)

def Ak.Holds (w : World) (a : Option Addr) (its : List Ak) : Prop := its = [] ∨ ∃ b off, a = some ⟨b, off, none⟩ ∧ ∀ i it, its[i]? = some it → Ak.Cells w b (off + i * 2) it

theorem list2o {α : Type} {l : List α} (h : l.length = 2) : ∃ c0 c1, l = [c0, c1] := by
  match l, h with
  | [c0, c1], _ => exact ⟨c0, c1, rfl⟩

theorem open_ask1 {H : Type} {enc : TypeId × Value → H} {W : World} {fuel : Nat} {a0 a1 : Value} {y : DataW H × List MemPlace} (hf : DataW.trod enc Tryd.prog W 0 (fun _ => true) true fuel 26 [a0, a1] = some y) :
    ∃ it : Ak, a0 = .int .u64 it.A ∧ a1 = .int .i64 it.B ∧ it.Bd := by
  obtain ⟨xs, n, _, hx, _, hlen, hfs⟩ := DataW.trod_struct Tryd.underlying26 hf
  obtain ⟨y0, y1, rfl⟩ := list2o hlen
  have cu : Tryd.prog.cellsOf 24 = 1 := by kernel_rfl
  have ci : Tryd.prog.cellsOf 3 = 1 := by kernel_rfl
  have f0 : DataW.trod enc Tryd.prog W 0 (fun _ => true) true n 24 [a0] = some y0 := by simpa [cu] using hfs 0 _ rfl
  have f1 : DataW.trod enc Tryd.prog W 0 (fun _ => true) true n 3 [a1] = some y1 := by simpa [cu, ci] using hfs 1 _ rfl
  obtain ⟨X, e0, _, w0⟩ := DataW.trod_int Tryd.underlying24 f0
  obtain ⟨Y, e1, _, w1⟩ := DataW.trod_int Tryd.underlying3 f1
  have b0 := bounds_u64 w0
  have b1 := bounds_i64 w1
  have bX : 0 ≤ X ∧ X < 18446744073709551616 := by omega
  have bY : -9223372036854775808 ≤ Y ∧ Y ≤ 9223372036854775807 := by omega
  exact ⟨⟨X, Y⟩, (List.cons.inj e0).1, (List.cons.inj e1).1, bX, bY⟩

theorem open_asks {H : Type} {enc : TypeId × Value → H} {W : World} {a : Option Addr} {len cap : Nat} {d : DataW H} {p : List MemPlace} (h : DataW.Trod enc Tryd.prog W 0 (fun _ => true) true 22 (.slice a len cap) d p)
    (hsz : ∀ n ∈ d.weights Tryd.prog 22, n ≤ reachBytes) : ∃ its : List Ak, its.length = len ∧ len ≤ cap ∧ cap ≤ 17592186044416 ∧ Ak.Holds W a its ∧ ∀ it ∈ its, Ak.Bd it := by
  obtain ⟨fuel, hf⟩ := h
  rcases DataW.trod_slice Tryd.underlying22 hf with ⟨hcs, _⟩ | ⟨x, l, c, elems, rest, n, _, hcs, hx, _, hl, hm, he, hel, hsp, _⟩
  · simp [Value.cells] at hcs
    obtain ⟨rfl, rfl, rfl⟩ := hcs
    exact ⟨[], rfl, Nat.le_refl _, by omega, .inl rfl, by intro it h; simp at h⟩
  · simp [Value.cells] at hcs
    obtain ⟨rfl, rfl, rfl⟩ := hcs
    have hd : d = .slice (elems.map (·.1)) (rest.map (·.1)) := (Prod.mk.inj hx).1
    have hw : ∀ n ∈ (DataW.slice (elems.map (·.1)) (rest.map (·.1)) : DataW H).weights Tryd.prog 22, n ≤ reachBytes := by rw [← hd]; exact hsz
    simp only [DataW.weights, Tryd.underlying22] at hw
    have hr := hw _ List.mem_cons_self
    rw [show Tryd.prog.bytesOf 26 = 16 by kernel_rfl] at hr
    have hrl := (hsp rfl).1
    simp only [List.length_map, reachBytes] at hr
    have hcap : cap ≤ 17592186044416 := by omega
    rw [show Tryd.prog.cellsOf 26 = 2 by kernel_rfl] at hel
    obtain ⟨its, i1, i2⟩ := list_of_each (Q := fun i (it : Ak) => (W.cell? (x.add (i * 2)) = some (.int .u64 it.A) ∧ W.cell? ((x.add (i * 2)).add 1) = some (.int .i64 it.B)) ∧ it.Bd) len (fun i hi => by
      have h1 := hel i hi
      have h2 : elems[i]? = some elems[i] := List.getElem?_eq_getElem (by omega)
      rw [h2] at h1
      obtain ⟨cs, h3, h4⟩ := Option.bind_eq_some_iff.1 h1
      obtain ⟨_, h5, h6⟩ := World.cells?_some h3
      obtain ⟨v0, v1, rfl⟩ := list2o h5
      have e0 := h6 0 (by omega)
      have e1 := h6 1 (by omega)
      have h8 : (x.add (i * 2)).add 0 = x.add (i * 2) := by simp [Addr.add]
      rw [h8] at e0
      obtain ⟨it, q0, q1, hA⟩ := open_ask1 h4
      subst q0
      subst q1
      exact ⟨it, ⟨e0, e1⟩, hA⟩)
    refine ⟨its, i1, hl, hcap, ?_, ?_⟩
    · rcases Nat.eq_zero_or_pos its.length with h0 | h0
      · exact .inl (List.eq_nil_of_length_eq_zero h0)
      · obtain ⟨b, off, spot⟩ := x
        have hspot : spot = none := by simpa [Addr.add] using World.cell?_spot (i2 0 _ (List.getElem?_eq_getElem h0)).1.1
        subst hspot
        refine .inr ⟨b, off, rfl, fun i it hi => ?_⟩
        obtain ⟨⟨q0, q1⟩, _⟩ := i2 i it hi
        rw [Go.WideShapes.add_plain] at q0 q1
        rw [Go.WideShapes.add_plain] at q1
        exact ⟨q0, q1⟩
    · intro it hit
      obtain ⟨i, hi⟩ := List.getElem?_of_mem hit
      exact (i2 i it hi).2
end Go.Proofs.YtbdbpjghmejfjaaDoor
