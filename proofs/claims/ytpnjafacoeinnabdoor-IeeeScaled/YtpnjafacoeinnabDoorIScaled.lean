import Derived.Test.YtpnjafacoeinnabDoorIRising
import Derived.Test.YtpnjafacoeinnabDoorMulAddW
import Derived.Test.YtpnjafacoeinnabDoorWalk4
/-
  IeeeScaled (made by mkscaled.py).
-/
namespace Go.Proofs.YtpnjafacoeinnabDoor
open Go Go.RowKit Go.Deep

/-- A list that was answered: it stands there, it is the number v, and is not too big. -/
def At (w : World) (r : Option Addr) (os : List Int) (v : Int) : Prop := Arg w r os.length os.length os ∧ Nm.val os = v ∧ Nm.tsize os ≤ 4096

theorem At.below {w w' : World} {r : Option Addr} {os : List Int} {v : Int} (h : At w r os v) (hb : Below w.heap.size w w') : At w' r os v := ⟨h.1.below hb (Nat.le_refl _), h.2⟩

theorem Ans.at' {B : Nat} {w : World} {r : Option Addr} {os : List Int} {v : Int} (h : Ans B w r os v) (hv : v < Nm.pw 4096) : At w r os v := by
  have l := ans_small h 4096 hv
  exact ⟨h.arg (by omega), h.2.2.2.1, by rw [h.2.2.1]; exact l⟩

theorem mul_lit (p : Option Addr) (n cap : Nat) (zs : List Int) (V m : Int) (L : Nat) (w : World) (ha : Arg w p n cap zs) (hV : Nm.val zs = V) (hL : Nm.tsize zs ≤ L) (hL2 : 64 * L + 64 ≤ 262144) (m0 : 0 ≤ m) (m1 : m < 18446744073709551616) (g : Obj) (hg : g = .cells #[.int .u64 m] 30) :
    Calls Tryd.prog 11 #[.slice p n cap, .slice (some ⟨w.heap.size, 0, none⟩) 1 1] (w.alloc g) fun e w' => ∃ r os, e = .returned (.tuple #[.slice r (List.length os) (List.length os), .int .i64 0]) ∧ At w' r os (V * m) ∧ Below w.heap.size w w' := by
  subst hg
  have v0 : 0 ≤ V := by rw [← hV]; exact (Nm.val_bd zs ha.2.2.2.2).1
  have v1 : V < Nm.pw L := by rw [← hV]; exact (Nm.tsize_le_iff ha.2.2.2.2 L).1 hL
  have R1 := lit_small (s := 0) v0 v1 m0 m1 (by omega)
  have hB := alloc_below w (.cells #[.int .u64 m] 30)
  have hm : Nm.val [m] = m := by simp [Nm.val]
  have := mul_ok p (some ⟨w.heap.size, 0, none⟩) n cap 1 1 zs [m] _ (ha.below hB (Nat.le_refl _)) (arg_lit (heap_alloc_new w _) m0 m1) (by omega) (by have := Nm.tsize_le [m]; simp at this; omega) (by rw [hV, hm]; exact R1.2)
  rw [hV, hm] at this
  refine this.mono ?_
  rintro e w' ⟨r, os, rfl, A, hB2⟩
  exact ⟨r, os, rfl, A.at' R1.2, hB.trans (hB2.mono hB.size)⟩

set_option maxRecDepth 100000 in
set_option maxHeartbeats 4000000 in
theorem scaledLaw_out (neg : Bool) (pN pM pD : Option Addr) (nN cN nM cM nD cD : Nat) (zN zD : List Int) (e by' : Int) (w : World) (hN : Arg w pN nN cN zN) (hD : Arg w pD nD cD zD) (hT : Tab w) (hout : 60 < nN ∨ 60 < nD ∨ 1099511627776 < e ∨ e < -1099511627776 ∨ Nm.val zD = 0) :
    Calls Tryd.prog 3 #[.agg (tieCells neg pN pM pD nN cN nM cM nD cD e by')] w fun r w' => r = .returned (.bool true) ∧ Below w.heap.size w w'  := by
  have AW := tie_awake neg pN pM pD nN cN nM cM nD cD e by' w hT
  have bN : (nN : Int) ≤ 17592186044416 := by have := hN.2.1; have := hN.2.2.1; omega
  have bD : (nD : Int) ≤ 17592186044416 := by have := hD.2.1; have := hD.2.2.1; omega
  have BL : Hid (Nm.val zD = 0 → ∀ wx : World, Below w.heap.size w wx → Calls Tryd.prog 7 #[.slice pD nD cD] wx fun e w' => e = .returned (.int .i64 0) ∧ w' = wx) := by
    intro h0 wx hx
    have h := bitLen_any pD nD cD zD wx (hD.below hx (Nat.le_refl _))
    rw [blen, if_pos ((Nm.tsize_zero_iff hD.2.2.2.2).2 h0)] at h
    exact h
  clear hT hN hD
  by_cases g1 : 60 < nN
  · have l1 : (60 : Int) < (nN : Int) := by omega
    clear hout g1
    go_enter Tryd.func3, Tryd.ntmps3
    simp only [tieCells]
    go_wp2_with fail
    refine (AW.out _ rfl).mono ?_
    rintro e' w1 ⟨rfl, hB, hsz, -, c1, -, c3, c4, c5⟩
    have HB := hid hB
    have HZ := hid hsz
    have C5 := hid c5
    clear hB AW hsz
    go_wp2_with fail
    go_ret
    exact ⟨rfl, HB.out⟩
  have l1 : ¬ (60 : Int) < (nN : Int) := by omega
  by_cases g2 : 60 < nD
  · have l2 : (60 : Int) < (nD : Int) := by omega
    clear hout g1 g2
    go_enter Tryd.func3, Tryd.ntmps3
    simp only [tieCells]
    go_wp2_with fail
    refine (AW.out _ rfl).mono ?_
    rintro e' w1 ⟨rfl, hB, hsz, -, c1, -, c3, c4, c5⟩
    have HB := hid hB
    have HZ := hid hsz
    have C5 := hid c5
    clear hB AW hsz
    go_wp2_with fail
    go_ret
    exact ⟨rfl, HB.out⟩
  have l2 : ¬ (60 : Int) < (nD : Int) := by omega
  by_cases g3 : 1099511627776 < e
  · clear hout g1 g2
    go_enter Tryd.func3, Tryd.ntmps3
    simp only [tieCells]
    go_wp2_with fail
    refine (AW.out _ rfl).mono ?_
    rintro e' w1 ⟨rfl, hB, hsz, -, c1, -, c3, c4, c5⟩
    have HB := hid hB
    have HZ := hid hsz
    have C5 := hid c5
    clear hB AW hsz
    go_wp2_with fail
    go_ret
    exact ⟨rfl, HB.out⟩
  by_cases g4 : e < -1099511627776
  · clear hout g1 g2
    go_enter Tryd.func3, Tryd.ntmps3
    simp only [tieCells]
    go_wp2_with fail
    refine (AW.out _ rfl).mono ?_
    rintro e' w1 ⟨rfl, hB, hsz, -, c1, -, c3, c4, c5⟩
    have HB := hid hB
    have HZ := hid hsz
    have C5 := hid c5
    clear hB AW hsz
    go_wp2_with fail
    go_ret
    exact ⟨rfl, HB.out⟩
  have g5 : Nm.val zD = 0 := by omega
  have BL1 := hid (BL.out g5)
  clear hout g1 g2 g5 BL
  go_enter Tryd.func3, Tryd.ntmps3
  simp only [tieCells]
  go_wp2_with fail
  refine (AW.out _ rfl).mono ?_
  rintro e' w1 ⟨rfl, hB, hsz, -, c1, -, c3, c4, c5⟩
  have HB := hid hB
  have HZ := hid hsz
  have C5 := hid c5
  clear hB AW hsz
  go_wp2_with fail
  refine (BL1.out _ HB.out).mono ?_
  rintro e' w2 ⟨rfl, rfl⟩
  go_wp2_with fail
  go_ret
  exact ⟨rfl, HB.out⟩

theorem rnd_alike {V e x y : Int} (h : Ie.Rnd V 1 e false x) (h' : Ie.Rnd V 1 e false y) : y = x := h'.one (by omega) (by omega) h (a := 0) (a' := 0) (by omega) rfl

/-- Numerator and denominator multiplied by the same. -/
theorem rnd_both {V D e c x y : Int} (hd : 0 < D) (hc : 0 < c) (h : Ie.Rnd V D e false x) (h' : Ie.Rnd (V * c) (D * c) e false y) : y = x :=
  h'.one (Int.mul_pos hd hc) hd h (a := 0) (a' := 0) (by omega) (by rw [Int.mul_assoc V, Int.mul_comm c D])

set_option maxRecDepth 100000 in
set_option maxHeartbeats 8000000 in
theorem scaledLaw_in (neg : Bool) (pN pM pD : Option Addr) (nN cN nM cM nD cD : Nat) (zN zD : List Int) (e by' : Int) (w : World) (hN : Arg w pN nN cN zN) (hD : Arg w pD nD cD zD) (hT : Tab w) (gN : nN ≤ 60) (gD : nD ≤ 60) (g3 : e ≤ 1099511627776) (g4 : -1099511627776 ≤ e) (hd : Nm.val zD ≠ 0) (b0 : 0 ≤ by') (b1 : by' ≤ 255) :
    Calls Tryd.prog 3 #[.agg (tieCells neg pN pM pD nN cN nM cM nD cD e by')] w fun r w' => r = .returned (.bool true) ∧ Below w.heap.size w w'  := by
  have AW := tie_awake neg pN pM pD nN cN nM cM nD cD e by' w hT
  obtain ⟨V, hV⟩ : ∃ V, Nm.val zN = V := ⟨_, rfl⟩
  obtain ⟨D, hDe⟩ : ∃ D, Nm.val zD = D := ⟨_, rfl⟩
  obtain ⟨k, hk⟩ : ∃ k : Nat, by' = (k : Int) := ⟨by'.toNat, by omega⟩
  subst hk
  have v0 : 0 ≤ V := by rw [← hV]; exact (Nm.val_bd zN hN.2.2.2.2).1
  have d0 : 0 < D := by have := (Nm.val_bd zD hD.2.2.2.2).1; rw [hDe] at this hd; omega
  have tN := hN.tl
  have tD := hD.tl
  have v1 : V < Nm.pw 60 := by rw [← hV]; exact (Nm.tsize_le_iff hN.2.2.2.2 60).1 (by omega)
  have s1 := shl_room (t := k) v1 (by omega)
  have s2 := shl_room (t := 64) v1 (by omega)
  obtain ⟨L, hL, bL, -, -⟩ := blen_is zD hD.2.2.2.2
  obtain ⟨LN, hLN, bLN, -, -⟩ := blen_is zN hN.2.2.2.2
  rw [hDe] at bL
  rw [hV] at bLN
  have l0 : ((L : Int) == 0) = false := by rw [beq_eq_false_iff_ne]; have := (bL.2.2 d0).1; omega
  have BL := hid (fun (wx : World) (hx : Below w.heap.size w wx) => bitLen_n L pD nD cD zD wx (hD.below hx (Nat.le_refl _)) hL)
  have BN := hid (fun (wx : World) (hx : Below w.heap.size w wx) => bitLen_n LN pN nN cN zN wx (hN.below hx (Nat.le_refl _)) hLN)
  have SH : Hid (∀ wx : World, Below w.heap.size w wx → Calls Tryd.prog 8 #[.slice pN nN cN, .int .i64 (k : Int)] wx fun r w' => ∃ q os, r = .returned (.tuple #[.slice q (List.length os) (List.length os), .int .i64 0]) ∧ At w' q os (V * 2 ^ k) ∧ Below wx.heap.size wx w') := by
    intro wx hx
    refine (shl_any pN nN cN zN (k : Int) k wx (hN.below hx (Nat.le_refl _)) (by omega) rfl (by rw [hV]; exact s1)).mono ?_
    rintro r w' ⟨q, os, h1, A, h3⟩
    rw [hV] at A
    exact ⟨q, os, h1, A.at' s1, h3⟩
  have S6 : Hid (∀ wx : World, Below w.heap.size w wx → Calls Tryd.prog 8 #[.slice pN nN cN, .int .i64 64] wx fun r w' => ∃ q os, r = .returned (.tuple #[.slice q (List.length os) (List.length os), .int .i64 0]) ∧ At w' q os (V * 2 ^ 64) ∧ Below wx.heap.size wx w') := by
    intro wx hx
    refine (shl_any pN nN cN zN 64 64 wx (hN.below hx (Nat.le_refl _)) (by omega) rfl (by rw [hV]; exact s2)).mono ?_
    rintro r w' ⟨q, os, h1, A, h3⟩
    rw [hV] at A
    exact ⟨q, os, h1, A.at' s2, h3⟩
  have RX := hid (fun (wx : World) (hx : Below w.heap.size w wx) => roundF pN nN cN zN wx (hN.below hx (Nat.le_refl _)) (hT.below hx) (by omega) V e false hV)
  have RU := hid (fun (wx : World) (hx : Below w.heap.size w wx) => roundF pN nN cN zN wx (hN.below hx (Nat.le_refl _)) (hT.below hx) (by omega) V e true hV)
  have RT := hid (fun (wx : World) (hx : Below w.heap.size w wx) => round_any true pN nN cN zN wx (hN.below hx (Nat.le_refl _)) (hT.below hx) (by omega) V e false hV)
  have RA := hid (fun (wx : World) (hx : Below w.heap.size w wx) (r : Option Addr) (os : List Int) (v e1 : Int) (A : At wx r os v) => roundF r os.length os.length os wx A.1 (hT.below hx) A.2.2 v e1 false A.2.1)
  have Q1 : Hid (∀ wx : World, Below w.heap.size w wx → ∀ g : Obj, g = .cells #[.int .u64 1] 30 → Calls Tryd.prog 10 #[.bool false, .slice pN nN cN, .slice (some ⟨wx.heap.size, 0, none⟩) 1 1, .int .i64 e] (wx.alloc g) fun r w' => ∃ x, r = .returned (.tuple #[.int .u64 x, .int .i64 0]) ∧ Ie.Rnd V 1 e false x ∧ Below wx.heap.size wx w') := by
    intro wx hx g hg
    subst hg
    have hB := alloc_below wx (.cells #[.int .u64 1] 30)
    have hB2 := hx.trans (hB.mono hx.size)
    refine (ratioF pN _ nN cN 1 1 zN [1] _ (hN.below hB2 (Nat.le_refl _)) (arg_lit (heap_alloc_new wx _) (by omega) (by omega)) (hT.below hB2) (by omega) (by decide) V 1 e hV rfl (by omega)).mono ?_
    rintro r w' ⟨x, h1, h2, h3⟩
    exact ⟨x, h1, h2, hB.trans (h3.mono hB.size)⟩
  have MN := hid (fun (wx : World) (hx : Below w.heap.size w wx) => mul_lit pN nN cN zN V ((k : Int) + 1) 60 wx (hN.below hx (Nat.le_refl _)) hV (by omega) (by omega) (by omega) (by omega))
  have MD := hid (fun (wx : World) (hx : Below w.heap.size w wx) => mul_lit pD nD cD zD D ((k : Int) + 1) 60 wx (hD.below hx (Nat.le_refl _)) hDe (by omega) (by omega) (by omega) (by omega))
  have QP := hid (fun (wx : World) (hx : Below w.heap.size w wx) => roundRatio_any true pN pD nN cN nD cD zN zD wx (hN.below hx (Nat.le_refl _)) (hD.below hx (Nat.le_refl _)) (hT.below hx) (by omega) (by omega) V D e hV hDe d0)
  have dc1 : D < Nm.pw 60 := by rw [← hDe]; exact (Nm.tsize_le_iff hD.2.2.2.2 60).1 (by omega)
  have dc2 : D * ((k : Int) + 1) < Nm.pw 4095 := by
    have := lit_small (s := 0) (D := D) (m := (k : Int) + 1) (L := 60) (by omega) dc1 (by omega) (by omega) (by omega)
    have h1 : D * ((k : Int) + 1) < Nm.pw 60 * 18446744073709551616 := by
      have g1 : D * ((k : Int) + 1) ≤ D * 18446744073709551616 := Int.mul_le_mul_of_nonneg_left (by omega) (by omega)
      have g2 : D * 18446744073709551616 < Nm.pw 60 * 18446744073709551616 := Int.mul_lt_mul_of_pos_right dc1 (by omega)
      omega
    have h2 : Nm.pw 61 = 18446744073709551616 * Nm.pw 60 := Nm.pw_succ 60
    have h3 : Nm.pw 61 ≤ Nm.pw 4095 := Nm.pw_mono (by omega)
    omega
  have QQ : Hid (∀ wx : World, Below w.heap.size w wx → ∀ (r : Option Addr) (os : List Int) (r' : Option Addr) (os' : List Int), At wx r os (V * ((k : Int) + 1)) → At wx r' os' (D * ((k : Int) + 1)) → Calls Tryd.prog 10 #[.bool true, .slice r os.length os.length, .slice r' os'.length os'.length, .int .i64 e] wx fun y w' => ∃ x, y = .returned (.tuple #[.int .u64 (Ie.sg true x), .int .i64 0]) ∧ Ie.Rnd (V * ((k : Int) + 1)) (D * ((k : Int) + 1)) e false x ∧ Below wx.heap.size wx w') := by
    intro wx hx r os r' os' A A'
    exact roundRatio_any true r r' _ _ _ _ os os' wx A.1 A'.1 (hT.below hx) A.2.2 ((Nm.tsize_le_iff A'.1.2.2.2.2 4095).2 (by rw [A'.2.1]; exact dc2)) _ _ e A.2.1 A'.2.1 (Int.mul_pos d0 (by omega))
  have s3 : V * 2 ^ 64 * 1 + 1 < Nm.pw 4096 := by
    have h1 := shl_room (t := 65) v1 (by omega)
    have h2 : (2 : Int) ^ 65 = 2 * 2 ^ 64 := Nm.two_succ 64
    have e64 : (2 : Int) ^ 64 = 18446744073709551616 := by decide
    rw [h2, e64] at h1
    rw [e64]
    rcases (show V = 0 ∨ 0 < V by omega) with h | h
    · have := Nm.pw_mono (show 1 ≤ 4096 by omega)
      have : Nm.pw 1 = 18446744073709551616 := rfl
      rw [h]; omega
    · omega
  have MA : Hid (∀ wx : World, Below w.heap.size w wx → ∀ (r : Option Addr) (os : List Int), At wx r os (V * 2 ^ 64) → Calls Tryd.prog 12 #[.slice r os.length os.length, .int .u64 1, .int .u64 1] wx fun y w' => ∃ q os, y = .returned (.tuple #[.slice q (List.length os) (List.length os), .int .i64 0]) ∧ At w' q os (V * 2 ^ 64 + 1) ∧ Below wx.heap.size wx w') := by
    intro wx hx r os A
    have := mulAdd_any r _ _ os 1 1 wx A.1 A.2.2 (by omega) (by omega) (by omega) (by omega)
    rw [A.2.1] at this
    refine this.mono ?_
    rintro y w' ⟨h1, -, h3⟩
    obtain ⟨q, os', h4, A'⟩ := h1 s3
    have e1 : V * 2 ^ 64 * 1 + 1 = V * 2 ^ 64 + 1 := by rw [Int.mul_one]
    rw [e1] at A' s3
    exact ⟨q, os', h4, A'.at' s3, h3⟩
  have l1 : ¬ (60 : Int) < (nN : Int) := by omega
  have l2 : ¬ (60 : Int) < (nD : Int) := by omega
  have l3 : ¬ 1099511627776 < e := by omega
  have l4 : ¬ e < -1099511627776 := by omega
  have kk : (k : Int) ≤ 255 := by omega
  have dd := hid d0
  have vv := hid v0
  have BLN := hid bLN
  clear hT hN hD hV hDe tN tD hL bL gN gD hd d0 v0 v1 s1 s2 s3 dc1 dc2 hLN bLN b0 b1
  rcases (show V = 0 ∨ 0 < V by have := vv.out; omega) with hv | hv
  · have LZ : LN = 0 := BLN.out.2.1 hv
    subst LZ
    subst hv
    go_enter Tryd.func3, Tryd.ntmps3
    simp only [tieCells]
    go_wp2_with fail
    refine (AW.out _ rfl).mono ?_
    rintro e' w1 ⟨rfl, hB, hsz, -, c1, -, c3, c4, c5⟩
    have HB := hid hB
    have HZ := hid hsz
    have C5 := hid c5
    clear hB AW hsz
    go_wp2_with fail
    refine (BL.out _ HB.out).mono ?_
    rintro e' w2 ⟨rfl, rfl⟩
    clear BL
    go_wp2_with fail
    clear c1 c3 c4
    refine (SH.out _ HB.out).mono ?_
    rintro e' w3 ⟨qu, ou, rfl, Aup, hB2⟩
    have HB2 := hid (HB.out.trans (hB2.mono HB.out.size))
    have c52 : w3.cell? ⟨w.heap.size, 5, none⟩ = some (.int .u8 (k : Int)) := by rw [hB2.cell (p := ⟨w.heap.size, 5, none⟩) (cell_lt C5.out)]; exact C5.out
    have C52 := hid c52
    have up := hid Aup
    clear Aup
    clear hB2
    go_wp2_with fail
    refine (RX.out _ HB2.out).mono ?_
    rintro e' w4 ⟨x, rfl, rx, hB3⟩
    have HB3 := hid (HB2.out.trans (hB3.mono HB2.out.size))
    have c53 : w4.cell? ⟨w.heap.size, 5, none⟩ = some (.int .u8 (k : Int)) := by rw [hB3.cell (p := ⟨w.heap.size, 5, none⟩) (cell_lt C52.out)]; exact C52.out
    have C53 := hid c53
    clear c52 C52
    have up := hid (up.out.below hB3)
    have xb := rx.bd
    obtain ⟨x0, x1⟩ := xb
    have RXX := hid rx
    clear rx
    clear hB3
    go_wp2_with fail
    refine (RA.out _ HB3.out qu ou _ _ up.out).mono ?_
    rintro e' w5 ⟨y, rfl, ry, hB4⟩
    have HB4 := hid (HB3.out.trans (hB4.mono HB3.out.size))
    have c54 : w5.cell? ⟨w.heap.size, 5, none⟩ = some (.int .u8 (k : Int)) := by rw [hB4.cell (p := ⟨w.heap.size, 5, none⟩) (cell_lt C53.out)]; exact C53.out
    have C54 := hid c54
    clear c53 C53
    have up := hid (up.out.below hB4)
    have hy : y = x := rnd_alike RXX.out (Ie.Rnd.num k ry)
    subst hy
    clear ry
    clear hB4
    go_wp2_with fail
    refine (Q1.out _ HB4.out _ rfl).mono ?_
    rintro e' w6 ⟨z, rfl, rz, hB5⟩
    have HB5 := hid (HB4.out.trans (hB5.mono HB4.out.size))
    have c55 : w6.cell? ⟨w.heap.size, 5, none⟩ = some (.int .u8 (k : Int)) := by rw [hB5.cell (p := ⟨w.heap.size, 5, none⟩) (cell_lt C54.out)]; exact C54.out
    have C55 := hid c55
    clear c54 C54
    have hz := rnd_alike RXX.out rz
    subst hz
    clear rz
    clear hB5
    go_wp2_with fail
    refine (RT.out _ HB5.out).mono ?_
    rintro e' w7 ⟨t, rfl, rt, hB6⟩
    have HB6 := hid (HB5.out.trans (hB6.mono HB5.out.size))
    have c56 : w7.cell? ⟨w.heap.size, 5, none⟩ = some (.int .u8 (k : Int)) := by rw [hB6.cell (p := ⟨w.heap.size, 5, none⟩) (cell_lt C55.out)]; exact C55.out
    have C56 := hid c56
    clear c55 C55
    have ht := rnd_alike RXX.out rt
    subst ht
    clear rt
    have sgt : Ie.sg true t = t + 9223372036854775808 := rfl
    rw [sgt]
    clear sgt
    clear hB6
    go_wp2_with fail
    refine (MN.out _ HB6.out _ rfl).mono ?_
    rintro e' w8 ⟨qn, on, rfl, Anc, hB7⟩
    have HB7 := hid (HB6.out.trans (hB7.mono HB6.out.size))
    have c57 : w8.cell? ⟨w.heap.size, 5, none⟩ = some (.int .u8 (k : Int)) := by rw [hB7.cell (p := ⟨w.heap.size, 5, none⟩) (cell_lt C56.out)]; exact C56.out
    have C57 := hid c57
    clear c56 C56
    have nc := hid Anc
    clear Anc
    clear hB7
    go_wp2_with fail
    refine (MD.out _ HB7.out _ rfl).mono ?_
    rintro e' w9 ⟨qd, od, rfl, Adc, hB8⟩
    have HB8 := hid (HB7.out.trans (hB8.mono HB7.out.size))
    have nc := hid (nc.out.below hB8)
    have dc := hid Adc
    clear Adc
    clear hB8
    go_wp2_with fail
    refine (QP.out _ HB8.out).mono ?_
    rintro e' w10 ⟨xp, rfl, rp, hB9⟩
    have HB9 := hid (HB8.out.trans (hB9.mono HB8.out.size))
    have nc := hid (nc.out.below hB9)
    have dc := hid (dc.out.below hB9)
    have RPP := hid rp
    have pb := rp.bd
    obtain ⟨p0, p1⟩ := pb
    clear rp
    have sgp : Ie.sg true xp = xp + 9223372036854775808 := rfl
    rw [sgp]
    clear sgp
    clear hB9
    go_wp2_with fail
    refine (QQ.out _ HB9.out qn on qd od nc.out dc.out).mono ?_
    rintro e' w11 ⟨xq, rfl, rq, hB10⟩
    have HB10 := hid (HB9.out.trans (hB10.mono HB9.out.size))
    have nc := hid (nc.out.below hB10)
    have dc := hid (dc.out.below hB10)
    have hq := rnd_both dd.out (by omega) RPP.out rq
    subst hq
    clear rq
    have sgp : Ie.sg true xq = xq + 9223372036854775808 := rfl
    rw [sgp]
    clear sgp
    clear hB10
    go_wp2_with fail
    have xz : t = 0 := RXX.out.one (by omega) (by omega) (Ie.rnd_zero 1 e false (by omega)) (a := 0) (a' := 0) (by omega) rfl
    subst xz
    refine (BN.out _ HB10.out).mono ?_
    rintro e' wz ⟨rfl, rfl⟩
    go_wp2_with fail
    go_ret
    exact ⟨rfl, HB10.out⟩
  · have LP : ((LN : Int) == 0) = false := by rw [beq_eq_false_iff_ne]; have := (BLN.out.2.2 hv).1; omega
    have hvv := hid hv
    clear hv BLN
    go_enter Tryd.func3, Tryd.ntmps3
    simp only [tieCells]
    go_wp2_with fail
    refine (AW.out _ rfl).mono ?_
    rintro e' w1 ⟨rfl, hB, hsz, -, c1, -, c3, c4, c5⟩
    have HB := hid hB
    have HZ := hid hsz
    have C5 := hid c5
    clear hB AW hsz
    go_wp2_with fail
    refine (BL.out _ HB.out).mono ?_
    rintro e' w2 ⟨rfl, rfl⟩
    clear BL
    go_wp2_with fail
    clear c1 c3 c4
    refine (SH.out _ HB.out).mono ?_
    rintro e' w3 ⟨qu, ou, rfl, Aup, hB2⟩
    have HB2 := hid (HB.out.trans (hB2.mono HB.out.size))
    have c52 : w3.cell? ⟨w.heap.size, 5, none⟩ = some (.int .u8 (k : Int)) := by rw [hB2.cell (p := ⟨w.heap.size, 5, none⟩) (cell_lt C5.out)]; exact C5.out
    have C52 := hid c52
    have up := hid Aup
    clear Aup
    clear hB2
    go_wp2_with fail
    refine (RX.out _ HB2.out).mono ?_
    rintro e' w4 ⟨x, rfl, rx, hB3⟩
    have HB3 := hid (HB2.out.trans (hB3.mono HB2.out.size))
    have c53 : w4.cell? ⟨w.heap.size, 5, none⟩ = some (.int .u8 (k : Int)) := by rw [hB3.cell (p := ⟨w.heap.size, 5, none⟩) (cell_lt C52.out)]; exact C52.out
    have C53 := hid c53
    clear c52 C52
    have up := hid (up.out.below hB3)
    have xb := rx.bd
    obtain ⟨x0, x1⟩ := xb
    have RXX := hid rx
    clear rx
    clear hB3
    go_wp2_with fail
    refine (RA.out _ HB3.out qu ou _ _ up.out).mono ?_
    rintro e' w5 ⟨y, rfl, ry, hB4⟩
    have HB4 := hid (HB3.out.trans (hB4.mono HB3.out.size))
    have c54 : w5.cell? ⟨w.heap.size, 5, none⟩ = some (.int .u8 (k : Int)) := by rw [hB4.cell (p := ⟨w.heap.size, 5, none⟩) (cell_lt C53.out)]; exact C53.out
    have C54 := hid c54
    clear c53 C53
    have up := hid (up.out.below hB4)
    have hy : y = x := rnd_alike RXX.out (Ie.Rnd.num k ry)
    subst hy
    clear ry
    clear hB4
    go_wp2_with fail
    refine (Q1.out _ HB4.out _ rfl).mono ?_
    rintro e' w6 ⟨z, rfl, rz, hB5⟩
    have HB5 := hid (HB4.out.trans (hB5.mono HB4.out.size))
    have c55 : w6.cell? ⟨w.heap.size, 5, none⟩ = some (.int .u8 (k : Int)) := by rw [hB5.cell (p := ⟨w.heap.size, 5, none⟩) (cell_lt C54.out)]; exact C54.out
    have C55 := hid c55
    clear c54 C54
    have hz := rnd_alike RXX.out rz
    subst hz
    clear rz
    clear hB5
    go_wp2_with fail
    refine (RT.out _ HB5.out).mono ?_
    rintro e' w7 ⟨t, rfl, rt, hB6⟩
    have HB6 := hid (HB5.out.trans (hB6.mono HB5.out.size))
    have c56 : w7.cell? ⟨w.heap.size, 5, none⟩ = some (.int .u8 (k : Int)) := by rw [hB6.cell (p := ⟨w.heap.size, 5, none⟩) (cell_lt C55.out)]; exact C55.out
    have C56 := hid c56
    clear c55 C55
    have ht := rnd_alike RXX.out rt
    subst ht
    clear rt
    have sgt : Ie.sg true t = t + 9223372036854775808 := rfl
    rw [sgt]
    clear sgt
    clear hB6
    go_wp2_with fail
    refine (MN.out _ HB6.out _ rfl).mono ?_
    rintro e' w8 ⟨qn, on, rfl, Anc, hB7⟩
    have HB7 := hid (HB6.out.trans (hB7.mono HB6.out.size))
    have c57 : w8.cell? ⟨w.heap.size, 5, none⟩ = some (.int .u8 (k : Int)) := by rw [hB7.cell (p := ⟨w.heap.size, 5, none⟩) (cell_lt C56.out)]; exact C56.out
    have C57 := hid c57
    clear c56 C56
    have nc := hid Anc
    clear Anc
    clear hB7
    go_wp2_with fail
    refine (MD.out _ HB7.out _ rfl).mono ?_
    rintro e' w9 ⟨qd, od, rfl, Adc, hB8⟩
    have HB8 := hid (HB7.out.trans (hB8.mono HB7.out.size))
    have nc := hid (nc.out.below hB8)
    have dc := hid Adc
    clear Adc
    clear hB8
    go_wp2_with fail
    refine (QP.out _ HB8.out).mono ?_
    rintro e' w10 ⟨xp, rfl, rp, hB9⟩
    have HB9 := hid (HB8.out.trans (hB9.mono HB8.out.size))
    have nc := hid (nc.out.below hB9)
    have dc := hid (dc.out.below hB9)
    have RPP := hid rp
    have pb := rp.bd
    obtain ⟨p0, p1⟩ := pb
    clear rp
    have sgp : Ie.sg true xp = xp + 9223372036854775808 := rfl
    rw [sgp]
    clear sgp
    clear hB9
    go_wp2_with fail
    refine (QQ.out _ HB9.out qn on qd od nc.out dc.out).mono ?_
    rintro e' w11 ⟨xq, rfl, rq, hB10⟩
    have HB10 := hid (HB9.out.trans (hB10.mono HB9.out.size))
    have nc := hid (nc.out.below hB10)
    have dc := hid (dc.out.below hB10)
    have hq := rnd_both dd.out (by omega) RPP.out rq
    subst hq
    clear rq
    have sgp : Ie.sg true xq = xq + 9223372036854775808 := rfl
    rw [sgp]
    clear sgp
    clear hB10
    go_wp2_with fail
    refine (BN.out _ HB10.out).mono ?_
    rintro e' wz ⟨rfl, rfl⟩
    go_wp2_with fail
    refine (S6.out _ HB10.out).mono ?_
    rintro e' w12 ⟨q6, o6, rfl, As6, hB11⟩
    have HB11 := hid (HB10.out.trans (hB11.mono HB10.out.size))
    have s6 := hid As6
    clear As6
    clear hB11
    go_wp2_with fail
    refine (MA.out _ HB11.out q6 o6 s6.out).mono ?_
    rintro e' w13 ⟨qf, of, rfl, Afa, hB12⟩
    have HB12 := hid (HB11.out.trans (hB12.mono HB11.out.size))
    have s6 := hid (s6.out.below hB12)
    have fa := hid Afa
    clear Afa
    clear hB12
    go_wp2_with fail
    refine (RU.out _ HB12.out).mono ?_
    rintro e' w14 ⟨u, rfl, ru, hB13⟩
    have HB13 := hid (HB12.out.trans (hB13.mono HB12.out.size))
    have fa := hid (fa.out.below hB13)
    have RUU := hid ru
    have ub := ru.bd
    obtain ⟨u0, u1⟩ := ub
    clear ru
    clear hB13
    go_wp2_with fail
    refine (RA.out _ HB13.out qf of _ _ fa.out).mono ?_
    rintro e' w15 ⟨v, rfl, rv, hB14⟩
    have HB14 := hid (HB13.out.trans (hB14.mono HB13.out.size))
    have fa := hid (fa.out.below hB14)
    have hvu : v = u := (Ie.rnd_far V e v hvv.out rv).one (by omega) (by omega) RUU.out (a := 0) (a' := 0) (by omega) rfl
    subst hvu
    clear rv
    have nx := Ie.Rnd.next (by omega) RXX.out RUU.out
    clear hB14
    rcases nx with nx | nx
    · subst nx
      go_wp2_with fail
      go_ret
      exact ⟨by simp, HB14.out⟩
    · subst nx
      go_wp2_with fail
      go_ret
      exact ⟨by simp, HB14.out⟩

theorem scaledLaw_any (neg : Bool) (pN pM pD : Option Addr) (nN cN nM cM nD cD : Nat) (zN zD : List Int) (e by' : Int) (w : World) (hN : Arg w pN nN cN zN) (hD : Arg w pD nD cD zD) (hT : Tab w) (b0 : 0 ≤ by') (b1 : by' ≤ 255) :
    Calls Tryd.prog 3 #[.agg (tieCells neg pN pM pD nN cN nM cM nD cD e by')] w fun r w' => r = .returned (.bool true) ∧ Below w.heap.size w w'  := by
  by_cases h : 60 < nN ∨ 60 < nD ∨ 1099511627776 < e ∨ e < -1099511627776 ∨ Nm.val zD = 0
  · exact scaledLaw_out neg pN pM pD nN cN nM cM nD cD zN zD e by' w hN hD hT h
  · exact scaledLaw_in neg pN pM pD nN cN nM cM nD cD zN zD e by' w hN hD hT (by omega) (by omega) (by omega) (by omega) (by omega) b0 b1
end Go.Proofs.YtpnjafacoeinnabDoor
