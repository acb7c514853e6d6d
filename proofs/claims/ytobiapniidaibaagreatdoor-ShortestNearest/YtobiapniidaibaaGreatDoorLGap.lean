/-
  abacuslaw12: gap.
-/
import Derived.Test.YtobiapniidaibaaGreatDoorWAV
import Derived.Lib.AppendIntMem
namespace Go.Proofs.YtobiapniidaibaaGreatDoor
open Go Go.RowKit Go.Deep

theorem row_str {W : World} {g n : Nat} {T : Int} (o : OwnB W g (Dn.dg 10 n T)) :
    (convert 32 9 (.slice (some ⟨g, 0, none⟩) n n)).run Tryz.prog W = .ok (.string ⟨(Sh.rb n T).toArray⟩) W := by
  have h := run_convert_bytes_back (P := Tryz.prog) W 32 9 5 ⟨g, 0, none⟩ n (Sh.rb n T) Tryz.underlying32 Tryz.underlying5 Tryz.underlying9 (fun j hj => by
    rw [Lib.add_plain, Nat.zero_add]
    have hj2 : j < n := by rw [Sh.rb_len] at hj; exact hj
    rw [o.cell j (by rw [Sh.dg_len]; exact hj2)]
    have b := Sh.dg_bd n T j hj2
    have e : (Sh.rb n T)[j] = UInt8.ofNat ((Dn.dg 10 n T).getD j 0).toNat := by
      simp [Sh.rb, List.getD, Sh.dg_len, hj2]
    rw [e, UInt8.toNat_ofNat_of_lt' (by show _ < 256; omega)]
    congr 2
    omega)
  rw [Sh.rb_len] at h
  exact h

/-- The borrow behind q places. -/
def Sh.bw (X Y : Int) (q : Nat) : Int := if X % 10 ^ q < Y % 10 ^ q then 1 else 0

def GapTold (n : Nat) (D lo : Int) (w : World) (r : Ending) (w' : World) : Prop := ∃ g, r = .returned (.tuple #[.slice (some ⟨g, 0, none⟩) n n, .int .i64 lo]) ∧ w.heap.size ≤ g ∧ OwnB w' g (Dn.dg 10 n D) ∧ Below w.heap.size w w'

set_option maxRecDepth 100000 in
set_option maxHeartbeats 4000000 in
theorem gap_any (p1 p2 : Bool) (s1 s2 : ByteArray) (xs ys : List Int) (e1 e2 lo hi : Int) (n t1 t2 : Nat) (w : World) (hs1 : Str s1 xs) (hs2 : Str s2 ys) (hd1 : Digs xs) (hd2 : Digs ys)
    (hlo : min e1 e2 = lo) (hhi : max (e1 + (xs.length : Int)) (e2 + (ys.length : Int)) = hi) (hn : hi - lo = (n : Int)) (ht1 : e1 - lo = (t1 : Int)) (ht2 : e2 - lo = (t2 : Int)) (nb : n ≤ 5000) (b0 : -5000 ≤ e1) (b1 : e1 ≤ 3000) (b2 : -5000 ≤ e2) (b3 : e2 ≤ 3000) :
    Calls Tryz.prog 11 #[.agg #[.bool p1, .string s1, .int .i64 e1], .agg #[.bool p2, .string s2, .int .i64 e2]] w fun r w' => GapTold n ((dv xs * 10 ^ t1 - dv ys * 10 ^ t2).natAbs : Int) lo w r w' := by
  obtain ⟨l1, hl1⟩ : ∃ l1 : Nat, l1 + xs.length + t1 = n := ⟨n - xs.length - t1, by omega⟩
  obtain ⟨l2, hl2⟩ : ∃ l2 : Nat, l2 + ys.length + t2 = n := ⟨n - ys.length - t2, by omega⟩
  have P1 := hid (fun wx : World => placed_any p1 s1 xs e1 lo hi l1 t1 n wx hs1 hd1 hl1 hn ht1 nb (by omega) (by omega))
  have P2 := hid (fun wx : World => placed_any p2 s2 ys e2 lo hi l2 t2 n wx hs2 hd2 hl2 hn ht2 nb (by omega) (by omega))
  have z1 := hs1.size
  have z2 := hs2.size
  have bound : ∀ (zs : List Int) (t l : Nat), Digs zs → l + zs.length + t = n → 0 ≤ dv zs * 10 ^ t ∧ dv zs * 10 ^ t < 10 ^ n := by
    intro zs t l hd h
    have b := dv_bd hd
    refine ⟨Int.mul_nonneg b.1 (Int.le_of_lt (Fx.p_pos t)), ?_⟩
    refine Int.lt_of_lt_of_le (Int.mul_lt_mul_of_pos_right b.2 (Fx.p_pos t)) ?_
    rw [← Int.pow_add]
    exact Fx.p_le (by omega)
  have q1 := bound xs t1 l1 hd1 hl1
  have q2 := bound ys t2 l2 hd2 hl2
  have lb1 : (xs.length : Int) ≤ 5000 := by omega
  have lb2 : (ys.length : Int) ≤ 5000 := by omega
  have nbi : (n : Int) ≤ 5000 := by omega
  generalize dv xs * 10 ^ t1 = X at *
  generalize dv ys * 10 ^ t2 = Y at *
  have a1 := alloc_b w (.cells #[.bool p1, .string s1, .int .i64 e1] 25)
  have a2 := alloc_b (w.alloc (.cells #[.bool p1, .string s1, .int .i64 e1] 25)) (.cells #[.bool p2, .string s2, .int .i64 e2] 25)
  have r1 := (FR3.new w (.bool p1) (.string s1) (.int .i64 e1)).below a2 (FR3.new w _ _ _).lt
  have r2 : FR3 ((w.alloc (.cells #[.bool p1, .string s1, .int .i64 e1] 25)).alloc (.cells #[.bool p2, .string s2, .int .i64 e2] 25)) (w.heap.size + 1) (.bool p2) (.string s2) (.int .i64 e2) := by
    have := FR3.new (w.alloc (.cells #[.bool p1, .string s1, .int .i64 e1] 25)) (.bool p2) (.string s2) (.int .i64 e2)
    rwa [show (w.alloc (.cells #[.bool p1, .string s1, .int .i64 e1] 25)).heap.size = w.heap.size + 1 from Array.size_push ..] at this
  have HZ := hid (And.intro r2 (a1.trans (a2.mono a1.size)))
  clear hs1 hs2 hd1 hd2 bound a1 a2 r1 r2 hl1 hl2 ht1 ht2
  go_enter Tryz.func11, Tryz.ntmps11
  go_wp2_with fail
  refine (P1.out _).mono ?_
  rintro e w1 ⟨g1, rfl, hg1, o1, B1⟩
  obtain ⟨⟨c0, c1, c2⟩, -⟩ := (HZ.out.1.below B1 HZ.out.1.lt).cells
  have BW1 := hid (HZ.out.2.trans (B1.mono HZ.out.2.size))
  have O1 := hid o1
  have G1 : Hid (w.heap.size ≤ g1) := Nat.le_trans HZ.out.2.size hg1
  clear B1 o1 hg1 P1 HZ
  go_wp2_with fail
  refine (P2.out _).mono ?_
  rintro e w2 ⟨g2, rfl, hg2, o2, B2⟩
  have o1 := O1.out.below B2 O1.out.lt
  have ne : g1 ≠ g2 := by have := O1.out.lt; omega
  have S1 := row_str o1
  have S2 := row_str o2
  have LT := Sh.rb_less n X Y q1.1 q1.2 q2.1 q2.2
  have T1 : (⟨(Sh.rb n X).toArray⟩ : ByteArray).toList = Sh.rb n X := by rw [ByteArray.toList_eq]
  have T2 : (⟨(Sh.rb n Y).toArray⟩ : ByteArray).toList = Sh.rb n Y := by rw [ByteArray.toList_eq]
  rw [← T1, ← T2] at LT
  have BW2 := hid (BW1.out.trans (B2.mono BW1.out.size))
  have OO := hid (And.intro o1 (And.intro o2 (And.intro ne (And.intro G1.out (Nat.le_trans BW1.out.size hg2)))))
  generalize (⟨(Sh.rb n X).toArray⟩ : ByteArray) = sx at *
  generalize (⟨(Sh.rb n Y).toArray⟩ : ByteArray) = sy at *
  obtain ⟨lt, hlt⟩ : ∃ lt, decide (X < Y) = lt := ⟨_, rfl⟩
  rw [hlt] at LT
  clear T1 T2 c0 c1 c2 P2 B2 o1 o2 ne O1 G1 hg2 BW1
  go_upto_if 43 with fail
  go_cut [8, 9] from 44 to 45 (fun a b wx => ∃ ga gb U V, a = .slice (some ⟨ga, 0, none⟩) n n ∧ b = .slice (some ⟨gb, 0, none⟩) n n ∧ wx = w2 ∧ Hid (OwnB w2 ga (Dn.dg 10 n U) ∧ OwnB w2 gb (Dn.dg 10 n V) ∧ ga ≠ gb ∧ w.heap.size ≤ ga ∧ 0 ≤ V ∧ V ≤ U ∧ U < 10 ^ n ∧ ((X - Y).natAbs : Int) = U - V))
  case first =>
    cases lt
    · have hle := of_decide_eq_false hlt
      go_wp2_with fail
      go_meet
      exact ⟨g1, g2, X, Y, rfl, rfl, rfl, OO.out.1, OO.out.2.1, OO.out.2.2.1, OO.out.2.2.2.1, q2.1, by omega, q1.2, by omega⟩
    · have hle := of_decide_eq_true hlt
      go_wp2_with fail
      go_meet
      exact ⟨g2, g1, Y, X, rfl, rfl, rfl, OO.out.2.1, OO.out.1, fun c => OO.out.2.2.1 c.symm, OO.out.2.2.2.2, q1.1, by omega, q2.2, by omega⟩
  obtain ⟨ga, gb, U, V, h8, h9, hwc, C⟩ := hcut
  subst h8
  subst h9
  subst hwc
  have GG : Hid (∀ w', OwnB w' ga (Dn.dg 10 n (U - V)) → Below w.heap.size w w' → GapTold n ((X - Y).natAbs : Int) lo w (.returned (.tuple #[.slice (some ⟨ga, 0, none⟩) n n, .int .i64 lo])) w') := fun w' o b => ⟨ga, rfl, C.out.2.2.2.1, by rw [C.out.2.2.2.2.2.2.2]; exact o, b⟩
  clear S1 S2 LT OO hlt
  go_wp2_with fail
  go_loopg [10, 11] n (fun k bo i wr => ∃ q : Nat, q + k = n ∧ bo = .int .u8 (Sh.bw U V q) ∧ i = .int .i64 ((k : Int) - 1) ∧ Hid (OwnB wr ga (Dn.dg 10 k (U / 10 ^ q) ++ Dn.dg 10 q (U - V)) ∧ OwnB wr gb (Dn.dg 10 n V) ∧ Below w.heap.size w wr))
  case atStart =>
    refine ⟨0, by omega, ?_, rfl, ?_⟩
    · have : Sh.bw U V 0 = 0 := by
        unfold Sh.bw
        rw [Int.pow_zero, Int.emod_one, Int.emod_one, if_neg (by omega)]
      rw [this]
    · refine ⟨?_, C.out.2.1, BW2.out⟩
      rw [Int.pow_zero, Int.ediv_one, show Dn.dg 10 0 (U - V) = [] from rfl, List.append_nil]
      exact C.out.1
  case round =>
    obtain ⟨q, hq, rfl, rfl, I⟩ := hrel
    cases gk with
    | zero =>
      have hqn : q = n := by omega
      subst hqn
      have K := hid (GG.out wr (by have := I.out.1; rw [show Dn.dg 10 0 (U / 10 ^ q) = [] from rfl, List.nil_append] at this; exact this) I.out.2.2)
      clear I GG
      generalize Sh.bw U V q = bo at *
      go_wp2_with fail
      go_ret2
      exact K.out
    | succ j =>
      rw [show ((j + 1 : Nat) : Int) - 1 = (j : Int) by omega]
      have jn : (j : Int) < (n : Int) := by omega
      obtain ⟨x, hx⟩ : ∃ x, U / 10 ^ q % 10 = x := ⟨_, rfl⟩
      obtain ⟨y, hy⟩ : ∃ y, V / 10 ^ q % 10 = y := ⟨_, rfl⟩
      obtain ⟨b, hb⟩ : ∃ b, Sh.bw U V q = b := ⟨_, rfl⟩
      have bb : b = 0 ∨ b = 1 := by rw [← hb]; unfold Sh.bw; split <;> simp
      obtain ⟨st1, st2⟩ := Sh.sub_step (X := U) (Y := V) (P := 10 ^ q) (Fx.p_pos q) (b := b) (x := x) (y := y) (by rw [← hb]; rfl) hx.symm hy.symm
      have oa := I.out.1
      have ob := I.out.2.1
      have lenA : (Dn.dg 10 (j + 1) (U / 10 ^ q) ++ Dn.dg 10 q (U - V)).length = n := by rw [List.length_append, Sh.dg_len, Sh.dg_len]; omega
      have ca := oa.cell j (by omega)
      have fa := oa.free j
      have ea : (Dn.dg 10 (j + 1) (U / 10 ^ q) ++ Dn.dg 10 q (U - V)).getD j 0 = x := by
        have h1 := Sh.dg_at (j + 1) (U / 10 ^ q) j (by omega)
        rw [show j + 1 - 1 - j = 0 by omega, Int.pow_zero, Int.ediv_one, hx] at h1
        rw [← h1]
        simp [List.getD, List.getElem?_append_left (show j < (Dn.dg 10 (j + 1) (U / 10 ^ q)).length by rw [Sh.dg_len]; omega)]
      rw [ea] at ca
      have cb := ob.cell j (by rw [Sh.dg_len]; omega)
      have eb : (Dn.dg 10 n V).getD j 0 = y := by
        rw [Sh.dg_at n V j (by omega), show n - 1 - j = q by omega, hy]
      rw [eb] at cb
      have xb : 0 ≤ x ∧ x < 10 := by omega
      have yb : 0 ≤ y ∧ y < 10 := by omega
      obtain ⟨xb0, xb1⟩ := xb
      obtain ⟨yb0, yb1⟩ := yb
      have NX : Hid (∀ (z : Int) (w' : World), z = (U - V) / 10 ^ q % 10 → OwnB w' ga ((Dn.dg 10 (j + 1) (U / 10 ^ q) ++ Dn.dg 10 q (U - V)).set j z) → OwnB w' gb (Dn.dg 10 n V) → Below w.heap.size w w' → (OwnB w' ga (Dn.dg 10 j (U / 10 ^ (q + 1)) ++ Dn.dg 10 (q + 1) (U - V)) ∧ OwnB w' gb (Dn.dg 10 n V) ∧ Below w.heap.size w w')) := by
        intro z w' hz o1 o2 o3
        rw [Sh.dg_set q j U (U - V) z hz] at o1
        exact ⟨o1, o2, o3⟩
      have far : ∀ (w' : World) (v : Value), OwnB w' gb (Dn.dg 10 n V) → OwnB (w'.setCell ⟨ga, j, none⟩ v) gb (Dn.dg 10 n V) := by
        intro w' v o
        simp only [OwnB] at *
        simp only [World.setCell, Array.getElem?_modify]
        rw [if_neg C.out.2.2.1]
        exact o
      have gw := C.out.2.2.2.1
      rw [hb]
      by_cases hc : x < y + b
      · obtain ⟨v1, v2⟩ := st1 hc
        have nbw : Hid (Sh.bw U V (q + 1) = 1) := by unfold Sh.bw; rw [Hid, Int.pow_succ, if_pos v2]
        have o1 := oa.set j (x + 10)
        have K := hid (NX.out (x + 10 - (y + b)) _ v1 (by have := o1.set j (x + 10 - (y + b)); rw [List.set_set] at this; exact this) (far _ _ (far _ (.int .u8 (x + 10)) ob)) ((I.out.2.2.setCell (p := ⟨ga, j, none⟩) gw (.int .u8 (x + 10))).setCell (p := ⟨ga, j, none⟩) gw (.int .u8 (x + 10 - (y + b)))))
        clear I oa ob o1 st1 st2 NX far v1 v2 ea eb lenA GG
        go_wp2_with fail
        go_roundg j
        case measure => omega
        case rel => exact ⟨q + 1, by omega, by rw [nbw.out], by go_num, K.out⟩
      · obtain ⟨v1, v2⟩ := st2 (by omega)
        have nbw : Hid (Sh.bw U V (q + 1) = 0) := by unfold Sh.bw; rw [Hid, Int.pow_succ, if_neg v2]
        have K := hid (NX.out (x - (y + b)) _ v1 (oa.set j (x - (y + b))) (far _ _ ob) (I.out.2.2.setCell (p := ⟨ga, j, none⟩) gw (.int .u8 (x - (y + b)))))
        clear I oa ob st1 st2 NX far v1 v2 ea eb lenA GG
        go_wp2_with fail
        go_roundg j
        case measure => omega
        case rel => exact ⟨q + 1, by omega, by rw [nbw.out], by go_num, K.out⟩
end Go.Proofs.YtobiapniidaibaaGreatDoor
