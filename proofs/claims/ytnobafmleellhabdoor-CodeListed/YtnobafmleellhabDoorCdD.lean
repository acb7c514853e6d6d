/-
  code: Effect, right.
-/
import Derived.Test.YtnobafmleellhabDoorCdC
namespace Go.Proofs.YtnobafmleellhabDoor
open Go Go.RowKit Go.Deep

set_option maxRecDepth 100000 in
set_option maxHeartbeats 4000000 in
theorem cEffect_any (x : Cd.In) (w : World) : Calls Tryd.prog 7 #[.agg #[.int .i64 x.w, .int .i64 x.a, .int .i64 x.b]] w fun e w' => e = .returned (.tuple #[.int .i64 (Cd.ef x).1, .int .i64 (Cd.ef x).2.1, .bool (Cd.ef x).2.2]) ∧ Below w.heap.size w w' := by
  have EF := hid (fun W tb h => ceff_any x W tb h)
  have WO := hid (fun W => cwords_any W)
  have LA := hid (fun W => cd_lay W)
  have TH := hid (fun W => cd_there W)
  have B1 := hid (alloc_b w (.cells #[.int .i64 x.w, .int .i64 x.a, .int .i64 x.b] 28))
  have X1 := hid (Bx.new w 28 #[.int .i64 x.w, .int .i64 x.a, .int .i64 x.b])
  generalize Cd.ef x = E at *
  obtain ⟨k, a, b⟩ := x
  simp only at B1 X1 EF ⊢
  go_enter Tryd.func7, Tryd.ntmps7
  go_upto_region 1 with fail
  generalize w.alloc (.cells #[.int .i64 k, .int .i64 a, .int .i64 b] 28) = w1 at *
  go_wp2_with (first
    | (go_at_call 15; refine (WO.out _).mono ?_; rintro e w2 ⟨rfl, hB⟩; obtain ⟨W2, hW, hT, hB2⟩ := LA.out w2; have HW := hid hW; have T2 := hid hT; have X2 := hid ((X1.out.on hB).on hB2); have B2 := hid (below_on (below_on B1.out hB) hB2); obtain ⟨c0, c1, c2⟩ := bx3 X2.out; clear hB hB2 hW hT WO LA)
    | (refine wpList_store_to rfl 55 _ _ rfl w2.heap.size 0 _ rfl rfl (TH.out w2) cd_info cd_one HW.out ?_; clear TH HW)
    | (go_at_call 16; refine (EF.out _ _ T2.out).mono ?_; rintro e w3 ⟨rfl, hB⟩; have B3 := hid (below_on B2.out hB); clear hB EF))
  go_ret3
  exact ⟨rfl, B3.out⟩

theorem Cd.rt_no {n N S i : Nat} {x : Cd.In} (h : Cd.ok x = false) : Cd.rt n N S i x = false := by unfold Cd.rt; rw [h]; rfl
theorem Cd.rt_1 {n N S i : Nat} {x : Cd.In} (h : Cd.ok x = true) (a : (Cd.rx x).a = 1) : Cd.rt n N S i x = decide (x.a < N) := by unfold Cd.rt; rw [h, if_pos a]; rfl
theorem Cd.rt_2 {n N S i : Nat} {x : Cd.In} (h : Cd.ok x = true) (a : (Cd.rx x).a = 2) : Cd.rt n N S i x = decide (x.a < S) := by unfold Cd.rt; rw [h, if_neg (by omega), if_pos a]; rfl
theorem Cd.rt_3 {n N S i : Nat} {x : Cd.In} (h : Cd.ok x = true) (a : (Cd.rx x).a = 3) : Cd.rt n N S i x = decide ((i : Int) + 1 ≤ x.a ∧ x.a ≤ n) := by unfold Cd.rt; rw [h, if_neg (by omega), if_neg (by omega), if_pos a]; rfl
theorem Cd.rt_4 {n N S i : Nat} {x : Cd.In} (h : Cd.ok x = true) (a : (Cd.rx x).a ≠ 1) (b : (Cd.rx x).a ≠ 2) (c : (Cd.rx x).a ≠ 3) : Cd.rt n N S i x = true := by unfold Cd.rt; rw [h, if_neg a, if_neg b, if_neg c]; rfl
theorem Cd.ef_ok (x : Cd.In) : (Cd.ef x).2.2 = Cd.ok x := by unfold Cd.ef; cases Cd.ok x <;> rfl

set_option maxRecDepth 100000 in
set_option maxHeartbeats 4000000 in
theorem cright_any (l : List Cd.In) (p q r : Option Addr) (cap N c2 S c3 i : Nat) (x : Cd.In) (w : World) (tb : Nat) (hT : Cd.TB w tb) (hL : Cd.LI w p l) (hx : l[i]? = some x) (hn : l.length ≤ 9223372036854775807) (hN : N ≤ 9223372036854775807) (hS : S ≤ 9223372036854775807) :
    Calls Tryd.prog 17 #[.pointer (some ⟨tb, 0, none⟩), .agg #[.slice p l.length cap, .slice q N c2, .slice r S c3], .int .i64 (i : Int)] w fun e w' => e = .returned (.bool (Cd.rt l.length N S i x)) ∧ Below w.heap.size w w' := by
  have il : i < l.length := (List.getElem?_eq_some_iff.1 hx).1
  obtain ⟨n, hn'⟩ : ∃ n, l.length = n := ⟨_, rfl⟩
  rw [hn'] at il hn ⊢
  have ili : (i : Int) < (n : Int) := by omega
  have hni : (n : Int) ≤ 9223372036854775807 := by omega
  have hNi : (N : Int) ≤ 9223372036854775807 := by omega
  have hSi : (S : Int) ≤ 9223372036854775807 := by omega
  obtain ⟨b, off, rfl, c0, c1, c2'⟩ := hL i x hx
  have B1 := hid (alloc_b w (.cells #[.slice (some ⟨b, off, none⟩) n cap, .slice q N c2, .slice r S c3] 26))
  have X1 := hid (Bx.new w 26 #[.slice (some ⟨b, off, none⟩) n cap, .slice q N c2, .slice r S c3])
  have T1 := hid (hT.on B1.out)
  have EF := hid (fun W tb h => ceff_any x W tb h)
  have EO := Cd.ef_ok x
  have R0 := hid (fun h => Cd.rt_no (n := n) (N := N) (S := S) (i := i) (x := x) h)
  have R1 := hid (fun h a => Cd.rt_1 (n := n) (N := N) (S := S) (i := i) (x := x) h a)
  have R2 := hid (fun h a => Cd.rt_2 (n := n) (N := N) (S := S) (i := i) (x := x) h a)
  have R3 := hid (fun h a => Cd.rt_3 (n := n) (N := N) (S := S) (i := i) (x := x) h a)
  have R4 := hid (fun h a b c => Cd.rt_4 (n := n) (N := N) (S := S) (i := i) (x := x) h a b c)
  have OW := hid (fun h : Cd.ok x = true => Cd.ok_ft h)
  have TX := hid (fun W (h : Cd.TB W tb) hk => Cd.TB.cellx (x := x) h hk)
  generalize Cd.rt n N S i x = Z at *
  generalize Cd.ef x = E at *
  generalize Cd.ok x = okx at *
  obtain ⟨E1, E2, E3⟩ := E
  simp only at EO EF
  subst EO
  generalize hr : Cd.rx x = rr at *
  clear hr hL hx hn' hT
  obtain ⟨k, a, bb⟩ := x
  obtain ⟨nm, ra, rb, rtk, rp⟩ := rr
  simp only at c0 c1 c2' EF R1 R2 R3 R4 OW TX
  have C : Hid (∀ W, Below w.heap.size w W → W.cell? ⟨b, off + i * 3, none⟩ = some (.int .i64 k) ∧ W.cell? ⟨b, off + i * 3 + 1, none⟩ = some (.int .i64 a) ∧ W.cell? ⟨b, off + i * 3 + 2, none⟩ = some (.int .i64 bb)) := fun W hW => ⟨by rw [hW.cell (cell_lt c0)]; exact c0, by rw [hW.cell (cell_lt c1)]; exact c1, by rw [hW.cell (cell_lt c2')]; exact c2'⟩
  clear c0 c1 c2'
  go_enter Tryd.func17, Tryd.ntmps17
  go_upto_region 1 with fail
  generalize w.alloc (.cells #[.slice (some ⟨b, off, none⟩) n cap, .slice q N c2, .slice r S c3] 26) = w1 at *
  obtain ⟨k0, k1, k2⟩ := bx3 X1.out
  obtain ⟨c0, c1, c2'⟩ := C.out w1 B1.out
  have A1 := hid (alloc_b w1 (.cells #[.int .i64 k, .int .i64 a, .int .i64 bb] 28))
  have Y1 := hid (Bx.new w1 28 #[.int .i64 k, .int .i64 a, .int .i64 bb])
  go_upto_region 2 with fail
  generalize w1.alloc (.cells #[.int .i64 k, .int .i64 a, .int .i64 bb] 28) = w2 at *
  have T2 := hid (T1.out.on A1.out)
  have X2 := hid (X1.out.on A1.out)
  have B2 := hid (below_on B1.out A1.out)
  obtain ⟨d0, d1, d2⟩ := bx3 Y1.out
  clear k0 k1 k2 c0 c1 c2' X1 T1
  cases E3 with
  | false =>
    have z := R0.out rfl
    subst z
    clear R0 R1 R2 R3 R4 OW
    go_wp2_with (go_at_call 16; refine (EF.out _ _ T2.out).mono ?_; rintro e w3 ⟨rfl, hB⟩; have B3 := hid (below_on B2.out hB); clear hB EF)
    go_ret
    exact ⟨rfl, B3.out⟩
  | true =>
    obtain ⟨g1, g2, -⟩ := OW.out rfl
    have P1 := hid (R1.out rfl)
    have P2 := hid (R2.out rfl)
    have P3 := hid (R3.out rfl)
    have P4 := hid (R4.out rfl)
    clear R1 R2 R3 R4
    obtain ⟨m, rfl⟩ : ∃ m : Nat, k = (m : Int) := ⟨k.toNat, by omega⟩
    have m0 : 1 ≤ m := by omega
    have m34 : (m : Int) < 34 := by omega
    have m34n : m < 34 := by omega
    rw [Int.toNat_natCast] at TX
    go_upto_region 5 with (go_at_call 16; refine (EF.out _ _ T2.out).mono ?_; rintro e w3 ⟨rfl, hB⟩; have B3 := hid (below_on B2.out hB); have T3 := hid (T2.out.on hB); have Y3 := hid (Y1.out.on hB); have X3 := hid (X2.out.on hB); clear hB EF)
    obtain ⟨-, t1, -, -, -⟩ := TX.out w3 T3.out ⟨g1, g2⟩
    obtain ⟨e0, e1, e2⟩ := bx3 Y3.out
    obtain ⟨k0, k1, k2⟩ := bx3 X3.out
    clear d0 d1 d2 TX T2 T3 Y1 Y3 X2 X3 B2 B1 A1 R0 OW C
    go_quiet (fail)
    all_goals
      by_cases h1 : ra = 1
      · have z := P1.out h1
        subst z
        subst h1
        clear P1 P2 P3 P4
        go_wp2_with fail
        go_ret
        exact ⟨rfl, below_drewN B3.out _⟩
      · by_cases h2 : ra = 2
        · have z := P2.out h2
          subst z
          subst h2
          clear P1 P2 P3 P4
          go_wp2_with fail
          go_ret
          exact ⟨rfl, below_drewN B3.out _⟩
        · by_cases h3 : ra = 3
          · have z := P3.out h3
            subst h3
            clear P1 P2 P3 P4 h1 h2
            have WI : Hid (∀ W, _) := fun W => cwith_any a ((i : Int) + 1) n W
            rw [← z] at WI
            clear z
            go_wp2_with (go_at_call 27; refine (WI.out _).mono ?_; rintro e w4 ⟨rfl, rfl⟩)
            go_ret
            exact ⟨rfl, below_drewN B3.out _⟩
          · have z := P4.out h1 h2 h3
            subst z
            clear P1 P2 P3 P4
            go_wp2_with fail
            go_ret
            exact ⟨rfl, below_drewN B3.out _⟩
end Go.Proofs.YtnobafmleellhabDoor
