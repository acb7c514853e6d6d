/-
  Texts put together: YRes, YIs, YIs2, YFlags, YFlags5, YFl, YRef8, NearEx, YEx.
-/
import Derived.Test.YtljpmddjcfkonaaGreatDoorRG
import Derived.Test.YtljpmddjcfkonaaGreatDoorRF
import Derived.Test.YtljpmddjcfkonaaGreatDoorRE
import Derived.Test.YtljpmddjcfkonaaGreatDoorINum
namespace Go.Proofs.YtljpmddjcfkonaaGreatDoor
open Go Go.RowKit Go.Deep

theorem RN.le {B C : Nat} {w : World} {v : Value} {neg : Bool} {V D e : Int} (h : RN B w v neg V D e) (k : C ≤ B) : RN C w v neg V D e := by
  obtain ⟨p, n, c, q, m, d, zs, ys, h1, h2, h3, h4, h5, h6, h7, h8, h9⟩ := h
  exact ⟨p, n, c, q, m, d, zs, ys, h1, h2, h3, h4, h5, h6, h7, fun x hx => Nat.le_trans k (h8 x hx), fun x hx => Nat.le_trans k (h9 x hx)⟩

theorem RN.put {w wx : World} {C n c m d : Nat} {p q : Option Addr} {neg n1 : Bool} {e e1 V D : Int} (hC : w.heap.size < C) (h : RN C wx (.agg #[.bool n1, .slice p n c, .slice q m d, .int .i64 e1]) neg V D e) :
    RN w.heap.size ((((wx.setCell ⟨w.heap.size, 0, none⟩ (.bool n1)).setCell ⟨w.heap.size, 1, none⟩ (.slice p n c)).setCell ⟨w.heap.size, 2, none⟩ (.slice q m d)).setCell ⟨w.heap.size, 3, none⟩ (.int .i64 e1)) (.agg #[.bool n1, .slice p n c, .slice q m d, .int .i64 e1]) neg V D e := by
  obtain ⟨p', n', c', q', m', d', zs, ys, h1, h2, h3, h4, h5, h6, h7, h8, h9⟩ := h
  have e1 := h1
  simp only [Value.agg.injEq, Array.mk.injEq, List.cons.injEq, Value.bool.injEq, Value.slice.injEq, Value.int.injEq, and_true, true_and] at e1
  obtain ⟨rfl, ⟨rfl, rfl, rfl⟩, ⟨rfl, rfl, rfl⟩, rfl⟩ := e1
  exact ⟨p, n, c, q, m, d, zs, ys, rfl, put_arg _ _ _ _ h2 (fun x hx => by have := h8 x hx; omega), h3, h4, put_arg _ _ _ _ h5 (fun x hx => by have := h9 x hx; omega), h6, h7, fun x hx => by have := h8 x hx; omega, fun x hx => by have := h9 x hx; omega⟩

/-- A number is answered of which P tells. -/
def ResTold5 (P : Bool → Int → Int → Int → Prop) (w : World) (r : Ending) (w' : World) : Prop := ∃ v neg V D e, r = .returned v ∧ RN w.heap.size w' v neg V D e ∧ P neg V D e ∧ Below w.heap.size w w'

set_option maxRecDepth 100000 in
set_option maxHeartbeats 8000000 in
theorem yres1 (a b c : Int) {na nb : Bool} {Ma Mb ea eb : Int} (w : World) (OA : ∀ wx, Calls Tryz.prog 22 #[.int .u64 a] wx fun r w' => NumTold5 na Ma 1 ea wx r w') (OB : ∀ wx, Calls Tryz.prog 22 #[.int .u64 b] wx fun r w' => NumTold5 nb Mb 1 eb wx r w') (m0 : Ma < 9007199254740992) (m1 : Mb < 9007199254740992) (e0 : -1074 ≤ ea) (e1 : ea ≤ 971) (f0 : -1074 ≤ eb) (f1 : eb ≤ 971) :
    Calls Tryz.prog 82 #[.int .i64 1, .int .u64 a, .int .u64 b, .int .u64 c] w fun r w' => ResTold5 (fun neg V D e => D = 1 ∧ Ie.SumIs na Ma ea nb Mb eb neg V e) w r w' := by
  have Z := hid (RT.new w (.bool false) (.slice none 0 0) (.slice none 0 0) (.int .i64 0))
  have LZ : Hid ((w.alloc (.cells #[.bool false, .slice none 0 0, .slice none 0 0, .int .i64 0] 41)).heap.size = w.heap.size + 1) := by rw [Hid]; simp
  have HA := hid OA
  have HB := hid OB
  have SU := hid (fun (wx : World) vx vy (hb : w.heap.size + 1 ≤ wx.heap.size) (hx : RN (w.heap.size + 1) wx vx na Ma 1 ea) (hy : RN (w.heap.size + 1) wx vy nb Mb 1 eb) => ysum_any hx hy hb (by omega) (by omega) (by omega) (by omega) (by omega) (by omega))
  clear OA OB m0 m1 e0 e1 f0 f1
  go_enter Tryz.func82, Tryz.ntmps82
  go_upto_region 1 with fail
  generalize (w.alloc (.cells #[.bool false, .slice none 0 0, .slice none 0 0, .int .i64 0] 41)) = wz at *
  go_wp2_with fail
  with_reducible refine (HA.out _).mono ?_
  rintro r w1 ⟨va, rfl, hva, hBw1⟩
  have Z1 := hid (Z.out.on hBw1)
  go_wp2_with fail
  with_reducible refine (HB.out _).mono ?_
  rintro r w2 ⟨vb, rfl, hvb, hBw2⟩
  have Z2 := hid (Z1.out.on hBw2)
  have S2 := hid (SU.out w2 va vb (by have := LZ.out; have := hBw1.size; have := hBw2.size; omega) ((hva.le (by have := LZ.out; omega)).on hBw2) (hvb.le (by have := LZ.out; have := hBw1.size; omega)))
  clear SU hva hvb hBw1 hBw2 HA HB Z Z1 LZ
  go_wp2_with fail
  with_reducible refine S2.out.mono ?_
  rintro r w3 ⟨vs, neg, V, m, rfl, hvs, hS, hBw3⟩
  have Z3 := hid (Z2.out.on hBw3)
  have PP : Hid (Ie.SumIs na Ma ea nb Mb eb neg V m) := hS
  clear hS hBw3 Z2 S2
  obtain ⟨p9, n9, c9, q9, m9, d9, zs9, ys9, rfl, hz9⟩ := id hvs
  have HV := hid hvs
  clear hz9 hvs
  obtain ⟨⟨c0, c1, c2, c3⟩, f0', f1', f2', f3'⟩ := Z3.out.2.cells
  go_wp2_with fail
  (try simp only [Exit.inBlock, Exit.then])
  refine bodyPost_ret (results_cell_row rfl _ _ w.heap.size 41 _ (0, 0) _ rfl (Z3.out.put _ _ _ _).2 Tryz.underlying41 rfl (by kernel_rfl)) rfl ?_
  exact ⟨_, _, _, _, _, rfl, RN.put (Nat.lt_succ_self _) HV.out, ⟨rfl, PP.out⟩, (Z3.out.put _ _ _ _).1⟩

set_option maxRecDepth 100000 in
set_option maxHeartbeats 8000000 in
theorem yres2 (a b b' c : Int) {na nb : Bool} {Ma Mb ea eb : Int} (w : World) (OA : ∀ wx, Calls Tryz.prog 22 #[.int .u64 a] wx fun r w' => NumTold5 na Ma 1 ea wx r w') (NG : ∀ wx, Calls Tryz.prog 108 #[.int .u64 b] wx fun r w' => r = .returned (.int .u64 b') ∧ w' = wx) (OB : ∀ wx, Calls Tryz.prog 22 #[.int .u64 b'] wx fun r w' => NumTold5 nb Mb 1 eb wx r w') (m0 : Ma < 9007199254740992) (m1 : Mb < 9007199254740992) (e0 : -1074 ≤ ea) (e1 : ea ≤ 971) (f0 : -1074 ≤ eb) (f1 : eb ≤ 971) :
    Calls Tryz.prog 82 #[.int .i64 2, .int .u64 a, .int .u64 b, .int .u64 c] w fun r w' => ResTold5 (fun neg V D e => D = 1 ∧ Ie.SumIs na Ma ea nb Mb eb neg V e) w r w' := by
  have Z := hid (RT.new w (.bool false) (.slice none 0 0) (.slice none 0 0) (.int .i64 0))
  have LZ : Hid ((w.alloc (.cells #[.bool false, .slice none 0 0, .slice none 0 0, .int .i64 0] 41)).heap.size = w.heap.size + 1) := by rw [Hid]; simp
  have HA := hid OA
  have HB := hid OB
  have HN := hid NG
  have SU := hid (fun (wx : World) vx vy (hb : w.heap.size + 1 ≤ wx.heap.size) (hx : RN (w.heap.size + 1) wx vx na Ma 1 ea) (hy : RN (w.heap.size + 1) wx vy nb Mb 1 eb) => ysum_any hx hy hb (by omega) (by omega) (by omega) (by omega) (by omega) (by omega))
  clear OA OB m0 m1 e0 e1 f0 f1 NG
  go_enter Tryz.func82, Tryz.ntmps82
  go_upto_region 1 with fail
  generalize (w.alloc (.cells #[.bool false, .slice none 0 0, .slice none 0 0, .int .i64 0] 41)) = wz at *
  go_wp2_with fail
  with_reducible refine (HA.out _).mono ?_
  rintro r w1 ⟨va, rfl, hva, hBw1⟩
  have Z1 := hid (Z.out.on hBw1)
  go_wp2_with fail
  with_reducible refine (HN.out _).mono ?_
  rintro r w0 ⟨rfl, ew⟩
  rw [ew]
  clear ew w0
  go_wp2_with fail
  with_reducible refine (HB.out _).mono ?_
  rintro r w2 ⟨vb, rfl, hvb, hBw2⟩
  have Z2 := hid (Z1.out.on hBw2)
  have S2 := hid (SU.out w2 va vb (by have := LZ.out; have := hBw1.size; have := hBw2.size; omega) ((hva.le (by have := LZ.out; omega)).on hBw2) (hvb.le (by have := LZ.out; have := hBw1.size; omega)))
  clear SU hva hvb hBw1 hBw2 HA HB Z Z1 LZ
  go_wp2_with fail
  with_reducible refine S2.out.mono ?_
  rintro r w3 ⟨vs, neg, V, m, rfl, hvs, hS, hBw3⟩
  have Z3 := hid (Z2.out.on hBw3)
  have PP : Hid (Ie.SumIs na Ma ea nb Mb eb neg V m) := hS
  clear hS hBw3 Z2 S2
  obtain ⟨p9, n9, c9, q9, m9, d9, zs9, ys9, rfl, hz9⟩ := id hvs
  have HV := hid hvs
  clear hz9 hvs
  obtain ⟨⟨c0, c1, c2, c3⟩, f0', f1', f2', f3'⟩ := Z3.out.2.cells
  go_wp2_with fail
  (try simp only [Exit.inBlock, Exit.then])
  refine bodyPost_ret (results_cell_row rfl _ _ w.heap.size 41 _ (0, 0) _ rfl (Z3.out.put _ _ _ _).2 Tryz.underlying41 rfl (by kernel_rfl)) rfl ?_
  exact ⟨_, _, _, _, _, rfl, RN.put (Nat.lt_succ_self _) HV.out, ⟨rfl, PP.out⟩, (Z3.out.put _ _ _ _).1⟩

set_option maxRecDepth 100000 in
set_option maxHeartbeats 8000000 in
theorem yres3 (a b c : Int) {na nb : Bool} {Ma Mb ea eb : Int} (w : World) (OA : ∀ wx, Calls Tryz.prog 22 #[.int .u64 a] wx fun r w' => NumTold5 na Ma 1 ea wx r w') (OB : ∀ wx, Calls Tryz.prog 22 #[.int .u64 b] wx fun r w' => NumTold5 nb Mb 1 eb wx r w') (m0 : Ma < 9007199254740992) (m1 : Mb < 9007199254740992) (e0 : -1074 ≤ ea) (e1 : ea ≤ 971) (f0 : -1074 ≤ eb) (f1 : eb ≤ 971) :
    Calls Tryz.prog 82 #[.int .i64 3, .int .u64 a, .int .u64 b, .int .u64 c] w fun r w' => ResTold5 (fun neg V D e => D = 1 ∧ neg = (na != nb) ∧ V = Ma * Mb ∧ e = ea + eb) w r w' := by
  have Z := hid (RT.new w (.bool false) (.slice none 0 0) (.slice none 0 0) (.int .i64 0))
  have LZ : Hid ((w.alloc (.cells #[.bool false, .slice none 0 0, .slice none 0 0, .int .i64 0] 41)).heap.size = w.heap.size + 1) := by rw [Hid]; simp
  have HA := hid OA
  have HB := hid OB
  have PU := hid (fun (wx : World) vx vy (hb : w.heap.size + 1 ≤ wx.heap.size) (hx : RN (w.heap.size + 1) wx vx na Ma 1 ea) (hy : RN (w.heap.size + 1) wx vy nb Mb 1 eb) => yproduct_any hx hy hb m0 m1 (by omega) (by omega) (by omega) (by omega))
  clear OA OB m0 m1 e0 e1 f0 f1
  go_enter Tryz.func82, Tryz.ntmps82
  go_upto_region 1 with fail
  generalize (w.alloc (.cells #[.bool false, .slice none 0 0, .slice none 0 0, .int .i64 0] 41)) = wz at *
  go_wp2_with fail
  with_reducible refine (HA.out _).mono ?_
  rintro r w1 ⟨va, rfl, hva, hBw1⟩
  have Z1 := hid (Z.out.on hBw1)
  go_wp2_with fail
  with_reducible refine (HB.out _).mono ?_
  rintro r w2 ⟨vb, rfl, hvb, hBw2⟩
  have Z2 := hid (Z1.out.on hBw2)
  have S2 := hid (PU.out w2 va vb (by have := LZ.out; have := hBw1.size; have := hBw2.size; omega) ((hva.le (by have := LZ.out; omega)).on hBw2) (hvb.le (by have := LZ.out; have := hBw1.size; omega)))
  clear PU hva hvb hBw1 hBw2 HA HB Z Z1 LZ
  go_wp2_with fail
  with_reducible refine S2.out.mono ?_
  rintro r w3 ⟨vs, rfl, hvs, hBw3⟩
  have Z3 := hid (Z2.out.on hBw3)
  clear hBw3 Z2 S2
  obtain ⟨p9, n9, c9, q9, m9, d9, zs9, ys9, rfl, hz9⟩ := id hvs
  have HV := hid hvs
  clear hz9 hvs
  obtain ⟨⟨c0, c1, c2, c3⟩, f0', f1', f2', f3'⟩ := Z3.out.2.cells
  go_wp2_with fail
  (try simp only [Exit.inBlock, Exit.then])
  refine bodyPost_ret (results_cell_row rfl _ _ w.heap.size 41 _ (0, 0) _ rfl (Z3.out.put _ _ _ _).2 Tryz.underlying41 rfl (by kernel_rfl)) rfl ?_
  exact ⟨_, _, _, _, _, rfl, RN.put (Nat.lt_succ_self _) HV.out, ⟨rfl, rfl, rfl, rfl⟩, (Z3.out.put _ _ _ _).1⟩

set_option maxRecDepth 100000 in
set_option maxHeartbeats 8000000 in
theorem yres4 (a b c : Int) {na nb : Bool} {Ma Mb ea eb : Int} (w : World) (RA : ∀ wx, Calls Tryz.prog 109 #[.int .u64 a, .int .u64 b] wx fun r w' => NumTold5 (na != nb) Ma Mb (ea - eb) wx r w') :
    Calls Tryz.prog 82 #[.int .i64 4, .int .u64 a, .int .u64 b, .int .u64 c] w fun r w' => ResTold5 (fun neg V D e => D = Mb ∧ neg = (na != nb) ∧ V = Ma ∧ e = ea - eb) w r w' := by
  have Z := hid (RT.new w (.bool false) (.slice none 0 0) (.slice none 0 0) (.int .i64 0))
  have LZ : Hid ((w.alloc (.cells #[.bool false, .slice none 0 0, .slice none 0 0, .int .i64 0] 41)).heap.size = w.heap.size + 1) := by rw [Hid]; simp
  have HA := hid RA
  clear RA
  go_enter Tryz.func82, Tryz.ntmps82
  go_upto_region 1 with fail
  generalize (w.alloc (.cells #[.bool false, .slice none 0 0, .slice none 0 0, .int .i64 0] 41)) = wz at *
  go_wp2_with fail
  with_reducible refine (HA.out _).mono ?_
  rintro r w1 ⟨va, rfl, hva, hBw1⟩
  have Z1 := hid (Z.out.on hBw1)
  have hvs := hva.le (show w.heap.size + 1 ≤ wz.heap.size by have := LZ.out; omega)
  clear hva hBw1 HA Z LZ
  obtain ⟨p9, n9, c9, q9, m9, d9, zs9, ys9, rfl, hz9⟩ := id hvs
  have HV := hid hvs
  clear hz9 hvs
  obtain ⟨⟨c0, c1, c2, c3⟩, f0', f1', f2', f3'⟩ := Z1.out.2.cells
  go_wp2_with fail
  (try simp only [Exit.inBlock, Exit.then])
  refine bodyPost_ret (results_cell_row rfl _ _ w.heap.size 41 _ (0, 0) _ rfl (Z1.out.put _ _ _ _).2 Tryz.underlying41 rfl (by kernel_rfl)) rfl ?_
  exact ⟨_, _, _, _, _, rfl, RN.put (Nat.lt_succ_self _) HV.out, ⟨rfl, rfl, rfl, rfl⟩, (Z1.out.put _ _ _ _).1⟩

set_option maxRecDepth 100000 in
set_option maxHeartbeats 8000000 in
theorem yres6 (a b c : Int) {na nb nc : Bool} {Ma Mb Mc ea eb ec : Int} (w : World) (OA : ∀ wx, Calls Tryz.prog 22 #[.int .u64 a] wx fun r w' => NumTold5 na Ma 1 ea wx r w') (OB : ∀ wx, Calls Tryz.prog 22 #[.int .u64 b] wx fun r w' => NumTold5 nb Mb 1 eb wx r w') (OC : ∀ wx, Calls Tryz.prog 22 #[.int .u64 c] wx fun r w' => NumTold5 nc Mc 1 ec wx r w') (m0 : Ma < 9007199254740992) (m1 : Mb < 9007199254740992) (e0 : -1074 ≤ ea) (e1 : ea ≤ 971) (f0 : -1074 ≤ eb) (f1 : eb ≤ 971) (m2 : Mc < 9007199254740992) (k0 : -1074 ≤ ec) (k1 : ec ≤ 971) (pm : Ma * Mb < 1298074214633706907132624082305024) :
    Calls Tryz.prog 82 #[.int .i64 6, .int .u64 a, .int .u64 b, .int .u64 c] w fun r w' => ResTold5 (fun neg V D e => D = 1 ∧ Ie.SumIs (na != nb) (Ma * Mb) (ea + eb) nc Mc ec neg V e) w r w' := by
  have Z := hid (RT.new w (.bool false) (.slice none 0 0) (.slice none 0 0) (.int .i64 0))
  have LZ : Hid ((w.alloc (.cells #[.bool false, .slice none 0 0, .slice none 0 0, .int .i64 0] 41)).heap.size = w.heap.size + 1) := by rw [Hid]; simp
  have HA := hid OA
  have HB := hid OB
  have HC := hid OC
  have PU := hid (fun (wx : World) vx vy (hb : w.heap.size + 1 ≤ wx.heap.size) (hx : RN (w.heap.size + 1) wx vx na Ma 1 ea) (hy : RN (w.heap.size + 1) wx vy nb Mb 1 eb) => yproduct_any hx hy hb m0 m1 (by omega) (by omega) (by omega) (by omega))
  have SU := hid (fun (wx : World) vx vy (hb : w.heap.size + 1 ≤ wx.heap.size) (hx : RN (w.heap.size + 1) wx vx (na != nb) (Ma * Mb) 1 (ea + eb)) (hy : RN (w.heap.size + 1) wx vy nc Mc 1 ec) => ysum_any hx hy hb pm (by omega) (by omega) (by omega) (by omega) (by omega))
  clear OA OB OC m0 m1 m2 e0 e1 f0 f1 k0 k1 pm
  go_enter Tryz.func82, Tryz.ntmps82
  go_upto_region 1 with fail
  generalize (w.alloc (.cells #[.bool false, .slice none 0 0, .slice none 0 0, .int .i64 0] 41)) = wz at *
  go_wp2_with fail
  with_reducible refine (HA.out _).mono ?_
  rintro r w1 ⟨va, rfl, hva, hBw1⟩
  have Z1 := hid (Z.out.on hBw1)
  go_wp2_with fail
  with_reducible refine (HB.out _).mono ?_
  rintro r w2 ⟨vb, rfl, hvb, hBw2⟩
  have Z2 := hid (Z1.out.on hBw2)
  have S2 := hid (PU.out w2 va vb (by have := LZ.out; have := hBw1.size; have := hBw2.size; omega) ((hva.le (by have := LZ.out; omega)).on hBw2) (hvb.le (by have := LZ.out; have := hBw1.size; omega)))
  have s2 : w.heap.size + 1 ≤ w2.heap.size := by have := LZ.out; have := hBw1.size; have := hBw2.size; omega
  have S2L := hid s2
  clear PU hva hvb hBw1 hBw2 HA HB Z Z1 LZ s2
  go_wp2_with fail
  with_reducible refine S2.out.mono ?_
  rintro r w3 ⟨vp, rfl, hvp, hBw3⟩
  have Z3 := hid (Z2.out.on hBw3)
  have S3L := hid (Nat.le_trans S2L.out hBw3.size)
  clear hBw3 Z2 S2 S2L
  go_wp2_with fail
  with_reducible refine (HC.out _).mono ?_
  rintro r w4 ⟨vc, rfl, hvc, hBw4⟩
  have Z4 := hid (Z3.out.on hBw4)
  have S4 := hid (SU.out w4 vp vc (Nat.le_trans S3L.out hBw4.size) (hvp.on hBw4) (hvc.le S3L.out))
  clear SU hvp hvc hBw4 HC Z3 S3L
  go_wp2_with fail
  with_reducible refine S4.out.mono ?_
  rintro r w5 ⟨vs, neg, V, m, rfl, hvs, hS, hBw5⟩
  have Z5 := hid (Z4.out.on hBw5)
  have PP : Hid (Ie.SumIs (na != nb) (Ma * Mb) (ea + eb) nc Mc ec neg V m) := hS
  clear hS hBw5 Z4 S4
  obtain ⟨p9, n9, c9, q9, m9, d9, zs9, ys9, rfl, hz9⟩ := id hvs
  have HV := hid hvs
  clear hz9 hvs
  obtain ⟨⟨c0, c1, c2, c3⟩, f0', f1', f2', f3'⟩ := Z5.out.2.cells
  go_wp2_with fail
  (try simp only [Exit.inBlock, Exit.then])
  refine bodyPost_ret (results_cell_row rfl _ _ w.heap.size 41 _ (0, 0) _ rfl (Z5.out.put _ _ _ _).2 Tryz.underlying41 rfl (by kernel_rfl)) rfl ?_
  exact ⟨_, _, _, _, _, rfl, RN.put (Nat.lt_succ_self _) HV.out, ⟨rfl, PP.out⟩, (Z5.out.put _ _ _ _).1⟩

end Go.Proofs.YtljpmddjcfkonaaGreatDoor

namespace Go.Proofs.YtljpmddjcfkonaaGreatDoor
open Go Go.RowKit Go.Deep

/-- Two boxes. -/
def I2 (w wx : World) (g : Nat) (x0 x1 x2 x3 y0 y1 y2 y3 : Value) : Prop := RT w wx x0 x1 x2 x3 ∧ Row4 wx g 41 y0 y1 y2 y3
theorem I2.new {w wx : World} {x0 x1 x2 x3 : Value} (h : RT w wx x0 x1 x2 x3) (y0 y1 y2 y3 : Value) : I2 w (wx.alloc (.cells #[y0, y1, y2, y3] 41)) wx.heap.size x0 x1 x2 x3 y0 y1 y2 y3 := ⟨h.on (alloc_b _ _), Row4.new _ _ _ _ _ _⟩
theorem I2.on {w wx wy : World} {g : Nat} {x0 x1 x2 x3 y0 y1 y2 y3 : Value} (h : I2 w wx g x0 x1 x2 x3 y0 y1 y2 y3) (k : Below wx.heap.size wx wy) : I2 w wy g x0 x1 x2 x3 y0 y1 y2 y3 := ⟨h.1.on k, h.2.below k h.2.lt⟩
theorem I2.drew {w wx : World} {g : Nat} {x0 x1 x2 x3 y0 y1 y2 y3 : Value} (h : I2 w wx g x0 x1 x2 x3 y0 y1 y2 y3) : I2 w wx.drew g x0 x1 x2 x3 y0 y1 y2 y3 := ⟨h.1.drew, h.2⟩
theorem I2.flat {w wx : World} {g : Nat} {x0 x1 x2 x3 y0 y1 y2 y3 : Value} (h : I2 w wx g x0 x1 x2 x3 y0 y1 y2 y3) :
    (wx.cell? ⟨w.heap.size, 0, none⟩ = some x0 ∧ wx.cell? ⟨w.heap.size, 1, none⟩ = some x1 ∧ wx.cell? ⟨w.heap.size, 2, none⟩ = some x2 ∧ wx.cell? ⟨w.heap.size, 3, none⟩ = some x3) ∧
    wx.cell? ⟨g, 0, none⟩ = some y0 ∧ wx.cell? ⟨g, 1, none⟩ = some y1 ∧ wx.cell? ⟨g, 2, none⟩ = some y2 ∧ wx.cell? ⟨g, 3, none⟩ = some y3 := ⟨h.1.four, h.2.cells.1⟩

set_option maxRecDepth 100000 in
set_option maxHeartbeats 8000000 in
theorem yis_zero {B : Nat} {w : World} {v : Value} {neg ng : Bool} {V D e M ee x : Int} (h : RN B w v neg V D e) (OF : ∀ wx, Calls Tryz.prog 22 #[.int .u64 x] wx fun r w' => NumTold5 ng M 1 ee wx r w') (hv : V = 0) (x0 : 0 ≤ x) (x1 : x < 18446744073709551616) :
    Calls Tryz.prog 81 #[.int .u64 x, v] w fun r w' => r = .returned (.bool (Ie.isz x)) ∧ Below w.heap.size w w' := by
  have NX := hid (fun wx (b : Below w.heap.size w wx) => ynone_any (h.on b))
  have OFF := hid OF
  clear OF
  obtain ⟨p, n, c, q, m, d, zs, ys, rfl, h2, h3, h4, h5, h6, h7, h8, h9⟩ := h
  have Z := hid (RT.new w (.bool neg) (.slice p n c) (.slice q m d) (.int .i64 e))
  rw [decide_eq_true hv] at NX
  have YZ := hid (fun wx => yzero_any x wx x0 x1)
  clear h2 h3 h4 h5 h6 h7 h8 h9 hv x0 x1 OFF
  go_enter Tryz.func81, Tryz.ntmps81
  go_upto_region 1 with fail
  generalize (w.alloc (.cells #[.bool neg, .slice p n c, .slice q m d, .int .i64 e] 41)) = wz at *
  have zb := Z.out.1
  obtain ⟨c0, c1, c2, c3⟩ := Z.out.four
  go_wp2_with fail
  with_reducible refine (NX.out _ zb).mono ?_
  rintro r w1 ⟨rfl, hB1⟩
  have Z1 := hid (Z.out.on hB1)
  clear zb hB1 Z NX c0 c1 c2 c3
  go_wp2_with fail
  with_reducible refine (YZ.out _).mono ?_
  rintro r w2 ⟨rfl, rfl⟩
  have BZ := hid Z1.out.1
  clear YZ Z1
  go_wp2_with fail
  go_ret
  exact ⟨rfl, BZ.out⟩

set_option maxRecDepth 100000 in
set_option maxHeartbeats 8000000 in
theorem yis_none {B : Nat} {w : World} {v : Value} {neg ng : Bool} {V D e M ee x : Int} (h : RN B w v neg V D e) (OF : ∀ wx, Calls Tryz.prog 22 #[.int .u64 x] wx fun r w' => NumTold5 ng M 1 ee wx r w') (hv : ¬V = 0) (hM : M = 0) :
    Calls Tryz.prog 81 #[.int .u64 x, v] w fun r w' => r = .returned (.bool false) ∧ Below w.heap.size w w' := by
  have NX := hid (fun wx (b : Below w.heap.size w wx) => ynone_any (h.on b))
  have OFF := hid OF
  clear OF
  obtain ⟨p, n, c, q, m, d, zs, ys, rfl, h2, h3, h4, h5, h6, h7, h8, h9⟩ := h
  have Z := hid (RT.new w (.bool neg) (.slice p n c) (.slice q m d) (.int .i64 e))
  rw [decide_eq_false hv] at NX
  clear h2 h3 h4 h5 h6 h7 h8 h9
  go_enter Tryz.func81, Tryz.ntmps81
  go_upto_region 1 with fail
  generalize (w.alloc (.cells #[.bool neg, .slice p n c, .slice q m d, .int .i64 e] 41)) = wz at *
  have zb := Z.out.1
  obtain ⟨c0, c1, c2, c3⟩ := Z.out.four
  go_wp2_with fail
  with_reducible refine (NX.out _ zb).mono ?_
  rintro r w1 ⟨rfl, hB1⟩
  have Z1 := hid (Z.out.on hB1)
  clear zb hB1 Z NX c0 c1 c2 c3
  go_wp2_with fail
  with_reducible refine (OFF.out _).mono ?_
  rintro r w2 ⟨vy, rfl, hy, hB2⟩
  have HY := hid hy
  obtain ⟨p', n', c', q', m', d', zs', ys', rfl, k2, k3, k4, k5⟩ := hy
  have Z2 := hid (I2.new (Z1.out.on hB2) (.bool ng) (.slice p' n' c') (.slice q' m' d') (.int .i64 ee))
  have AB := hid (alloc_b w2 (.cells #[.bool ng, .slice p' n' c', .slice q' m' d', .int .i64 ee] 41))
  have NY := hid (ynone_any (HY.out.on AB.out))
  rw [decide_eq_true hM] at NY
  clear k2 k3 k4 AB
  go_upto_region 4 with fail
  generalize (w2.alloc (.cells #[.bool ng, .slice p' n' c', .slice q' m' d', .int .i64 ee] 41)) = w3 at *
  generalize w2.heap.size = g at *
  clear hB2 HY Z1 OFF k5
  obtain ⟨⟨c0, c1, c2, c3⟩, d0, d1, d2, d3⟩ := Z2.out.flat
  go_wp2_with fail
  with_reducible refine NY.out.mono ?_
  rintro r w4 ⟨rfl, hB4⟩
  have Z4 := hid (Z2.out.on hB4)
  have B4 := hid hB4
  clear NY Z2 hB4 c0 c1 c2 c3 d0 d1 d2 d3
  obtain ⟨⟨c0, c1, c2, c3⟩, d0, d1, d2, d3⟩ := Z4.out.flat
  go_wp2_with fail
  go_ret
  exact ⟨rfl, Z4.out.1.1⟩

set_option maxRecDepth 100000 in
set_option maxHeartbeats 8000000 in
theorem yis_signA {B : Nat} {w : World} {v : Value} {neg ng : Bool} {V D e M ee x : Int} (h : RN B w v neg V D e) (OF : ∀ wx, Calls Tryz.prog 22 #[.int .u64 x] wx fun r w' => NumTold5 ng M 1 ee wx r w') (hv : ¬V = 0) (hM : ¬M = 0) (hn : neg = true) (hg : ng = false) :
    Calls Tryz.prog 81 #[.int .u64 x, v] w fun r w' => r = .returned (.bool false) ∧ Below w.heap.size w w' := by
  subst hn hg
  have NX := hid (fun wx (b : Below w.heap.size w wx) => ynone_any (h.on b))
  have OFF := hid OF
  clear OF
  obtain ⟨p, n, c, q, m, d, zs, ys, rfl, h2, h3, h4, h5, h6, h7, h8, h9⟩ := h
  have Z := hid (RT.new w (.bool true) (.slice p n c) (.slice q m d) (.int .i64 e))
  rw [decide_eq_false hv] at NX
  clear h2 h3 h4 h5 h6 h7 h8 h9
  go_enter Tryz.func81, Tryz.ntmps81
  go_upto_region 1 with fail
  generalize (w.alloc (.cells #[.bool true, .slice p n c, .slice q m d, .int .i64 e] 41)) = wz at *
  have zb := Z.out.1
  obtain ⟨c0, c1, c2, c3⟩ := Z.out.four
  go_wp2_with fail
  with_reducible refine (NX.out _ zb).mono ?_
  rintro r w1 ⟨rfl, hB1⟩
  have Z1 := hid (Z.out.on hB1)
  clear zb hB1 Z NX c0 c1 c2 c3
  go_wp2_with fail
  with_reducible refine (OFF.out _).mono ?_
  rintro r w2 ⟨vy, rfl, hy, hB2⟩
  have HY := hid hy
  obtain ⟨p', n', c', q', m', d', zs', ys', rfl, k2, k3, k4, k5⟩ := hy
  have Z2 := hid (I2.new (Z1.out.on hB2) (.bool false) (.slice p' n' c') (.slice q' m' d') (.int .i64 ee))
  have AB := hid (alloc_b w2 (.cells #[.bool false, .slice p' n' c', .slice q' m' d', .int .i64 ee] 41))
  have NY := hid (ynone_any (HY.out.on AB.out))
  rw [decide_eq_false hM] at NY
  clear k2 k3 k4 AB
  go_upto_region 4 with fail
  generalize (w2.alloc (.cells #[.bool false, .slice p' n' c', .slice q' m' d', .int .i64 ee] 41)) = w3 at *
  generalize w2.heap.size = g at *
  clear hB2 HY Z1 OFF k5
  obtain ⟨⟨c0, c1, c2, c3⟩, d0, d1, d2, d3⟩ := Z2.out.flat
  go_wp2_with fail
  with_reducible refine NY.out.mono ?_
  rintro r w4 ⟨rfl, hB4⟩
  have Z4 := hid (Z2.out.on hB4)
  have B4 := hid hB4
  clear NY Z2 hB4 c0 c1 c2 c3 d0 d1 d2 d3
  obtain ⟨⟨c0, c1, c2, c3⟩, d0, d1, d2, d3⟩ := Z4.out.flat
  go_wp2_with fail
  go_ret
  exact ⟨rfl, Z4.out.1.1⟩

set_option maxRecDepth 100000 in
set_option maxHeartbeats 8000000 in
theorem yis_signB {B : Nat} {w : World} {v : Value} {neg ng : Bool} {V D e M ee x : Int} (h : RN B w v neg V D e) (OF : ∀ wx, Calls Tryz.prog 22 #[.int .u64 x] wx fun r w' => NumTold5 ng M 1 ee wx r w') (hv : ¬V = 0) (hM : ¬M = 0) (hn : neg = false) (hg : ng = true) :
    Calls Tryz.prog 81 #[.int .u64 x, v] w fun r w' => r = .returned (.bool false) ∧ Below w.heap.size w w' := by
  subst hn hg
  have NX := hid (fun wx (b : Below w.heap.size w wx) => ynone_any (h.on b))
  have OFF := hid OF
  clear OF
  obtain ⟨p, n, c, q, m, d, zs, ys, rfl, h2, h3, h4, h5, h6, h7, h8, h9⟩ := h
  have Z := hid (RT.new w (.bool false) (.slice p n c) (.slice q m d) (.int .i64 e))
  rw [decide_eq_false hv] at NX
  clear h2 h3 h4 h5 h6 h7 h8 h9
  go_enter Tryz.func81, Tryz.ntmps81
  go_upto_region 1 with fail
  generalize (w.alloc (.cells #[.bool false, .slice p n c, .slice q m d, .int .i64 e] 41)) = wz at *
  have zb := Z.out.1
  obtain ⟨c0, c1, c2, c3⟩ := Z.out.four
  go_wp2_with fail
  with_reducible refine (NX.out _ zb).mono ?_
  rintro r w1 ⟨rfl, hB1⟩
  have Z1 := hid (Z.out.on hB1)
  clear zb hB1 Z NX c0 c1 c2 c3
  go_wp2_with fail
  with_reducible refine (OFF.out _).mono ?_
  rintro r w2 ⟨vy, rfl, hy, hB2⟩
  have HY := hid hy
  obtain ⟨p', n', c', q', m', d', zs', ys', rfl, k2, k3, k4, k5⟩ := hy
  have Z2 := hid (I2.new (Z1.out.on hB2) (.bool true) (.slice p' n' c') (.slice q' m' d') (.int .i64 ee))
  have AB := hid (alloc_b w2 (.cells #[.bool true, .slice p' n' c', .slice q' m' d', .int .i64 ee] 41))
  have NY := hid (ynone_any (HY.out.on AB.out))
  rw [decide_eq_false hM] at NY
  clear k2 k3 k4 AB
  go_upto_region 4 with fail
  generalize (w2.alloc (.cells #[.bool true, .slice p' n' c', .slice q' m' d', .int .i64 ee] 41)) = w3 at *
  generalize w2.heap.size = g at *
  clear hB2 HY Z1 OFF k5
  obtain ⟨⟨c0, c1, c2, c3⟩, d0, d1, d2, d3⟩ := Z2.out.flat
  go_wp2_with fail
  with_reducible refine NY.out.mono ?_
  rintro r w4 ⟨rfl, hB4⟩
  have Z4 := hid (Z2.out.on hB4)
  have B4 := hid hB4
  clear NY Z2 hB4 c0 c1 c2 c3 d0 d1 d2 d3
  obtain ⟨⟨c0, c1, c2, c3⟩, d0, d1, d2, d3⟩ := Z4.out.flat
  go_wp2_with fail
  go_ret
  exact ⟨rfl, Z4.out.1.1⟩

set_option maxRecDepth 100000 in
set_option maxHeartbeats 8000000 in
theorem yis_ge {B : Nat} {w : World} {v : Value} {neg ng : Bool} {V D e M ee x : Int} (h : RN B w v neg V D e) (OF : ∀ wx, Calls Tryz.prog 22 #[.int .u64 x] wx fun r w' => NumTold5 ng M 1 ee wx r w') (hv : ¬V = 0) (hM : ¬M = 0) (hn : neg = ng) (v1 : V < 2 ^ 4400) (m1 : M < 9007199254740992) (dd1 : D < 2 ^ 4400) (f0 : -4000 ≤ e) (f1 : e ≤ 4000) (g0 : -4000 ≤ ee) (g1 : ee ≤ 4000) (i : Nat) (hi : (i : Int) = e - ee) :
    Calls Tryz.prog 81 #[.int .u64 x, v] w fun r w' => r = .returned (.bool (decide (V * 2 ^ i = M * D))) ∧ Below w.heap.size w w' := by
  subst hn
  have NX := hid (fun wx (b : Below w.heap.size w wx) => ynone_any (h.on b))
  have OFF := hid OF
  clear OF
  obtain ⟨p, n, c, q, m, d, zs, ys, rfl, h2, h3, h4, h5, h6, h7, h8, h9⟩ := h
  have Z := hid (RT.new w (.bool neg) (.slice p n c) (.slice q m d) (.int .i64 e))
  rw [decide_eq_false hv] at NX
  have w0 : 0 ≤ D := by rw [← h6]; exact (Nm.val_bd ys h5.2.2.2.2).1
  obtain ⟨R, hR⟩ : ∃ R, M * D = R := ⟨_, rfl⟩
  obtain ⟨L, hL⟩ : ∃ L, V * 2 ^ i = L := ⟨_, rfl⟩
  have bR : R < 2 ^ 4500 := by
    rw [← hR]
    have t1 := Nm.two_mono (show 53 + 4400 ≤ 4500 by omega)
    have t2 : M * D ≤ 9007199254740992 * D := Int.mul_le_mul_of_nonneg_right (by omega) w0
    have t3 : (9007199254740992 : Int) * 2 ^ 4400 = 2 ^ (53 + 4400) := by rw [Int.pow_add]; rfl
    generalize (2 : Int) ^ 4400 = X at *
    generalize (2 : Int) ^ (53 + 4400) = Y at *
    generalize (2 : Int) ^ 4500 = U at *
    omega
  have bL : L < 2 ^ 20000 := by
    rw [← hL]
    have t1 := Nm.two_mono (show 4500 + i ≤ 20000 by omega)
    have t0 := Nm.two_mono (show 4400 ≤ 4500 by omega)
    have t3 : V * 2 ^ i < 2 ^ 4500 * 2 ^ i := Int.mul_lt_mul_of_pos_right (Int.lt_of_lt_of_le v1 t0) (Nm.two_pos i)
    rw [← Int.pow_add] at t3
    generalize (2 : Int) ^ (4500 + i) = X at *
    generalize (2 : Int) ^ 20000 = Y at *
    omega
  have TM : Hid (∀ (wx : World) p' n' c' zs', Below w.heap.size w wx → Arg wx p' n' c' zs' → Nm.val zs' = M → Nm.tsize zs' ≤ 4096 → Calls Tryz.prog 45 #[.slice p' n' c', .slice q m d] wx fun e w' => ∃ r os, e = .returned (.slice r (List.length os) (List.length os)) ∧ Ans wx.heap.size w' r os R ∧ Below wx.heap.size wx w') := fun wx p' n' c' zs' b k2 k3 k4 => by
    have h := times_any p' q n' c' m d zs' ys wx k2 (h5.below b (Nat.le_refl _)) (by omega) (by omega)
    rw [k3, h6, hR] at h
    exact h
  have LF := hid (lift_of h2 h3 h4 (show i ≤ 10000 by omega) hL)
  have CM : Hid (∀ (wx wy w2 : World) r os r2 os2, Ans wx.heap.size wy r os R → Below wy.heap.size wy w2 → Ans wy.heap.size w2 r2 os2 L → Calls Tryz.prog 42 #[.slice r2 (List.length os2) (List.length os2), .slice r (List.length os) (List.length os)] w2 fun e w' => e = .returned (.int .i64 (cmpI L R)) ∧ Below w2.heap.size w2 w') := fun wx wy w2 r os r2 os2 a b2 a2 => by
    have h := refCmp_any r2 r _ _ _ _ os2 os w2 (a2.arg (by have := (a2.tl bL (by omega)).2.1; omega)) ((a.arg (by have := (a.tl bR (by omega)).2.1; omega)).below b2 (Nat.le_refl _))
    rw [a.2.2.2.1, a2.2.2.2.1] at h
    exact h
  obtain ⟨s, hs⟩ : ∃ s, cmpI L R = s := ⟨_, rfl⟩
  have F : Hid ((s == 0) = decide (L = R)) := by rw [Hid, ← hs, cmp_eq0]
  rw [hs] at CM
  rw [hL, hR]
  have HK : Hid (e - ee = (i : Int)) := hi.symm
  have WK : IntKind.i64.wrap (e - ee) = e - ee := by rw [IntKind.wrap_i64]; omega
  have hle : ee ≤ e := by omega
  clear h2 h3 h4 h5 h6 h7 h8 h9 w0 bR bL hs hR hL m1 dd1 hi hv
  go_enter Tryz.func81, Tryz.ntmps81
  go_upto_region 1 with fail
  generalize (w.alloc (.cells #[.bool neg, .slice p n c, .slice q m d, .int .i64 e] 41)) = wz at *
  have zb := Z.out.1
  obtain ⟨c0, c1, c2, c3⟩ := Z.out.four
  go_wp2_with fail
  with_reducible refine (NX.out _ zb).mono ?_
  rintro r w1 ⟨rfl, hB1⟩
  have Z1 := hid (Z.out.on hB1)
  clear zb hB1 Z NX c0 c1 c2 c3
  go_wp2_with fail
  with_reducible refine (OFF.out _).mono ?_
  rintro r w2 ⟨vy, rfl, hy, hB2⟩
  have HY := hid hy
  obtain ⟨p', n', c', q', m', d', zs', ys', rfl, k2, k3, k4, k5⟩ := hy
  have Z2 := hid (I2.new (Z1.out.on hB2) (.bool neg) (.slice p' n' c') (.slice q' m' d') (.int .i64 ee))
  have AB := hid (alloc_b w2 (.cells #[.bool neg, .slice p' n' c', .slice q' m' d', .int .i64 ee] 41))
  have NY := hid (ynone_any (HY.out.on AB.out))
  rw [decide_eq_false hM] at NY
  have KY := hid (And.intro (k2.below AB.out (Nat.le_refl _)) (And.intro k3 k4))
  clear k2 k3 k4 AB
  go_upto_region 4 with fail
  generalize (w2.alloc (.cells #[.bool neg, .slice p' n' c', .slice q' m' d', .int .i64 ee] 41)) = w3 at *
  generalize w2.heap.size = g at *
  clear hB2 HY Z1 OFF k5
  obtain ⟨⟨c0, c1, c2, c3⟩, d0, d1, d2, d3⟩ := Z2.out.flat
  go_wp2_with fail
  with_reducible refine NY.out.mono ?_
  rintro r w4 ⟨rfl, hB4⟩
  have Z4 := hid (Z2.out.on hB4)
  have B4 := hid hB4
  clear NY Z2 hB4 c0 c1 c2 c3 d0 d1 d2 d3
  obtain ⟨⟨c0, c1, c2, c3⟩, d0, d1, d2, d3⟩ := Z4.out.flat
  have z4 := Z4.out.1.1
  have TT := hid (TM.out w4 p' n' c' zs' z4 (KY.out.1.below B4.out (Nat.le_refl _)) KY.out.2.1 KY.out.2.2)
  clear KY B4 TM
  go_wp2_with fail
  with_reducible refine TT.out.mono ?_
  rintro r w5 ⟨r5, os5, rfl, A5, hB5⟩
  have Z5 := hid (Z4.out.on hB5)
  have HA := hid A5
  clear z4 TT Z4 A5 hB5 c0 c1 c2 c3 d0 d1 d2 d3
  obtain ⟨⟨c0, c1, c2, c3⟩, d0, d1, d2, d3⟩ := Z5.out.flat
  have z5 := Z5.out.1.1
  go_wp2_with fail
  with_reducible refine (LF.out _ _ HK.out z5).mono ?_
  rintro r w6 ⟨r6, os6, rfl, A6, hB6⟩
  have Z6 := hid (Z5.out.on hB6)
  have CA := hid (CM.out _ _ _ _ _ _ _ HA.out hB6 A6)
  clear z5 LF CM HA Z5 A6 hB6 c0 c1 c2 c3 d0 d1 d2 d3
  go_wp2_with fail
  with_reducible refine CA.out.mono ?_
  rintro r w7 ⟨rfl, hB7⟩
  have Z7 := hid (Z6.out.on hB7)
  clear CA Z6 hB7
  go_wp2_with fail
  go_ret
  exact ⟨yret_b F.out, Z7.out.1.1⟩

set_option maxRecDepth 100000 in
set_option maxHeartbeats 8000000 in
theorem yis_lt {B : Nat} {w : World} {v : Value} {neg ng : Bool} {V D e M ee x : Int} (h : RN B w v neg V D e) (OF : ∀ wx, Calls Tryz.prog 22 #[.int .u64 x] wx fun r w' => NumTold5 ng M 1 ee wx r w') (hv : ¬V = 0) (hM : ¬M = 0) (hn : neg = ng) (_v1 : V < 2 ^ 4400) (m1 : M < 9007199254740992) (dd1 : D < 2 ^ 4400) (f0 : -4000 ≤ e) (f1 : e ≤ 4000) (g0 : -4000 ≤ ee) (g1 : ee ≤ 4000) (i : Nat) (hi : (i : Int) = ee - e) (hl : ¬ee ≤ e) :
    Calls Tryz.prog 81 #[.int .u64 x, v] w fun r w' => r = .returned (.bool (decide (V = M * D * 2 ^ i))) ∧ Below w.heap.size w w' := by
  subst hn
  have NX := hid (fun wx (b : Below w.heap.size w wx) => ynone_any (h.on b))
  have OFF := hid OF
  clear OF
  obtain ⟨p, n, c, q, m, d, zs, ys, rfl, h2, h3, h4, h5, h6, h7, h8, h9⟩ := h
  have Z := hid (RT.new w (.bool neg) (.slice p n c) (.slice q m d) (.int .i64 e))
  rw [decide_eq_false hv] at NX
  have w0 : 0 ≤ D := by rw [← h6]; exact (Nm.val_bd ys h5.2.2.2.2).1
  obtain ⟨R, hR⟩ : ∃ R, M * D = R := ⟨_, rfl⟩
  obtain ⟨L, hL⟩ : ∃ L, R * 2 ^ i = L := ⟨_, rfl⟩
  have bR : R < 2 ^ 4500 := by
    rw [← hR]
    have t1 := Nm.two_mono (show 53 + 4400 ≤ 4500 by omega)
    have t2 : M * D ≤ 9007199254740992 * D := Int.mul_le_mul_of_nonneg_right (by omega) w0
    have t3 : (9007199254740992 : Int) * 2 ^ 4400 = 2 ^ (53 + 4400) := by rw [Int.pow_add]; rfl
    generalize (2 : Int) ^ 4400 = X at *
    generalize (2 : Int) ^ (53 + 4400) = Y at *
    generalize (2 : Int) ^ 4500 = U at *
    omega
  have bL : L < 2 ^ 20000 := by
    rw [← hL]
    have t1 := Nm.two_mono (show 4500 + i ≤ 20000 by omega)
    have t0 := Nm.two_mono (show 4400 ≤ 4500 by omega)
    have t3 : R * 2 ^ i < 2 ^ 4500 * 2 ^ i := Int.mul_lt_mul_of_pos_right (bR) (Nm.two_pos i)
    rw [← Int.pow_add] at t3
    generalize (2 : Int) ^ (4500 + i) = X at *
    generalize (2 : Int) ^ 20000 = Y at *
    omega
  have TM : Hid (∀ (wx : World) p' n' c' zs', Below w.heap.size w wx → Arg wx p' n' c' zs' → Nm.val zs' = M → Nm.tsize zs' ≤ 4096 → Calls Tryz.prog 45 #[.slice p' n' c', .slice q m d] wx fun e w' => ∃ r os, e = .returned (.slice r (List.length os) (List.length os)) ∧ Ans wx.heap.size w' r os R ∧ Below wx.heap.size wx w') := fun wx p' n' c' zs' b k2 k3 k4 => by
    have h := times_any p' q n' c' m d zs' ys wx k2 (h5.below b (Nat.le_refl _)) (by omega) (by omega)
    rw [k3, h6, hR] at h
    exact h
  have LF : Hid (∀ (wx wy : World) r os kk, Ans wx.heap.size wy r os R → kk = (i : Int) → ∀ w2, Below wy.heap.size wy w2 → Calls Tryz.prog 25 #[.slice r (List.length os) (List.length os), .int .i64 kk] w2 fun e w' => ∃ r os, e = .returned (.slice r (List.length os) (List.length os)) ∧ Ans w2.heap.size w' r os L ∧ Below w2.heap.size w2 w') := fun wx wy r os kk a hk w2 b2 => by
    have h := lift_any r _ _ os kk i w2 ((a.arg (by have := (a.tl bR (by omega)).2.1; omega)).below b2 (Nat.le_refl _)) (by have := (a.tl bR (by omega)).1; omega) hk (by omega)
    rw [a.2.2.2.1, hL] at h
    exact h
  have CM : Hid (∀ (wx w2 : World) r os, Below w.heap.size w wx → Ans wx.heap.size w2 r os L → Below wx.heap.size wx w2 → Calls Tryz.prog 42 #[.slice p n c, .slice r (List.length os) (List.length os)] w2 fun e w' => e = .returned (.int .i64 (cmpI V L)) ∧ Below w2.heap.size w2 w') := fun wx w2 r os b a b2 => by
    have h := refCmp_any p r n c _ _ zs os w2 (h2.below (bel b b2) (Nat.le_refl _)) (a.arg (by have := (a.tl bL (by omega)).2.1; omega))
    rw [a.2.2.2.1, h3] at h
    exact h
  obtain ⟨s, hs⟩ : ∃ s, cmpI V L = s := ⟨_, rfl⟩
  have F : Hid ((s == 0) = decide (V = L)) := by rw [Hid, ← hs, cmp_eq0]
  rw [hs] at CM
  rw [hR, hL]
  have HK : Hid (ee - e = (i : Int)) := hi.symm
  have WK : IntKind.i64.wrap (ee - e) = ee - e := by rw [IntKind.wrap_i64]; omega
  have hle : ¬ee ≤ e := by omega
  clear h2 h3 h4 h5 h6 h7 h8 h9 w0 bR bL hs hR hL m1 dd1 hi hv
  go_enter Tryz.func81, Tryz.ntmps81
  go_upto_region 1 with fail
  generalize (w.alloc (.cells #[.bool neg, .slice p n c, .slice q m d, .int .i64 e] 41)) = wz at *
  have zb := Z.out.1
  obtain ⟨c0, c1, c2, c3⟩ := Z.out.four
  go_wp2_with fail
  with_reducible refine (NX.out _ zb).mono ?_
  rintro r w1 ⟨rfl, hB1⟩
  have Z1 := hid (Z.out.on hB1)
  clear zb hB1 Z NX c0 c1 c2 c3
  go_wp2_with fail
  with_reducible refine (OFF.out _).mono ?_
  rintro r w2 ⟨vy, rfl, hy, hB2⟩
  have HY := hid hy
  obtain ⟨p', n', c', q', m', d', zs', ys', rfl, k2, k3, k4, k5⟩ := hy
  have Z2 := hid (I2.new (Z1.out.on hB2) (.bool neg) (.slice p' n' c') (.slice q' m' d') (.int .i64 ee))
  have AB := hid (alloc_b w2 (.cells #[.bool neg, .slice p' n' c', .slice q' m' d', .int .i64 ee] 41))
  have NY := hid (ynone_any (HY.out.on AB.out))
  rw [decide_eq_false hM] at NY
  have KY := hid (And.intro (k2.below AB.out (Nat.le_refl _)) (And.intro k3 k4))
  clear k2 k3 k4 AB
  go_upto_region 4 with fail
  generalize (w2.alloc (.cells #[.bool neg, .slice p' n' c', .slice q' m' d', .int .i64 ee] 41)) = w3 at *
  generalize w2.heap.size = g at *
  clear hB2 HY Z1 OFF k5
  obtain ⟨⟨c0, c1, c2, c3⟩, d0, d1, d2, d3⟩ := Z2.out.flat
  go_wp2_with fail
  with_reducible refine NY.out.mono ?_
  rintro r w4 ⟨rfl, hB4⟩
  have Z4 := hid (Z2.out.on hB4)
  have B4 := hid hB4
  clear NY Z2 hB4 c0 c1 c2 c3 d0 d1 d2 d3
  obtain ⟨⟨c0, c1, c2, c3⟩, d0, d1, d2, d3⟩ := Z4.out.flat
  have z4 := Z4.out.1.1
  have TT := hid (TM.out w4 p' n' c' zs' z4 (KY.out.1.below B4.out (Nat.le_refl _)) KY.out.2.1 KY.out.2.2)
  clear KY B4 TM
  go_wp2_with fail
  with_reducible refine TT.out.mono ?_
  rintro r w5 ⟨r5, os5, rfl, A5, hB5⟩
  have Z5 := hid (Z4.out.on hB5)
  have HA := hid A5
  clear z4 TT Z4 A5 hB5 c0 c1 c2 c3 d0 d1 d2 d3
  obtain ⟨⟨c0, c1, c2, c3⟩, d0, d1, d2, d3⟩ := Z5.out.flat
  go_upto_region 9 with fail
  clear c0 c1 c2 c3 d0 d1 d2 d3
  have ZD := hid Z5.out.drew
  have LA := hid (fun kk hk => LF.out _ _ _ _ kk HA.out hk w5.drew (drew_b (Below.refl _ _)))
  have zb := ZD.out.1.1
  clear HA LF
  go_region_held3 (fun wx => (wx.cell? ⟨w.heap.size, 0, none⟩ = some (.bool neg) ∧ wx.cell? ⟨w.heap.size, 1, none⟩ = some (.slice p n c) ∧ wx.cell? ⟨w.heap.size, 2, none⟩ = some (.slice q m d) ∧ wx.cell? ⟨w.heap.size, 3, none⟩ = some (.int .i64 e)) ∧ wx.cell? ⟨g, 0, none⟩ = some (.bool neg) ∧ wx.cell? ⟨g, 1, none⟩ = some (.slice p' n' c') ∧ wx.cell? ⟨g, 2, none⟩ = some (.slice q' m' d') ∧ wx.cell? ⟨g, 3, none⟩ = some (.int .i64 ee)) (first | (with_reducible exact T2.out.flat) | (with_reducible exact T1.out.flat) | (with_reducible exact ZD.out.flat)) (first
    | (go_at_call 25; with_reducible refine (LA.out _ HK.out).mono ?_; rintro r w6 ⟨pr, os, rfl, A2, hB2⟩; have T1 := hid (ZD.out.on hB2); have CA := hid (CM.out _ _ _ _ zb A2 hB2); clear A2 hB2)
    | (go_at_call 42; with_reducible refine CA.out.mono ?_; rintro r w7 ⟨rfl, hB3⟩; have T2 := hid (T1.out.on hB3); clear hB3))
  all_goals go_wp2_with fail
  all_goals go_ret
  all_goals exact ⟨yret_b F.out, T2.out.1.1⟩

end Go.Proofs.YtljpmddjcfkonaaGreatDoor

namespace Go.Proofs.YtljpmddjcfkonaaGreatDoor
open Go Go.RowKit Go.Deep

namespace Ie
/-- Is the double x just the number? -/
def isB (neg : Bool) (V D e x : Int) : Bool :=
  if V = 0 then isz x else if dm x = 0 then false else if neg ≠ ngd x then false
  else if de x ≤ e then decide (V * 2 ^ (e - de x).toNat = dm x * D) else decide (V = dm x * D * 2 ^ (de x - e).toNat)
/-- Is the number not zero and below 2^-1022? -/
def tyB (V D e : Int) : Bool := !decide (V = 0) && decide (V * 2 ^ (e + 1022).toNat < D * 2 ^ (-(e + 1022)).toNat)

theorem two_lt {A B : Int} {i j c q : Nat} (h : (i : Int) - j = (c : Int) - q) : A * 2 ^ i < B * 2 ^ j ↔ A * 2 ^ c < B * 2 ^ q := by
  have key : ∀ {i j c q : Nat}, (i : Int) - j = (c : Int) - q → A * 2 ^ i < B * 2 ^ j → A * 2 ^ c < B * 2 ^ q := by
    intro i j c q h k
    have k1 := Int.mul_lt_mul_of_pos_right k (Nm.two_pos q)
    rw [Int.mul_assoc, Int.mul_assoc, ← Nm.two_add, ← Nm.two_add, show i + q = c + j by omega, show j + q = q + j by omega, Nm.two_add, Nm.two_add, ← Int.mul_assoc, ← Int.mul_assoc] at k1
    exact Int.lt_of_mul_lt_mul_right k1 (Int.le_of_lt (Nm.two_pos j))
  exact ⟨key h, key h.symm⟩

theorem ty_iff {V D e : Int} (v0 : 0 ≤ V) (c q : Nat) (hc : (c : Int) - q = e + 1022) : tyB V D e = true ↔ 0 < V ∧ V * 2 ^ c < D * 2 ^ q := by
  rw [tyB, Bool.and_eq_true, Bool.not_eq_true', decide_eq_false_iff_not, decide_eq_true_eq, two_lt (c := c) (q := q) (by omega)]
  exact and_congr ⟨fun h => by omega, fun h => by omega⟩ Iff.rfl

theorem two_eq {A B : Int} {i j c q : Nat} (h : (i : Int) - j = (c : Int) - q) : A * 2 ^ i = B * 2 ^ j ↔ A * 2 ^ c = B * 2 ^ q := by
  have key : ∀ {i j c q : Nat}, (i : Int) - j = (c : Int) - q → A * 2 ^ i = B * 2 ^ j → A * 2 ^ c = B * 2 ^ q := by
    intro i j c q h k
    have k1 : A * 2 ^ i * 2 ^ q = B * 2 ^ j * 2 ^ q := by rw [k]
    rw [Int.mul_assoc, Int.mul_assoc, ← Nm.two_add, ← Nm.two_add, show i + q = c + j by omega, show j + q = q + j by omega, Nm.two_add, Nm.two_add, ← Int.mul_assoc, ← Int.mul_assoc] at k1
    exact Int.eq_of_mul_eq_mul_right (by have := Nm.two_pos j; omega) k1
  exact ⟨key h, key h.symm⟩

theorem is_iff {neg : Bool} {V D e x : Int} (v0 : 0 ≤ V) (d0 : 0 < D) (fx : fin x) (c q : Nat) (hc : (c : Int) - q = e + 1074) : isB neg V D e x = true ↔ sn neg V * 2 ^ c = uv x * D * 2 ^ q := by
  obtain ⟨⟨m0, m1⟩, ⟨g0, g1⟩, gx, zx⟩ := dec_f x fx
  obtain ⟨k, hk⟩ : ∃ k : Nat, (k : Int) = de x + 1074 := ⟨(de x + 1074).toNat, by omega⟩
  have hu := gx k hk
  have pk := Nm.two_pos k
  have pc := Nm.two_pos c
  have pq := Nm.two_pos q
  have dq : 0 < D * 2 ^ q := Int.mul_pos d0 pq
  rw [isB, uv, ← hu]
  have e0 : sn neg V * 2 ^ c = sn neg (V * 2 ^ c) := sn_mul_right _ _ _
  have e1 : sn (ngd x) (dm x * 2 ^ k) * D * 2 ^ q = sn (ngd x) (dm x * 2 ^ k * (D * 2 ^ q)) := by rw [Int.mul_assoc, sn_mul_right]
  rw [e0, e1]
  by_cases hv : V = 0
  · rw [if_pos hv, hv, Int.zero_mul, sn_zero, isz, decide_eq_true_eq, ← zx]
    constructor
    · intro h; rw [h, Int.zero_mul, Int.zero_mul, sn_zero]
    · intro h
      have h1 : dm x * 2 ^ k * (D * 2 ^ q) = 0 := by
        cases hg : ngd x <;> rw [hg] at h <;> simp only [sn, if_true, Bool.false_eq_true, if_false] at h <;> omega
      rcases (show dm x = 0 ∨ 0 < dm x by omega) with g | g
      · exact g
      · have := Int.mul_pos (Int.mul_pos g pk) dq
        omega
  · rw [if_neg hv]
    have p1 : 0 < V * 2 ^ c := Int.mul_pos (by omega) pc
    by_cases hm : dm x = 0
    · rw [if_pos hm, hm, Int.zero_mul, Int.zero_mul, sn_zero]
      refine ⟨fun h => (by cases h), fun h => ?_⟩
      cases neg <;> simp only [sn, if_true, Bool.false_eq_true, if_false] at h <;> omega
    · rw [if_neg hm]
      have p2 : 0 < dm x * 2 ^ k * (D * 2 ^ q) := Int.mul_pos (Int.mul_pos (by omega) pk) dq
      by_cases hn : neg = ngd x
      · rw [if_neg (fun h => h hn), hn, sn_inj]
        have e2 : dm x * 2 ^ k * (D * 2 ^ q) = dm x * D * 2 ^ (k + q) := by
          rw [Nm.two_add]
          generalize (2 : Int) ^ k = K
          generalize (2 : Int) ^ q = Q
          ac_rfl
        rw [e2]
        by_cases hl : de x ≤ e
        · rw [if_pos hl, decide_eq_true_eq, ← two_eq (i := (e - de x).toNat) (j := 0) (by omega), Int.pow_zero, Int.mul_one]
        · rw [if_neg hl, decide_eq_true_eq, ← two_eq (i := 0) (j := (de x - e).toNat) (by omega), Int.pow_zero, Int.mul_one]
      · rw [if_pos hn]
        refine ⟨fun h => (by cases h), fun h => ?_⟩
        exfalso
        cases neg <;> cases hg : ngd x <;> rw [hg] at h <;> simp only [sn, if_true, Bool.false_eq_true, if_false] at h <;> first | exact hn hg.symm | omega

/-- A whole number times a power of two. -/
theorem is_whole {neg : Bool} {V e x S : Int} (v0 : 0 ≤ V) (fx : fin x) (c q : Nat) (hc : (c : Int) - q = e + 1074) (hS : sn neg (V * 2 ^ c) = S) : isB neg V 1 e x = true ↔ S = uv x * 2 ^ q := by
  rw [is_iff v0 (by omega) fx c q hc, ← hS, sn_mul_right, Int.mul_one]
theorem ty_whole {neg : Bool} {V e S : Int} (v0 : 0 ≤ V) (c q : Nat) (hc : (c : Int) - q = e + 1074) (hS : sn neg (V * 2 ^ c) = S) : tyB V 1 e = true ↔ Lss S (q + 52) := by
  rw [ty_iff v0 c (q + 52) (by omega), ← hS, lss_sn _ _ _ (Int.mul_nonneg v0 (Int.le_of_lt (Nm.two_pos c))), pos_two c v0, Int.one_mul]

theorem is_div {a b x : Int} (fa : fin a) (fb : fin b) (hb : ab b ≠ 0) (fx : fin x) : isB (ngd a != ngd b) (dm a) (dm b) (de a - de b) x = true ↔ uv a * 2 ^ 1074 = uv b * uv x := by
  obtain ⟨⟨da0, da1⟩, ⟨ea0, ea1⟩, ga, za⟩ := dec_f a fa
  obtain ⟨⟨db0, db1⟩, ⟨eb0, eb1⟩, gb, zb⟩ := dec_f b fb
  obtain ⟨ka, hka⟩ : ∃ k : Nat, (k : Int) = de a + 1074 := ⟨(de a + 1074).toNat, by omega⟩
  obtain ⟨kb, hkb⟩ : ∃ k : Nat, (k : Int) = de b + 1074 := ⟨(de b + 1074).toNat, by omega⟩
  rw [is_iff da0 (by omega) fx (ka + 1074) kb (by omega), Int.mul_assoc, gb kb hkb, Nm.two_add, ← Int.mul_assoc, sn_mul_right, ga ka hka, show uv a = sn (ngd a) (un (ab a)) from rfl, show uv b = sn (ngd b) (un (ab b)) from rfl]
  generalize (2 : Int) ^ 1074 = P
  generalize un (ab a) = A
  generalize un (ab b) = C
  generalize uv x = X
  rw [sn_mul_right, sn_mul_right, Int.mul_comm X C]
  have e1 : sn (ngd b) C * X = sn (ngd b) (C * X) := sn_mul_right _ _ _
  rw [e1]
  generalize A * P = U
  generalize C * X = W
  cases ngd a <;> cases ngd b <;> simp [sn] <;> omega
theorem ty_div {a b : Int} (fa : fin a) (fb : fin b) : tyB (dm a) (dm b) (de a - de b) = true ↔ 0 < un (ab a) ∧ un (ab a) * 2 ^ 1022 < un (ab b) := by
  obtain ⟨⟨da0, da1⟩, ⟨ea0, ea1⟩, ga, za⟩ := dec_f a fa
  obtain ⟨⟨db0, db1⟩, ⟨eb0, eb1⟩, gb, zb⟩ := dec_f b fb
  obtain ⟨ka, hka⟩ : ∃ k : Nat, (k : Int) = de a + 1074 := ⟨(de a + 1074).toNat, by omega⟩
  obtain ⟨kb, hkb⟩ : ∃ k : Nat, (k : Int) = de b + 1074 := ⟨(de b + 1074).toNat, by omega⟩
  rw [ty_iff da0 (ka + 1022) kb (by omega), gb kb hkb, Nm.two_add, ← Int.mul_assoc, ga ka hka, ← ga ka hka, pos_two ka da0]
end Ie

theorem yis_any {B : Nat} {w : World} {v : Value} {neg : Bool} {V D e x : Int} (h : RN B w v neg V D e) (x0 : 0 ≤ x) (x1 : x < 18446744073709551616) (fx : Ie.fin x) (v1 : V < 2 ^ 4400) (d1 : D < 2 ^ 4400) (f0 : -4000 ≤ e) (f1 : e ≤ 4000) :
    Calls Tryz.prog 81 #[.int .u64 x, v] w fun r w' => r = .returned (.bool (Ie.isB neg V D e x)) ∧ Below w.heap.size w w' := by
  obtain ⟨⟨m0, m1⟩, ⟨g0, g1⟩, gx, zx⟩ := Ie.dec_f x fx
  have OF := fun wx => yof2 x (Ie.ngd x) (Ie.dm x) (Ie.de x) wx x0 x1 rfl rfl rfl m0 m1
  unfold Ie.isB
  by_cases hv : V = 0
  · rw [if_pos hv]
    exact yis_zero h OF hv x0 x1
  · rw [if_neg hv]
    by_cases hm : Ie.dm x = 0
    · rw [if_pos hm]
      exact yis_none h OF hv hm
    · rw [if_neg hm]
      by_cases hn : neg = Ie.ngd x
      · rw [if_neg (fun k => k hn)]
        by_cases hl : Ie.de x ≤ e
        · rw [if_pos hl]
          exact yis_ge h OF hv hm hn v1 m1 d1 f0 f1 (by omega) (by omega) _ (by omega)
        · rw [if_neg hl]
          exact yis_lt h OF hv hm hn v1 m1 d1 f0 f1 (by omega) (by omega) _ (by omega) hl
      · rw [if_pos hn]
        cases hg : neg with
        | true =>
          have : Ie.ngd x = false := by
            cases hh : Ie.ngd x with
            | false => rfl
            | true => exact absurd (hg.trans hh.symm) hn
          exact yis_signA h OF hv hm hg this
        | false =>
          have : Ie.ngd x = true := by
            cases hh : Ie.ngd x with
            | true => rfl
            | false => exact absurd (hg.trans hh.symm) hn
          exact yis_signB h OF hv hm hg this

theorem ytiny_b {B : Nat} {w : World} {v : Value} {neg : Bool} {V D e : Int} (h : RN B w v neg V D e) (v1 : V < 2 ^ 4400) (d1 : D < 2 ^ 4400) (e0 : -4000 ≤ e) (e1 : e ≤ 4000) :
    Calls Tryz.prog 83 #[v] w fun r w' => r = .returned (.bool (Ie.tyB V D e)) ∧ Below w.heap.size w w' :=
  ytiny_any h v1 d1 e0 e1 (e + 1022).toNat (-(e + 1022)).toNat (by omega) (by omega)
end Go.Proofs.YtljpmddjcfkonaaGreatDoor

namespace Go.Proofs.YtljpmddjcfkonaaGreatDoor
open Go Go.RowKit Go.Deep

/-- The flags of an answer d, of a number of which P tells. -/
def FlTold (P : Bool → Int → Int → Int → Prop) (d : Int) (w : World) (r : Ending) (w' : World) : Prop :=
  ∃ f neg V D e, r = .returned (.int .i64 f) ∧ P neg V D e ∧ f = Ie.fl (Ie.isi d) (!Ie.isi d && Ie.isB neg V D e d) (Ie.tyB V D e) ∧ Below w.heap.size w w'

set_option maxRecDepth 100000 in
set_option maxHeartbeats 16000000 in
theorem yflags_op (op a b c d : Int) {P : Bool → Int → Int → Int → Prop} (w : World) (hop : ¬op = 5) (d0 : 0 ≤ d) (d1 : d < 18446744073709551616) (hd : Ie.isn d = false)
    (RES : ∀ wx, Calls Tryz.prog 82 #[.int .i64 op, .int .u64 a, .int .u64 b, .int .u64 c] wx fun r w' => ResTold5 P wx r w') (PB : ∀ neg V D e, P neg V D e → V < 2 ^ 4400 ∧ D < 2 ^ 4400 ∧ -4000 ≤ e ∧ e ≤ 4000) :
    Calls Tryz.prog 61 #[.int .i64 op, .int .u64 a, .int .u64 b, .int .u64 c, .int .u64 d] w fun r w' => FlTold P d w r w' := by
  have Z := hid (RT.new w (.bool false) (.slice none 0 0) (.slice none 0 0) (.int .i64 0))
  have LZ : Hid (w.heap.size < (w.alloc (.cells #[.bool false, .slice none 0 0, .slice none 0 0, .int .i64 0] 41)).heap.size) := by rw [Hid]; simp
  have RR := hid RES
  have IN := hid (fun wx => yinf_any d wx d0 d1)
  have IS : Hid (∀ wx v neg V D e, RN w.heap.size wx v neg V D e → P neg V D e → Ie.isi d = false → Calls Tryz.prog 81 #[.int .u64 d, v] wx fun r w' => r = .returned (.bool (Ie.isB neg V D e d)) ∧ Below wx.heap.size wx w') := fun wx v neg V D e h p hi => by
    obtain ⟨q1, q2, q3, q4⟩ := PB neg V D e p
    exact yis_any h d0 d1 (Ie.fin_of hd hi) q1 q2 q3 q4
  have TY : Hid (∀ wx v neg V D e, RN w.heap.size wx v neg V D e → P neg V D e → Calls Tryz.prog 83 #[v] wx fun r w' => r = .returned (.bool (Ie.tyB V D e)) ∧ Below wx.heap.size wx w') := fun wx v neg V D e h p => by
    obtain ⟨q1, q2, q3, q4⟩ := PB neg V D e p
    exact ytiny_b h q1 q2 q3 q4
  have FF : Hid (∀ f neg V D e w', P neg V D e → f = Ie.fl (Ie.isi d) (!Ie.isi d && Ie.isB neg V D e d) (Ie.tyB V D e) → Below w.heap.size w w' → FlTold P d w (.returned (.int .i64 f)) w') := fun f neg V D e w' h1 h2 h3 => ⟨f, neg, V, D, e, rfl, h1, h2, h3⟩
  clear RES PB hd d0 d1
  go_enter Tryz.func61, Tryz.ntmps61
  go_upto_region 2 with fail
  generalize (w.alloc (.cells #[.bool false, .slice none 0 0, .slice none 0 0, .int .i64 0] 41)) = wz at *
  go_wp2_with fail
  with_reducible refine (RR.out _).mono ?_
  rintro r w1 ⟨v, neg, V, D, e, rfl, hv, hP, hB1⟩
  have Z1 := hid (Z.out.on hB1)
  obtain ⟨p, n, c', q, m, d', zs, ys, rfl, hz9⟩ := id hv
  have R1 := hid (RN.put LZ.out hv)
  have PP := hid hP
  clear hz9 hv hP hB1 Z RR LZ
  obtain ⟨⟨c0, c1, c2, c3⟩, f0, f1, f2, f3⟩ := Z1.out.2.cells
  go_upto_region 9 with fail
  have Z2 := hid (Z1.out.put (.bool neg) (.slice p n c') (.slice q m d') (.int .i64 e))
  generalize ((((w1.setCell ⟨w.heap.size, 0, none⟩ (.bool neg)).setCell ⟨w.heap.size, 1, none⟩ (.slice p n c')).setCell ⟨w.heap.size, 2, none⟩ (.slice q m d')).setCell ⟨w.heap.size, 3, none⟩ (.int .i64 e)) = w2 at *
  clear c0 c1 c2 c3 f0 f1 f2 f3 Z1
  have I2 := hid (IS.out w2 _ neg V D e R1.out PP.out)
  have F2 := hid (fun f w' => FF.out f neg V D e w' PP.out)
  have T2 := hid (fun wx (b : Below w2.heap.size w2 wx) => TY.out wx _ neg V D e (R1.out.on b) PP.out)
  clear IS TY FF R1 PP
  obtain ⟨x, hx⟩ : ∃ x, Ie.isB neg V D e d = x := ⟨_, rfl⟩
  obtain ⟨t, ht⟩ : ∃ t, Ie.tyB V D e = t := ⟨_, rfl⟩
  rw [hx] at I2 F2
  rw [ht] at F2 T2
  clear hx ht
  obtain ⟨c0, c1, c2, c3⟩ := Z2.out.four
  have b2 := Z2.out.1
  cases hi : Ie.isi d with
  | true =>
    rw [hi] at IN F2
    clear I2
    go_wp2_with fail
    with_reducible refine (IN.out _).mono ?_
    rintro r w0 ⟨rfl, ew⟩
    rw [ew]
    clear ew w0
    go_wp2_with fail
    with_reducible refine (IN.out _).mono ?_
    rintro r w0 ⟨rfl, ew⟩
    rw [ew]
    clear ew w0
    cases t with
    | true =>
      go_wp2_with fail
      with_reducible refine (T2.out _ (Below.refl _ _)).mono ?_
      rintro r w9 ⟨rfl, hB9⟩
      have B9 := hid (bel b2 hB9)
      clear hB9
      go_wp2_with fail
      go_ret
      exact F2.out 28 _ rfl B9.out
    | false =>
      go_wp2_with fail
      with_reducible refine (T2.out _ (Below.refl _ _)).mono ?_
      rintro r w9 ⟨rfl, hB9⟩
      have B9 := hid (bel b2 hB9)
      clear hB9
      go_wp2_with fail
      go_ret
      exact F2.out 20 _ rfl B9.out
  | false =>
    rw [hi] at IN F2
    have I3 := hid (I2.out hi)
    clear I2
    go_wp2_with fail
    with_reducible refine (IN.out _).mono ?_
    rintro r w0 ⟨rfl, ew⟩
    rw [ew]
    clear ew w0
    go_wp2_with fail
    with_reducible refine I3.out.mono ?_
    rintro r w3 ⟨rfl, hB3⟩
    have Z3 := hid (Z2.out.on hB3)
    have B3 := hid hB3
    clear I3 c0 c1 c2 c3 hB3 b2 Z2
    obtain ⟨c0, c1, c2, c3⟩ := Z3.out.four
    have b3 := B3.out
    have b4 := Z3.out.1
    cases x with
    | true =>
      go_wp2_with fail
      with_reducible refine (IN.out _).mono ?_
      rintro r w0 ⟨rfl, ew⟩
      rw [ew]
      clear ew w0
      go_wp2_with fail
      go_ret
      exact F2.out 0 _ (by cases t <;> rfl) b4
    | false =>
      go_wp2_with fail
      with_reducible refine (IN.out _).mono ?_
      rintro r w0 ⟨rfl, ew⟩
      rw [ew]
      clear ew w0
      cases t with
      | true =>
        go_wp2_with fail
        with_reducible refine (T2.out _ b3).mono ?_
        rintro r w9 ⟨rfl, hB9⟩
        have B9 := hid (bel b4 hB9)
        clear hB9
        go_wp2_with fail
        go_ret
        exact F2.out 24 _ rfl B9.out
      | false =>
        go_wp2_with fail
        with_reducible refine (T2.out _ b3).mono ?_
        rintro r w9 ⟨rfl, hB9⟩
        have B9 := hid (bel b4 hB9)
        clear hB9
        go_wp2_with fail
        go_ret
        exact F2.out 16 _ rfl B9.out
end Go.Proofs.YtljpmddjcfkonaaGreatDoor

namespace Go.Proofs.YtljpmddjcfkonaaGreatDoor
open Go Go.RowKit Go.Deep

/-- The flags of a root. -/
def Fl5 (a d : Int) : Int := if (Ie.isB false (Ie.dm d * Ie.dm d) 1 (Ie.de d + Ie.de d) a || Ie.isz a) = true then 0 else 16

set_option maxRecDepth 100000 in
set_option maxHeartbeats 16000000 in
theorem yflags5 (a b c d : Int) (w : World) (a0 : 0 ≤ a) (a1 : a < 18446744073709551616) (fa : Ie.fin a) (hn : Ie.isz a = false → Ie.ngd a = false) (d0 : 0 ≤ d) (d1 : d < 18446744073709551616) (fd : Ie.fin d) :
    Calls Tryz.prog 61 #[.int .i64 5, .int .u64 a, .int .u64 b, .int .u64 c, .int .u64 d] w fun r w' => r = .returned (.int .i64 (Fl5 a d)) ∧ Below w.heap.size w w' := by
  obtain ⟨⟨m0, m1⟩, ⟨g0, g1⟩, gx, zx⟩ := Ie.dec_f d fd
  have Z := hid (RT.new w (.bool false) (.slice none 0 0) (.slice none 0 0) (.int .i64 0))
  have ID : Ie.isi d = false := by rw [Ie.isi, decide_eq_false_iff_not]; rw [Ie.fin] at fd; omega
  have IN := hid (fun wx => yinf_any d wx d0 d1)
  rw [ID] at IN
  have ZA := hid (fun wx => yzero_any a wx a0 a1)
  have GA := hid (fun wx => yngd_any a wx)
  have OD := hid (fun wx => yof2 d (Ie.ngd d) (Ie.dm d) (Ie.de d) wx d0 d1 rfl rfl rfl m0 m1)
  have bm : Ie.dm d * Ie.dm d < 2 ^ 4400 := by
    have g : Ie.dm d * Ie.dm d ≤ 9007199254740992 * 9007199254740992 := Int.mul_le_mul (by omega) (by omega) m0 (by omega)
    have k := Nm.two_mono (show 107 ≤ 4400 by omega)
    have e : (2 : Int) ^ 107 = 162259276829213363391578010288128 := by decide
    generalize (2 : Int) ^ 4400 = y at *
    omega
  have b1 : (1 : Int) < 2 ^ 4400 := by
    have k := Nm.two_mono (show 1 ≤ 4400 by omega)
    have e : (2 : Int) ^ 1 = 2 := rfl
    generalize (2 : Int) ^ 4400 = y at *
    omega
  have PU := hid (fun (B : Nat) (wx : World) v (hb : B ≤ wx.heap.size) (h : RN B wx v (Ie.ngd d) (Ie.dm d) 1 (Ie.de d)) => yproduct_any h h hb m1 m1 (by omega) (by omega) (by omega) (by omega))
  have IS := hid (fun (B : Nat) (wx : World) v (h : RN B wx v (Ie.ngd d != Ie.ngd d) (Ie.dm d * Ie.dm d) 1 (Ie.de d + Ie.de d)) => yis_any h a0 a1 fa bm b1 (by omega) (by omega))
  obtain ⟨f, hf⟩ : ∃ f, Fl5 a d = f := ⟨_, rfl⟩
  have HF := hid hf
  rw [hf]
  rw [Hid, Fl5] at HF
  rw [show (Ie.ngd d != Ie.ngd d) = false by cases Ie.ngd d <;> rfl] at PU IS
  generalize Ie.isB false (Ie.dm d * Ie.dm d) 1 (Ie.de d + Ie.de d) a = x at *
  generalize Ie.dm d * Ie.dm d = MM at *
  generalize Ie.de d + Ie.de d = E2 at *
  generalize Ie.dm d = M at *
  generalize Ie.de d = E at *
  generalize Ie.ngd d = nd at *
  replace HF := hid HF
  clear hf a0 a1 fa d0 d1 fd m0 m1 g0 g1 gx zx ID bm b1
  cases hz : Ie.isz a with
  | true =>
    rw [hz] at ZA HF
    go_enter Tryz.func61, Tryz.ntmps61
    go_upto_region 2 with fail
    generalize (w.alloc (.cells #[.bool false, .slice none 0 0, .slice none 0 0, .int .i64 0] 41)) = wz at *
    go_wp2_with fail
    with_reducible refine (ZA.out _).mono ?_
    rintro r w0 ⟨rfl, ew⟩
    rw [ew]
    clear ew w0
    go_wp2_with fail
    with_reducible refine (OD.out _).mono ?_
    rintro r w1 ⟨vy, rfl, hy, hB1⟩
    obtain ⟨p, n, c', q, m, d', zs, ys, rfl, hz9⟩ := id hy
    have R1 := hid (Row4.new w1 41 (.bool nd) (.slice p n c') (.slice q m d') (.int .i64 E))
    have P2 := hid (PU.out wz.heap.size (w1.alloc (.cells #[.bool nd, .slice p n c', .slice q m d', .int .i64 E] 41)) _ (Nat.le_trans hB1.size (alloc_b w1 _).size) (hy.on (alloc_b w1 (.cells #[.bool nd, .slice p n c', .slice q m d', .int .i64 E] 41))))
    have B2 := hid (bel (bel Z.out.1 hB1) (alloc_b w1 (.cells #[.bool nd, .slice p n c', .slice q m d', .int .i64 E] 41)))
    clear hz9 hy hB1 OD PU
    go_upto_region 7 with fail
    generalize (w1.alloc (.cells #[.bool nd, .slice p n c', .slice q m d', .int .i64 E] 41)) = w2 at *
    generalize w1.heap.size = g at *
    obtain ⟨⟨c0, c1, c2, c3⟩, -⟩ := R1.out.cells
    go_wp2_with fail
    with_reducible refine P2.out.mono ?_
    rintro r w3 ⟨vp, rfl, hvp, hB3⟩
    have I3 := hid (IS.out _ w3 vp hvp)
    have B3 := hid (bel B2.out hB3)
    clear hvp hB3 P2 IS B2 R1 c0 c1 c2 c3
    go_wp2_with fail
    with_reducible refine I3.out.mono ?_
    rintro r w4 ⟨rfl, hB4⟩
    have B4 := hid (bel B3.out hB4)
    clear hB4 B3 I3
    obtain rfl : 0 = f := by rw [← HF.out]; cases x <;> rfl
    cases x with
    | true =>
      go_wp2_with fail
      with_reducible refine (IN.out _).mono ?_
      rintro r w0 ⟨rfl, ew⟩
      rw [ew]
      clear ew w0
      go_wp2_with fail
      go_ret
      exact ⟨rfl, B4.out⟩
    | false =>
      go_wp2_with fail
      with_reducible refine (ZA.out _).mono ?_
      rintro r w0 ⟨rfl, ew⟩
      rw [ew]
      clear ew w0
      go_wp2_with fail
      with_reducible refine (IN.out _).mono ?_
      rintro r w0 ⟨rfl, ew⟩
      rw [ew]
      clear ew w0
      go_wp2_with fail
      go_ret
      exact ⟨rfl, B4.out⟩
  | false =>
    rw [hz] at ZA HF
    rw [hn hz] at GA
    go_enter Tryz.func61, Tryz.ntmps61
    go_upto_region 2 with fail
    generalize (w.alloc (.cells #[.bool false, .slice none 0 0, .slice none 0 0, .int .i64 0] 41)) = wz at *
    go_wp2_with fail
    with_reducible refine (ZA.out _).mono ?_
    rintro r w0 ⟨rfl, ew⟩
    rw [ew]
    clear ew w0
    go_wp2_with fail
    with_reducible refine (GA.out _).mono ?_
    rintro r w0 ⟨rfl, ew⟩
    rw [ew]
    clear ew w0
    go_wp2_with fail
    with_reducible refine (OD.out _).mono ?_
    rintro r w1 ⟨vy, rfl, hy, hB1⟩
    obtain ⟨p, n, c', q, m, d', zs, ys, rfl, hz9⟩ := id hy
    have R1 := hid (Row4.new w1 41 (.bool nd) (.slice p n c') (.slice q m d') (.int .i64 E))
    have P2 := hid (PU.out wz.heap.size (w1.alloc (.cells #[.bool nd, .slice p n c', .slice q m d', .int .i64 E] 41)) _ (Nat.le_trans hB1.size (alloc_b w1 _).size) (hy.on (alloc_b w1 (.cells #[.bool nd, .slice p n c', .slice q m d', .int .i64 E] 41))))
    have B2 := hid (bel (bel Z.out.1 hB1) (alloc_b w1 (.cells #[.bool nd, .slice p n c', .slice q m d', .int .i64 E] 41)))
    clear hz9 hy hB1 OD PU
    go_upto_region 7 with fail
    generalize (w1.alloc (.cells #[.bool nd, .slice p n c', .slice q m d', .int .i64 E] 41)) = w2 at *
    generalize w1.heap.size = g at *
    obtain ⟨⟨c0, c1, c2, c3⟩, -⟩ := R1.out.cells
    go_wp2_with fail
    with_reducible refine P2.out.mono ?_
    rintro r w3 ⟨vp, rfl, hvp, hB3⟩
    have I3 := hid (IS.out _ w3 vp hvp)
    have B3 := hid (bel B2.out hB3)
    clear hvp hB3 P2 IS B2 R1 c0 c1 c2 c3
    go_wp2_with fail
    with_reducible refine I3.out.mono ?_
    rintro r w4 ⟨rfl, hB4⟩
    have B4 := hid (bel B3.out hB4)
    clear hB4 B3 I3
    cases x with
    | true =>
      obtain rfl : 0 = f := by rw [← HF.out]; rfl
      go_wp2_with fail
      with_reducible refine (IN.out _).mono ?_
      rintro r w0 ⟨rfl, ew⟩
      rw [ew]
      clear ew w0
      go_wp2_with fail
      go_ret
      exact ⟨rfl, B4.out⟩
    | false =>
      obtain rfl : 16 = f := by rw [← HF.out]; rfl
      go_wp2_with fail
      with_reducible refine (ZA.out _).mono ?_
      rintro r w0 ⟨rfl, ew⟩
      rw [ew]
      clear ew w0
      go_wp2_with fail
      with_reducible refine (IN.out _).mono ?_
      rintro r w0 ⟨rfl, ew⟩
      rw [ew]
      clear ew w0
      go_wp2_with fail
      go_ret
      exact ⟨rfl, B4.out⟩
end Go.Proofs.YtljpmddjcfkonaaGreatDoor

namespace Go.Proofs.YtljpmddjcfkonaaGreatDoor
open Go Go.RowKit Go.Deep

theorem big_4400 {x : Int} {k : Nat} (h : x < 2 ^ k) (hk : k ≤ 4400) : x < 2 ^ 4400 := by
  have := Nm.two_mono hk
  generalize (2 : Int) ^ 4400 = y at *
  omega
theorem one_4400 : (1 : Int) < 2 ^ 4400 := big_4400 (k := 1) (by decide) (by decide)

/-- What a sum's number is like. -/
theorem sum_small {n1 n2 neg : Bool} {V1 e1 V2 e2 V e : Int} (h : Ie.SumIs n1 V1 e1 n2 V2 e2 neg V e) (v1 : 0 ≤ V1 ∧ V1 < 1298074214633706907132624082305024) (v2 : 0 ≤ V2 ∧ V2 < 1298074214633706907132624082305024) (f0 : -2200 ≤ e1) (f1 : e1 ≤ 2000) (f2 : -2200 ≤ e2) (f3 : e2 ≤ 2000) : V < 2 ^ 4400 ∧ -4000 ≤ e ∧ e ≤ 4000 := by
  have he : -2200 ≤ e ∧ e ≤ 2000 := by rcases h.1 with k | ⟨_, k⟩ <;> omega
  refine ⟨?_, by omega, by omega⟩
  rcases h.1 with k | ⟨k, _⟩
  · obtain ⟨i1, hi1⟩ : ∃ k : Nat, (k : Int) = e1 - e := ⟨(e1 - e).toNat, by omega⟩
    obtain ⟨i2, hi2⟩ : ∃ k : Nat, (k : Int) = e2 - e := ⟨(e2 - e).toNat, by omega⟩
    obtain ⟨B, hB⟩ : ∃ k : Nat, (k : Int) = 2200 := ⟨2200, rfl⟩
    obtain ⟨c, hc⟩ : ∃ k : Nat, (k : Int) = e + B := ⟨(e + B).toNat, by omega⟩
    have g := h.2.2.2 B (i1 + c) (i2 + c) c (by omega) (by omega) hc
    have b1 := lift_lt v1.1 v1.2 (show i1 ≤ 4200 by omega)
    have b2 := lift_lt v2.1 v2.2 (show i2 ≤ 4200 by omega)
    have pc := Nm.two_pos c
    have e1' : Ie.sn neg V = Ie.sn n1 (V1 * 2 ^ i1) + Ie.sn n2 (V2 * 2 ^ i2) := by
      refine Int.eq_of_mul_eq_mul_right (a := 2 ^ c) (by omega) ?_
      rw [g, Int.add_mul, Ie.sn_mul_right, Ie.sn_mul_right, Ie.sn_mul_right, Ie.sn_mul_right, Int.mul_assoc, Int.mul_assoc, ← Nm.two_add, ← Nm.two_add]
    have v0 := h.2.2.1.1
    have t := two_big (x := V) (by
      generalize V1 * 2 ^ i1 = A at *
      generalize V2 * 2 ^ i2 = C at *
      generalize (2 : Int) ^ 4310 = X at *
      cases neg <;> cases n1 <;> cases n2 <;> simp only [Ie.sn, if_true, Bool.false_eq_true, if_false] at e1' <;> omega)
    exact t.1
  · have := Nm.two_pos 4400
    omega

theorem pr_small {x y : Int} (x0 : 0 ≤ x) (x1 : x < 9007199254740992) (y0 : 0 ≤ y) (y1 : y < 9007199254740992) : 0 ≤ x * y ∧ x * y < 1298074214633706907132624082305024 := by
  have g : x * y ≤ 9007199254740992 * 9007199254740992 := Int.mul_le_mul (by omega) (by omega) y0 (by omega)
  exact ⟨Int.mul_nonneg x0 y0, by omega⟩

theorem FlTold.to {P : Bool → Int → Int → Int → Prop} {d F : Int} {w w' : World} {r : Ending} (h : FlTold P d w r w') (k : ∀ neg V D e, P neg V D e → Ie.fl (Ie.isi d) (!Ie.isi d && Ie.isB neg V D e d) (Ie.tyB V D e) = F) : r = .returned (.int .i64 F) ∧ Below w.heap.size w w' := by
  obtain ⟨f, neg, V, D, e, rfl, hP, rfl, hB⟩ := h
  rw [k neg V D e hP]
  exact ⟨rfl, hB⟩

theorem yfl1 (a b c d : Int) (w : World) (a0 : 0 ≤ a) (a1 : a < 18446744073709551616) (b0 : 0 ≤ b) (b1 : b < 18446744073709551616) (d0 : 0 ≤ d) (d1 : d < 18446744073709551616) (fa : Ie.fin a) (fb : Ie.fin b) (hd : Ie.isn d = false) :
    Calls Tryz.prog 61 #[.int .i64 1, .int .u64 a, .int .u64 b, .int .u64 c, .int .u64 d] w fun r w' => r = .returned (.int .i64 (Ie.FF 1 a b c d)) ∧ Below w.heap.size w w' := by
  obtain ⟨⟨da0, da1⟩, ⟨ea0, ea1⟩, ga, _⟩ := Ie.dec_f a fa
  obtain ⟨⟨db0, db1⟩, ⟨eb0, eb1⟩, gb, _⟩ := Ie.dec_f b fb
  have OA := fun wx => yof2 a _ _ _ wx a0 a1 rfl rfl rfl da0 da1
  have OB := fun wx => yof2 b _ _ _ wx b0 b1 rfl rfl rfl db0 db1
  refine (yflags_op 1 a b c d w (by decide) d0 d1 hd (fun wx => yres1 a b c wx OA OB da1 db1 ea0 ea1 eb0 eb1) ?_).mono fun r w' h => h.to ?_
  · rintro neg V D e ⟨rfl, hS⟩
    have := sum_small hS ⟨da0, by omega⟩ ⟨db0, by omega⟩ (by omega) (by omega) (by omega) (by omega)
    exact ⟨this.1, one_4400, this.2⟩
  · rintro neg V D e ⟨rfl, hS⟩
    obtain ⟨k, hc, key, _⟩ := hS.at 1074 (by omega) (by omega) ga gb
    refine Ie.FF.of (fun hi => ?_) ?_
    · have := Ie.is_whole (x := d) (q := 0) hS.2.2.1.1 (Ie.fin_of hd hi) k (show (k : Int) - ((0 : Nat) : Int) = e + 1074 by omega) key
      rw [Int.pow_zero, Int.mul_one] at this
      exact this
    · exact Ie.ty_whole (q := 0) hS.2.2.1.1 k (show (k : Int) - ((0 : Nat) : Int) = e + 1074 by omega) key

theorem yfl2 (a b c d : Int) (w : World) (a0 : 0 ≤ a) (a1 : a < 18446744073709551616) (b0 : 0 ≤ b) (b1 : b < 18446744073709551616) (d0 : 0 ≤ d) (d1 : d < 18446744073709551616) (fa : Ie.fin a) (fb : Ie.fin b) (hd : Ie.isn d = false) :
    Calls Tryz.prog 61 #[.int .i64 2, .int .u64 a, .int .u64 b, .int .u64 c, .int .u64 d] w fun r w' => r = .returned (.int .i64 (Ie.FF 2 a b c d)) ∧ Below w.heap.size w w' := by
  obtain ⟨u1, u2, _⟩ := Ie.ng_uv b b0 b1
  have nb : 0 ≤ Ie.ng b ∧ Ie.ng b < 18446744073709551616 := by unfold Ie.ng; split <;> omega
  have fn : Ie.fin (Ie.ng b) := by rw [Ie.fin, u2]; exact fb
  obtain ⟨⟨da0, da1⟩, ⟨ea0, ea1⟩, ga, _⟩ := Ie.dec_f a fa
  obtain ⟨⟨db0, db1⟩, ⟨eb0, eb1⟩, gb, _⟩ := Ie.dec_f (Ie.ng b) fn
  have OA := fun wx => yof2 a _ _ _ wx a0 a1 rfl rfl rfl da0 da1
  have OB := fun wx => yof2 (Ie.ng b) _ _ _ wx nb.1 nb.2 rfl rfl rfl db0 db1
  refine (yflags_op 2 a b c d w (by decide) d0 d1 hd (fun wx => yres2 a b (Ie.ng b) c wx OA (fun wx => yneg_any b wx b0 b1) OB da1 db1 ea0 ea1 eb0 eb1) ?_).mono fun r w' h => h.to ?_
  · rintro neg V D e ⟨rfl, hS⟩
    have := sum_small hS ⟨da0, by omega⟩ ⟨db0, by omega⟩ (by omega) (by omega) (by omega) (by omega)
    exact ⟨this.1, one_4400, this.2⟩
  · rintro neg V D e ⟨rfl, hS⟩
    obtain ⟨k, hc, key, _⟩ := hS.at 1074 (by omega) (by omega) ga gb
    replace key : Ie.sn neg (V * 2 ^ k) = Ie.uv a - Ie.uv b := by
      rw [key, Int.sub_eq_add_neg, ← u1]; rfl
    refine Ie.FF.of (fun hi => ?_) ?_
    · have := Ie.is_whole (x := d) (q := 0) hS.2.2.1.1 (Ie.fin_of hd hi) k (show (k : Int) - ((0 : Nat) : Int) = e + 1074 by omega) key
      rw [Int.pow_zero, Int.mul_one] at this
      exact this
    · exact Ie.ty_whole (q := 0) hS.2.2.1.1 k (show (k : Int) - ((0 : Nat) : Int) = e + 1074 by omega) key

theorem yfl3 (a b c d : Int) (w : World) (a0 : 0 ≤ a) (a1 : a < 18446744073709551616) (b0 : 0 ≤ b) (b1 : b < 18446744073709551616) (d0 : 0 ≤ d) (d1 : d < 18446744073709551616) (fa : Ie.fin a) (fb : Ie.fin b) (hd : Ie.isn d = false) :
    Calls Tryz.prog 61 #[.int .i64 3, .int .u64 a, .int .u64 b, .int .u64 c, .int .u64 d] w fun r w' => r = .returned (.int .i64 (Ie.FF 3 a b c d)) ∧ Below w.heap.size w w' := by
  obtain ⟨⟨da0, da1⟩, ⟨ea0, ea1⟩, ga, _⟩ := Ie.dec_f a fa
  obtain ⟨⟨db0, db1⟩, ⟨eb0, eb1⟩, gb, _⟩ := Ie.dec_f b fb
  have OA := fun wx => yof2 a _ _ _ wx a0 a1 rfl rfl rfl da0 da1
  have OB := fun wx => yof2 b _ _ _ wx b0 b1 rfl rfl rfl db0 db1
  have ps := pr_small da0 da1 db0 db1
  refine (yflags_op 3 a b c d w (by decide) d0 d1 hd (fun wx => yres3 a b c wx OA OB da1 db1 ea0 ea1 eb0 eb1) ?_).mono fun r w' h => h.to ?_
  · rintro neg V D e ⟨rfl, rfl, rfl, rfl⟩
    exact ⟨big_4400 (k := 110) (by have : (2 : Int) ^ 110 = 1298074214633706907132624082305024 := by decide
                                   omega) (by decide), one_4400, by omega, by omega⟩
  · rintro neg V D e ⟨rfl, rfl, rfl, rfl⟩
    obtain ⟨k, hc⟩ : ∃ k : Nat, (k : Int) = Ie.de a + Ie.de b + 2148 := ⟨(Ie.de a + Ie.de b + 2148).toNat, by omega⟩
    have key : Ie.sn (Ie.ngd a != Ie.ngd b) (Ie.dm a * Ie.dm b * 2 ^ k) = Ie.uv a * Ie.uv b := by rw [Ie.prod_at fa fb k hc]; exact (Ie.uv_mul a b).symm
    refine Ie.FF.of (fun hi => ?_) ?_
    · exact Ie.is_whole (x := d) (q := 1074) ps.1 (Ie.fin_of hd hi) k (by omega) key
    · exact Ie.ty_whole (q := 1074) ps.1 k (by omega) key

theorem yfl4 (a b c d : Int) (w : World) (a0 : 0 ≤ a) (a1 : a < 18446744073709551616) (b0 : 0 ≤ b) (b1 : b < 18446744073709551616) (d0 : 0 ≤ d) (d1 : d < 18446744073709551616) (fa : Ie.fin a) (fb : Ie.fin b) (hb : Ie.ab b ≠ 0) (hd : Ie.isn d = false) :
    Calls Tryz.prog 61 #[.int .i64 4, .int .u64 a, .int .u64 b, .int .u64 c, .int .u64 d] w fun r w' => r = .returned (.int .i64 (Ie.FF 4 a b c d)) ∧ Below w.heap.size w w' := by
  obtain ⟨⟨da0, da1⟩, ⟨ea0, ea1⟩, ga, _⟩ := Ie.dec_f a fa
  obtain ⟨⟨db0, db1⟩, ⟨eb0, eb1⟩, gb, _⟩ := Ie.dec_f b fb
  have OA := fun wx => yof2 a _ _ _ wx a0 a1 rfl rfl rfl da0 da1
  have OB := fun wx => yof2 b _ _ _ wx b0 b1 rfl rfl rfl db0 db1
  refine (yflags_op 4 a b c d w (by decide) d0 d1 hd (fun wx => yres4 a b c wx (fun wx => yratio_any a b _ _ _ _ _ _ wx OA OB (by omega) (by omega) (by omega) (by omega))) ?_).mono fun r w' h => h.to ?_
  · rintro neg V D e ⟨rfl, rfl, rfl, rfl⟩
    have e53 : (2 : Int) ^ 53 = 9007199254740992 := by decide
    exact ⟨big_4400 (k := 53) (by omega) (by decide), big_4400 (k := 53) (by omega) (by decide), by omega, by omega⟩
  · rintro neg V D e ⟨rfl, rfl, rfl, rfl⟩
    exact Ie.FF.of (fun hi => Ie.is_div fa fb hb (Ie.fin_of hd hi)) (Ie.ty_div fa fb)

theorem yfl6 (a b c d : Int) (w : World) (a0 : 0 ≤ a) (a1 : a < 18446744073709551616) (b0 : 0 ≤ b) (b1 : b < 18446744073709551616) (c0 : 0 ≤ c) (c1 : c < 18446744073709551616) (d0 : 0 ≤ d) (d1 : d < 18446744073709551616) (fa : Ie.fin a) (fb : Ie.fin b) (fc : Ie.fin c) (hd : Ie.isn d = false) :
    Calls Tryz.prog 61 #[.int .i64 6, .int .u64 a, .int .u64 b, .int .u64 c, .int .u64 d] w fun r w' => r = .returned (.int .i64 (Ie.FF 6 a b c d)) ∧ Below w.heap.size w w' := by
  obtain ⟨⟨da0, da1⟩, ⟨ea0, ea1⟩, ga, _⟩ := Ie.dec_f a fa
  obtain ⟨⟨db0, db1⟩, ⟨eb0, eb1⟩, gb, _⟩ := Ie.dec_f b fb
  obtain ⟨⟨dc0, dc1⟩, ⟨ec0, ec1⟩, gc, _⟩ := Ie.dec_f c fc
  have OA := fun wx => yof2 a _ _ _ wx a0 a1 rfl rfl rfl da0 da1
  have OB := fun wx => yof2 b _ _ _ wx b0 b1 rfl rfl rfl db0 db1
  have OC := fun wx => yof2 c _ _ _ wx c0 c1 rfl rfl rfl dc0 dc1
  have ps := pr_small da0 da1 db0 db1
  refine (yflags_op 6 a b c d w (by decide) d0 d1 hd (fun wx => yres6 a b c wx OA OB OC da1 db1 ea0 ea1 eb0 eb1 dc1 ec0 ec1 ps.2) ?_).mono fun r w' h => h.to ?_
  · rintro neg V D e ⟨rfl, hS⟩
    have := sum_small hS ps ⟨dc0, by omega⟩ (by omega) (by omega) (by omega) (by omega)
    exact ⟨this.1, one_4400, this.2⟩
  · rintro neg V D e ⟨rfl, hS⟩
    have g2 : ∀ k : Nat, (k : Int) = Ie.de c + (2148 : Nat) → Ie.dm c * 2 ^ k = Ie.un (Ie.ab c) * 2 ^ 1074 := by
      intro k hk
      obtain ⟨kc, hkc⟩ : ∃ k : Nat, (k : Int) = Ie.de c + 1074 := ⟨(Ie.de c + 1074).toNat, by omega⟩
      rw [← gc kc hkc, show k = kc + 1074 by omega, Nm.two_add, Int.mul_assoc]
    obtain ⟨k, hc, key, _⟩ := hS.at 2148 (by omega) (by omega) (fun k hk => Ie.prod_at fa fb k (by omega)) g2
    rw [← Ie.uv_mul, ← Ie.sn_mul_right (Ie.ngd c)] at key
    refine Ie.FF.of (fun hi => ?_) ?_
    · exact Ie.is_whole (x := d) (q := 1074) hS.2.2.1.1 (Ie.fin_of hd hi) k (by omega) key
    · exact Ie.ty_whole (q := 1074) hS.2.2.1.1 k (by omega) key

theorem yfl5 (a b c d : Int) (w : World) (a0 : 0 ≤ a) (a1 : a < 18446744073709551616) (d0 : 0 ≤ d) (d1 : d < 18446744073709551616) (fa : Ie.fin a) (hn : Ie.isz a = false → Ie.ngd a = false) (fd : Ie.fin d) (hz : Ie.isz a = true → d = a) :
    Calls Tryz.prog 61 #[.int .i64 5, .int .u64 a, .int .u64 b, .int .u64 c, .int .u64 d] w fun r w' => r = .returned (.int .i64 (Ie.FF 5 a b c d)) ∧ Below w.heap.size w w' := by
  have F := yflags5 a b c d w a0 a1 fa hn d0 d1 fd
  obtain ⟨⟨m0, m1⟩, ⟨g0, g1⟩, gx, zx⟩ := Ie.dec_f d fd
  have ID : Ie.isi d = false := by rw [Ie.isi, decide_eq_false_iff_not]; rw [Ie.fin] at fd; omega
  have E : Fl5 a d = Ie.FF 5 a b c d := by
    have T : ¬Ie.TinyIs 5 a b c := by rw [Ie.TinyIs]; simp
    obtain ⟨k, hk⟩ : ∃ k : Nat, (k : Int) = Ie.de d + 1074 := ⟨(Ie.de d + 1074).toNat, by omega⟩
    have hu := gx k hk
    have key : Ie.sn false (Ie.dm d * Ie.dm d * 2 ^ (k + k)) = Ie.uv d * Ie.uv d := by
      rw [Ie.sn_false, Ie.uv, Nm.two_add, show Ie.dm d * Ie.dm d * (2 ^ k * 2 ^ k) = (Ie.dm d * 2 ^ k) * (Ie.dm d * 2 ^ k) by generalize (2 : Int) ^ k = K; ac_rfl, hu]
      cases Ie.ngd d with
      | false => rfl
      | true => rw [show Ie.sn true (Ie.un (Ie.ab d)) = -(Ie.un (Ie.ab d)) from rfl, Int.neg_mul_neg]
    have W := Ie.is_whole (x := a) (q := 1074) (Int.mul_nonneg m0 m0) fa (k + k) (show ((k + k : Nat) : Int) - (1074 : Nat) = Ie.de d + Ie.de d + 1074 by omega) key
    have X : (Ie.isB false (Ie.dm d * Ie.dm d) 1 (Ie.de d + Ie.de d) a || Ie.isz a) = true ↔ Ie.ExactIs 5 a b c d := by
      have e5 : Ie.ExactIs 5 a b c d ↔ Ie.uv a * 2 ^ 1074 = Ie.uv d * Ie.uv d := Iff.rfl
      rw [e5, Bool.or_eq_true, W]
      constructor
      · rintro (h | h)
        · exact h.symm
        · have := hz h
          subst this
          have z : Ie.ab d = 0 := by rw [Ie.isz, decide_eq_true_eq] at h; exact h
          rw [Ie.uv, z, Ie.un_zero, Ie.sn_zero, Int.zero_mul, Int.zero_mul]
      · exact fun h => .inl h.symm
    rw [Fl5, Ie.FF, Ie.fl, ID]
    by_cases h : Ie.ExactIs 5 a b c d
    · rw [if_pos (X.2 h), Ie.tru_t h]; rfl
    · rw [if_neg (fun k => h (X.1 k)), Ie.tru_f h, Ie.tru_f T]; rfl
  rw [E] at F
  exact F
end Go.Proofs.YtljpmddjcfkonaaGreatDoor

namespace Go.Proofs.YtljpmddjcfkonaaGreatDoor
open Go Go.RowKit Go.Deep

namespace Ie
/-- What a sum answers, whoever makes it: one double. -/
def AddR (a b r : Int) : Prop :=
  if isn a = true ∨ isn b = true then r = 9221120237041090560
  else if isi a = true ∧ isi b = true ∧ a ≠ b then r = 9221120237041090560
  else if isi a = true then r = a
  else if isi b = true then r = b
  else RS (uv a + uv b) 1 (ngd a && ngd b) r

theorem yadd_rs {a b : Int} {neg : Bool} {V m x : Int} (fa : fin a) (fb : fin b) (hS : SumIs (ngd a) (dm a) (de a) (ngd b) (dm b) (de b) neg V m) (hR : Rnd V 1 m false x) : RS (uv a + uv b) 1 (ngd a && ngd b) (sg neg x) := by
  obtain ⟨_, ⟨ea0, ea1⟩, ga, _⟩ := dec_f a fa
  obtain ⟨_, ⟨eb0, eb1⟩, gb, _⟩ := dec_f b fb
  obtain ⟨c, hc, key, h0⟩ := hS.at 1074 (by omega) (by omega) ga gb
  exact rs_of hR hS.2.2.1.1 c 0 (by omega) key.symm rfl h0

theorem AddIs.r {a b r f : Int} (h : AddIs a b r f) : AddR a b r := by
  have h0 := h
  unfold AddR
  unfold AddIs at h
  split
  · rename_i g; rw [if_pos g] at h; exact h.1
  rename_i g1; rw [if_neg g1] at h
  split
  · rename_i g; rw [if_pos g] at h; exact h.1
  rename_i g2; rw [if_neg g2] at h
  split
  · rename_i g; rw [if_pos g] at h; exact h.1
  rename_i g3; rw [if_neg g3] at h
  split
  · rename_i g; rw [if_pos g] at h; exact h.1
  rename_i g4
  have fa : fin a := fin_of (by cases c : isn a; rfl; exact absurd (.inl c) g1) (by cases c : isi a; rfl; exact absurd c g3)
  have fb : fin b := fin_of (by cases c : isn b; rfl; exact absurd (.inr c) g1) (by cases c : isi b; rfl; exact absurd c g4)
  exact h0.rs fa fb

theorem AddR.one {a b r r' : Int} (h : AddR a b r) (k : AddR a b r') : r = r' := by
  unfold AddR at h k
  split at h
  · rename_i g; rw [if_pos g] at k; rw [h, k]
  rename_i g1; rw [if_neg g1] at k
  split at h
  · rename_i g; rw [if_pos g] at k; rw [h, k]
  rename_i g2; rw [if_neg g2] at k
  split at h
  · rename_i g; rw [if_pos g] at k; rw [h, k]
  rename_i g3; rw [if_neg g3] at k
  split at h
  · rename_i g; rw [if_pos g] at k; rw [h, k]
  rename_i g4; rw [if_neg g4] at k
  exact h.one (by omega) (by omega) k rfl

theorem inf_same {a b : Int} (a0 : 0 ≤ a) (a1 : a < 18446744073709551616) (b0 : 0 ≤ b) (b1 : b < 18446744073709551616) (ha : isi a = true) (hb : isi b = true) : ngd a = ngd b ↔ a = b := by
  have ha1 : a % 9223372036854775808 = 9218868437227405312 := of_decide_eq_true ha
  have hb1 : b % 9223372036854775808 = 9218868437227405312 := of_decide_eq_true hb
  simp only [ngd, decide_eq_decide]
  constructor
  · intro h
    by_cases c : 9223372036854775808 ≤ a
    · have := h.1 c; omega
    · have : ¬ 9223372036854775808 ≤ b := fun d => c (h.2 d)
      omega
  · rintro rfl; exact Iff.rfl
end Ie

def AddTold5 (a b : Int) (w : World) (r : Ending) (w' : World) : Prop := ∃ x, r = .returned (.int .u64 x) ∧ Ie.AddR a b x ∧ Below w.heap.size w w'

set_option maxRecDepth 100000 in
set_option maxHeartbeats 4000000 in
theorem yadd_any (a b : Int) (w : World) (a0 : 0 ≤ a) (a1 : a < 18446744073709551616) (b0 : 0 ≤ b) (b1 : b < 18446744073709551616) :
    Calls Tryz.prog 18 #[.int .u64 a, .int .u64 b] w fun e w' => AddTold5 a b w e w' := by
  have GA := hid (fun wx => yngd_any a wx)
  have GB := hid (fun wx => yngd_any b wx)
  have AN := hid (fun wx => yanynan_any a b wx a0 a1 b0 b1)
  have IA := hid (fun wx => yinf_any a wx a0 a1)
  have IB := hid (fun wx => yinf_any b wx b0 b1)
  have FF : Hid (∀ x w', Ie.AddR a b x → Below w.heap.size w w' → AddTold5 a b w (.returned (.int .u64 x)) w') := fun x w' h k => ⟨x, rfl, h, k⟩
  have BR := hid (Below.refl w.heap.size w)
  have SM := hid (Ie.inf_same a0 a1 b0 b1)
  have RA : Hid (Ie.isn a = false → Ie.isi a = false → Ie.isn b = false → Ie.isi b = false → (∀ wx, Calls Tryz.prog 22 #[.int .u64 a] wx (fun r w' => NumTold5 (Ie.ngd a) (Ie.dm a) 1 (Ie.de a) wx r w')) ∧ (∀ wx, Calls Tryz.prog 22 #[.int .u64 b] wx (fun r w' => NumTold5 (Ie.ngd b) (Ie.dm b) 1 (Ie.de b) wx r w')) ∧ Ie.fin a ∧ Ie.fin b ∧ (Ie.dm a < 1298074214633706907132624082305024 ∧ Ie.dm b < 1298074214633706907132624082305024) ∧ (-2200 ≤ Ie.de a ∧ Ie.de a ≤ 2000) ∧ -2200 ≤ Ie.de b ∧ Ie.de b ≤ 2000) := fun h1 h2 h3 h4 => by
    have fa := Ie.fin_of h1 h2
    have fb := Ie.fin_of h3 h4
    obtain ⟨⟨da0, da1⟩, ⟨ea0, ea1⟩, _, _⟩ := Ie.dec_f a fa
    obtain ⟨⟨db0, db1⟩, ⟨eb0, eb1⟩, _, _⟩ := Ie.dec_f b fb
    exact ⟨fun wx => yof2 a _ _ _ wx a0 a1 rfl rfl rfl da0 da1, fun wx => yof2 b _ _ _ wx b0 b1 rfl rfl rfl db0 db1, fa, fb, ⟨by omega, by omega⟩, ⟨by omega, by omega⟩, by omega, by omega⟩
  have UN : Hid (∀ r, Ie.AddR a b r = (if Ie.isn a = true ∨ Ie.isn b = true then r = 9221120237041090560 else if Ie.isi a = true ∧ Ie.isi b = true ∧ a ≠ b then r = 9221120237041090560 else if Ie.isi a = true then r = a else if Ie.isi b = true then r = b else Ie.RS (Ie.uv a + Ie.uv b) 1 (Ie.ngd a && Ie.ngd b) r)) := fun r => rfl
  clear a0 a1 b0 b1
  by_cases hn : (Ie.isn a || Ie.isn b) = true
  · have hn2 : Ie.isn a = true ∨ Ie.isn b = true := by simpa using hn
    rw [hn] at AN
    have F := hid (FF.out 9221120237041090560 w (by rw [UN.out]; simp [hn2]) BR.out)
    clear FF UN RA BR SM
    go_enter Tryz.func18, Tryz.ntmps18
    go_wp2_with (first | (go_at_call 16; first | (with_reducible refine (GA.out _).mono ?_; rintro e w' ⟨rfl, rfl⟩) | (with_reducible refine (GB.out _).mono ?_; rintro e w' ⟨rfl, rfl⟩)) | (go_at_call 12; first | (with_reducible refine (AN.out _).mono ?_; rintro e w' ⟨rfl, rfl⟩)) | (go_at_call 14; first | (with_reducible refine (IA.out _).mono ?_; rintro e w' ⟨rfl, rfl⟩) | (with_reducible refine (IB.out _).mono ?_; rintro e w' ⟨rfl, rfl⟩)))
    go_ret
    exact F.out
  have h1 : Ie.isn a = false := by cases c : Ie.isn a; rfl; simp [c] at hn
  have h2 : Ie.isn b = false := by cases c : Ie.isn b; rfl; simp [c] at hn
  rw [h1, h2] at AN
  clear hn
  cases h3 : Ie.isi a
  · rw [h3] at IA
    cases h4 : Ie.isi b
    · rw [h4] at IB
      obtain ⟨OA, OB, fa, fb, ⟨ma, mb⟩, ⟨ea0, ea1⟩, eb0, eb1⟩ := RA.out h1 h3 h2 h4
      have HA := hid OA
      have HB := hid OB
      have KK : Hid (∀ neg V m x w', Ie.SumIs (Ie.ngd a) (Ie.dm a) (Ie.de a) (Ie.ngd b) (Ie.dm b) (Ie.de b) neg V m → Ie.Rnd V 1 m false x → Below w.heap.size w w' → AddTold5 a b w (.returned (.int .u64 (Ie.sg neg x))) w') := fun neg V m x w' hS hR k => FF.out _ w' (by rw [UN.out]; simp only [h1, h2, h3, h4, Bool.false_eq_true, or_self, false_and, if_false]; exact Ie.yadd_rs fa fb hS hR) k
      clear OA OB fa fb FF UN RA BR SM
      go_enter Tryz.func18, Tryz.ntmps18
      go_wp2_with (first | (go_at_call 16; first | (with_reducible refine (GA.out _).mono ?_; rintro e w' ⟨rfl, rfl⟩) | (with_reducible refine (GB.out _).mono ?_; rintro e w' ⟨rfl, rfl⟩)) | (go_at_call 12; first | (with_reducible refine (AN.out _).mono ?_; rintro e w' ⟨rfl, rfl⟩)) | (go_at_call 14; first | (with_reducible refine (IA.out _).mono ?_; rintro e w' ⟨rfl, rfl⟩) | (with_reducible refine (IB.out _).mono ?_; rintro e w' ⟨rfl, rfl⟩)))
      with_reducible refine (HA.out _).mono ?_
      rintro r w1 ⟨v1, rfl, N1, hB1⟩
      go_wp2_with fail
      with_reducible refine (HB.out _).mono ?_
      rintro r w2 ⟨v2, rfl, N2, hB2⟩
      have PR := hid (ysum_any (N1.on hB2) (N2.lower hB1.size) (Nat.le_trans hB1.size hB2.size) ma mb ea0 ea1 eb0 eb1)
      have B2 := hid (bel hB1 hB2)
      clear N1 N2 hB1 hB2 HA HB
      go_wp2_with fail
      with_reducible refine PR.out.mono ?_
      rintro r w3 ⟨v3, neg, V, m, rfl, N3, hS, hB3⟩
      have YR := hid (yrounded_any N3 (by omega))
      have B3 := hid (bel B2.out hB3)
      have HS := hid hS
      clear N3 hB3 PR B2 hS
      go_wp2_with fail
      with_reducible refine YR.out.mono ?_
      rintro r w4 ⟨x, rfl, R, hB4⟩
      have F := hid (KK.out neg V m x w4 HS.out R (bel B3.out hB4))
      clear R hB4 YR KK B3 HS
      go_wp2_with fail
      go_ret
      exact F.out
    · rw [h4] at IB
      have F := hid (FF.out b w (by rw [UN.out]; simp [h1, h2, h3, h4]) BR.out)
      clear FF UN RA BR SM
      go_enter Tryz.func18, Tryz.ntmps18
      go_wp2_with (first | (go_at_call 16; first | (with_reducible refine (GA.out _).mono ?_; rintro e w' ⟨rfl, rfl⟩) | (with_reducible refine (GB.out _).mono ?_; rintro e w' ⟨rfl, rfl⟩)) | (go_at_call 12; first | (with_reducible refine (AN.out _).mono ?_; rintro e w' ⟨rfl, rfl⟩)) | (go_at_call 14; first | (with_reducible refine (IA.out _).mono ?_; rintro e w' ⟨rfl, rfl⟩) | (with_reducible refine (IB.out _).mono ?_; rintro e w' ⟨rfl, rfl⟩)))
      go_ret
      exact F.out
  · rw [h3] at IA
    cases h4 : Ie.isi b
    · rw [h4] at IB
      have F := hid (FF.out a w (by rw [UN.out]; simp [h1, h2, h3, h4]) BR.out)
      clear FF UN RA BR SM
      go_enter Tryz.func18, Tryz.ntmps18
      go_wp2_with (first | (go_at_call 16; first | (with_reducible refine (GA.out _).mono ?_; rintro e w' ⟨rfl, rfl⟩) | (with_reducible refine (GB.out _).mono ?_; rintro e w' ⟨rfl, rfl⟩)) | (go_at_call 12; first | (with_reducible refine (AN.out _).mono ?_; rintro e w' ⟨rfl, rfl⟩)) | (go_at_call 14; first | (with_reducible refine (IA.out _).mono ?_; rintro e w' ⟨rfl, rfl⟩) | (with_reducible refine (IB.out _).mono ?_; rintro e w' ⟨rfl, rfl⟩)))
      go_ret
      exact F.out
    · rw [h4] at IB
      by_cases hs : a = b
      · have F := hid (FF.out a w (by rw [UN.out, if_neg (by simp [h1, h2]), if_neg (fun c => c.2.2 hs), if_pos h3]) BR.out)
        have hg : (Ie.ngd a == Ie.ngd b) = true := by rw [beq_iff_eq]; exact (SM.out h3 h4).2 hs
        have HS := hid hs
        clear FF UN RA BR SM hs
        obtain ⟨ga, hga⟩ : ∃ g, Ie.ngd a = g := ⟨_, rfl⟩
        obtain ⟨gb, hgb⟩ : ∃ g, Ie.ngd b = g := ⟨_, rfl⟩
        rw [hga] at GA
        rw [hgb] at GB
        rw [hga, hgb] at hg
        clear hga hgb
        go_enter Tryz.func18, Tryz.ntmps18
        go_wp2_with (first | (go_at_call 16; first | (with_reducible refine (GA.out _).mono ?_; rintro e w' ⟨rfl, rfl⟩) | (with_reducible refine (GB.out _).mono ?_; rintro e w' ⟨rfl, rfl⟩)) | (go_at_call 12; first | (with_reducible refine (AN.out _).mono ?_; rintro e w' ⟨rfl, rfl⟩)) | (go_at_call 14; first | (with_reducible refine (IA.out _).mono ?_; rintro e w' ⟨rfl, rfl⟩) | (with_reducible refine (IB.out _).mono ?_; rintro e w' ⟨rfl, rfl⟩)))
        go_ret
        exact F.out
      · have F := hid (FF.out 9221120237041090560 w (by rw [UN.out]; simp [h1, h2, h3, h4, hs]) BR.out)
        have hg : (Ie.ngd a == Ie.ngd b) = false := by rw [beq_eq_false_iff_ne]; exact fun c => hs ((SM.out h3 h4).1 c)
        clear FF UN RA BR SM hs
        obtain ⟨ga, hga⟩ : ∃ g, Ie.ngd a = g := ⟨_, rfl⟩
        obtain ⟨gb, hgb⟩ : ∃ g, Ie.ngd b = g := ⟨_, rfl⟩
        rw [hga] at GA
        rw [hgb] at GB
        rw [hga, hgb] at hg
        clear hga hgb
        go_enter Tryz.func18, Tryz.ntmps18
        go_wp2_with (first | (go_at_call 16; first | (with_reducible refine (GA.out _).mono ?_; rintro e w' ⟨rfl, rfl⟩) | (with_reducible refine (GB.out _).mono ?_; rintro e w' ⟨rfl, rfl⟩)) | (go_at_call 12; first | (with_reducible refine (AN.out _).mono ?_; rintro e w' ⟨rfl, rfl⟩)) | (go_at_call 14; first | (with_reducible refine (IA.out _).mono ?_; rintro e w' ⟨rfl, rfl⟩) | (with_reducible refine (IB.out _).mono ?_; rintro e w' ⟨rfl, rfl⟩)))
        go_ret
        exact F.out

set_option maxRecDepth 100000 in
theorem ysub_any (a b : Int) (w : World) (a0 : 0 ≤ a) (a1 : a < 18446744073709551616) (b0 : 0 ≤ b) (b1 : b < 18446744073709551616) :
    Calls Tryz.prog 79 #[.int .u64 a, .int .u64 b] w fun e w' => AddTold5 a (Ie.ng b) w e w' := by
  have nb : 0 ≤ Ie.ng b ∧ Ie.ng b < 18446744073709551616 := by unfold Ie.ng; split <;> omega
  have NG := hid (yneg_any b w b0 b1)
  have AD := hid (yadd_any a (Ie.ng b) w a0 a1 nb.1 nb.2)
  clear a0 a1 b0 b1 nb
  go_enter Tryz.func79, Tryz.ntmps79
  go_wp2_with fail
  with_reducible refine NG.out.mono ?_
  rintro e w' ⟨rfl, rfl⟩
  go_wp2_with fail
  with_reducible refine AD.out.mono ?_
  rintro e w1 ⟨x, rfl, hx, hB⟩
  have F : Hid (AddTold5 a (Ie.ng b) w' (.returned (.int .u64 x)) w1) := ⟨x, rfl, hx, hB⟩
  clear hx hB AD NG
  go_wp2_with fail
  go_ret
  exact F.out
end Go.Proofs.YtljpmddjcfkonaaGreatDoor

namespace Go.Proofs.YtljpmddjcfkonaaGreatDoor

/-- There is always a nearest double. -/
theorem near_ex (P Q : Int) : ∃ x, Ie.Near P Q false x := by
  have step : ∀ k : Nat, (∃ x, Ie.Near P Q false x) ∨ ((k : Int) ≤ 9218868437227405312 → 0 < (k : Int) → Ie.md (k - 1) * Q < P ∨ (Ie.md (k - 1) * Q = P ∧ (k : Int) % 2 = 0)) := by
    intro k
    induction k with
    | zero => exact .inr (fun _ h => absurd h (by simp))
    | succ k ih =>
      rcases ih with ih | ih
      · exact .inl ih
      · rcases (show (k : Int) < 9218868437227405312 ∨ 9218868437227405312 ≤ (k : Int) by omega) with hk | hk
        · by_cases hu : P < Ie.md k * Q ∨ (P = Ie.md k * Q ∧ (k : Int) % 2 = 0)
          · left
            refine ⟨k, ⟨by omega, by omega⟩, fun h => ?_, fun _ => ?_⟩
            · rcases ih (by omega) h with g | ⟨g, g'⟩
              · exact .inl g
              · exact .inr ⟨g, .inl g'⟩
            · rcases hu with g | ⟨g, g'⟩
              · exact .inl g
              · exact .inr ⟨g, g', rfl⟩
          · right
            intro _ _
            rw [show ((k + 1 : Nat) : Int) - 1 = k by omega]
            rcases Int.lt_trichotomy (Ie.md k * Q) P with g | g | g
            · exact .inl g
            · refine .inr ⟨g, ?_⟩
              have : ¬ (k : Int) % 2 = 0 := fun c => hu (.inr ⟨g.symm, c⟩)
              omega
            · exact absurd (.inl g) hu
        · right
          intro h; omega
  rcases step 9218868437227405312 with h | h
  · exact h
  · refine ⟨9218868437227405312, ⟨by decide, by decide⟩, fun _ => ?_, fun h => absurd h (by decide)⟩
    rcases h (by decide) (by decide) with g | ⟨g, g'⟩
    · exact .inl g
    · exact .inr ⟨g, .inl g'⟩

end Go.Proofs.YtljpmddjcfkonaaGreatDoor

namespace Go.Proofs.YtljpmddjcfkonaaGreatDoor
namespace Ie

theorem rs_ex (S Q : Int) (z : Bool) : ∃ r, RS S Q z r := by
  rcases Int.lt_trichotomy S 0 with h | h | h
  · obtain ⟨x, hx⟩ := near_ex (2 * -S) Q
    exact ⟨_, true, -S, x, rfl, by simp [sn], by omega, hx, fun c => by omega⟩
  · obtain ⟨x, hx⟩ := near_ex (2 * 0) Q
    exact ⟨_, z, 0, x, rfl, by rw [sn_zero]; exact h, by omega, hx, fun _ => rfl⟩
  · obtain ⟨x, hx⟩ := near_ex (2 * S) Q
    exact ⟨_, false, S, x, rfl, by simp [sn], by omega, hx, fun c => by omega⟩

theorem addR_ex (a b : Int) : ∃ r, AddR a b r := by
  unfold AddR
  split
  · exact ⟨_, rfl⟩
  split
  · exact ⟨_, rfl⟩
  split
  · exact ⟨_, rfl⟩
  split
  · exact ⟨_, rfl⟩
  exact rs_ex _ _ _
theorem mulR_ex (a b : Int) : ∃ r, MulR a b r := by
  unfold MulR
  split
  · exact ⟨_, rfl⟩
  split
  · exact ⟨_, rfl⟩
  split
  · exact ⟨_, rfl⟩
  exact rs_ex _ _ _
theorem divR_ex (a b : Int) : ∃ r, DivR a b r := by
  unfold DivR
  split
  · exact ⟨_, rfl⟩
  split
  · exact ⟨_, rfl⟩
  split
  · exact ⟨_, rfl⟩
  split
  · exact ⟨_, rfl⟩
  split
  · exact ⟨_, rfl⟩
  exact rs_ex _ _ _
end Ie
end Go.Proofs.YtljpmddjcfkonaaGreatDoor
