/-
  code's reader: an instruction.
-/
import Derived.Test.YtnobafmleellhaaDoorCdRf
namespace Go.Proofs.YtnobafmleellhaaDoor
open Go Go.RowKit Go.Deep Go.Shelf

namespace Cd
theorem kp_new {S : Nat → Prop} {w W : World} (h : Re.Kp S w W) {g : Nat} (hg : w.heap.size ≤ g) (o : Nat) (v : Value) : Re.Kp S w (W.setCell ⟨g, o, none⟩ v) := h.setcs (.inr hg) o [v]
/-- While an instruction is read. -/
structure IS (w W : World) (rb : Nat) (q : Option Addr) (B : Ch.L8) (cap : Nat) (s : Rd) (rc ri tb : Nat) (x : In) : Prop where
  rt : RT W rb q B cap s
  kp : Re.Kp (fun b => b = rb) w W
  res : Bx W rc 26 #[.int .i64 0, .int .i64 0, .int .i64 0]
  ins : Bx W ri 26 #[.int .i64 x.w, .int .i64 x.a, .int .i64 x.b]
  tab : TB W tb
  n1 : rc ≠ rb
  n2 : ri ≠ rb
  n3 : tb ≠ rb
  n4 : rc ≠ ri
  n5 : tb ≠ ri
  n6 : w.heap.size ≤ rc
  n7 : w.heap.size ≤ ri
theorem IS.call {w W W' : World} {rb : Nat} {q : Option Addr} {B : Ch.L8} {cap : Nat} {s s' : Rd} {rc ri tb : Nat} {x : In} (h : IS w W rb q B cap s rc ri tb x) (hr : RT W' rb q B cap s') (k : Re.Kp (fun b => b = rb) W W') : IS w W' rb q B cap s' rc ri tb x :=
  ⟨hr, h.kp.trans k, h.res.kp k h.n1, h.ins.kp k h.n2, Bx.kp (show Bx _ _ _ _ from h.tab) k h.n3, h.n1, h.n2, h.n3, h.n4, h.n5, h.n6, h.n7⟩
theorem IS.on {w W W' : World} {rb : Nat} {q : Option Addr} {B : Ch.L8} {cap : Nat} {s : Rd} {rc ri tb : Nat} {x : In} (h : IS w W rb q B cap s rc ri tb x) (k : Below W.heap.size W W') : IS w W' rb q B cap s rc ri tb x :=
  h.call (h.rt.on k) (Re.Kp.of k)
theorem IS.put {w W : World} {rb : Nat} {q : Option Addr} {B : Ch.L8} {cap : Nat} {s s0 : Rd} {rc ri tb : Nat} {x : In} (h : IS w W rb q B cap s rc ri tb x) (h0 : RT w rb q B cap s0) (o : Nat) (v : Value) (y : In) (hy : (#[Value.int .i64 x.w, .int .i64 x.a, .int .i64 x.b] : Array Value).setIfInBounds o v = #[.int .i64 y.w, .int .i64 y.a, .int .i64 y.b]) : IS w (W.setCell ⟨ri, o, none⟩ v) rb q B cap s rc ri tb y := by
  have K := kp_new h.kp h.n7 o v
  refine ⟨h0.kp K (h.rt.bx.far h.n2) h.rt.le h.rt.fl, K, h.res.far (fun e => h.n4 e.symm), ?_, Bx.far (show Bx _ _ _ _ from h.tab) (fun e => h.n5 e.symm), h.n1, h.n2, h.n3, h.n4, h.n5, h.n6, h.n7⟩
  have := h.ins.set o v
  rwa [hy] at this
/-- The answer laid in the result's box. -/
theorem IS.fin {w W : World} {rb : Nat} {q : Option Addr} {B : Ch.L8} {cap : Nat} {s s0 : Rd} {rc ri tb : Nat} {x : In} (h : IS w W rb q B cap s rc ri tb x) (h0 : RT w rb q B cap s0) (u0 u1 u2 : Value) :
    Bx (((W.setCell ⟨rc, 0, none⟩ u0).setCell ⟨rc, 1, none⟩ u1).setCell ⟨rc, 2, none⟩ u2) rc 26 #[u0, u1, u2] ∧ RT (((W.setCell ⟨rc, 0, none⟩ u0).setCell ⟨rc, 1, none⟩ u1).setCell ⟨rc, 2, none⟩ u2) rb q B cap s ∧ Re.Kp (fun b => b = rb) w (((W.setCell ⟨rc, 0, none⟩ u0).setCell ⟨rc, 1, none⟩ u1).setCell ⟨rc, 2, none⟩ u2) := by
  have K := kp_new (kp_new (kp_new h.kp h.n6 0 u0) h.n6 1 u1) h.n6 2 u2
  exact ⟨h.res.put3 u0 u1 u2, h0.kp K (((h.rt.bx.far h.n1).far h.n1).far h.n1) h.rt.le h.rt.fl, K⟩
theorem in1_no {B : Ch.L8} {s : Rd} (h : ¬ (1 ≤ (next B s).1.toNat ∧ (next B s).1.toNat ≤ 33)) : in1 B s = (⟨0, 0, 0⟩, rf (next B s).2 s.a) := by
  show (if 1 ≤ (next B s).1.toNat ∧ (next B s).1.toNat ≤ 33 then _ else fun _ s' => ((⟨0, 0, 0⟩ : In), rf s' s.a)) B (next B s).2 = _
  rw [if_neg h]
theorem in1_yes {B : Ch.L8} {s : Rd} (h : 1 ≤ (next B s).1.toNat ∧ (next B s).1.toNat ≤ 33) : in1 B s = (⟨(next B s).1.toNat, ((fld (decide ((row (next B s).1.toNat).a ≠ 0)) B (next B s).2).1 : Nat), ((fld (decide ((row (next B s).1.toNat).b ≠ 0)) B (fld (decide ((row (next B s).1.toNat).a ≠ 0)) B (next B s).2).2).1 : Nat)⟩, (fld (decide ((row (next B s).1.toNat).b ≠ 0)) B (fld (decide ((row (next B s).1.toNat).a ≠ 0)) B (next B s).2).2).2) := by
  show (if 1 ≤ (next B s).1.toNat ∧ (next B s).1.toNat ≤ 33 then bnd (fld (decide ((row (next B s).1.toNat).a ≠ 0))) fun a => bnd (fld (decide ((row (next B s).1.toNat).b ≠ 0))) fun b => ret (⟨(next B s).1.toNat, a, b⟩ : In) else fun _ s' => ((⟨0, 0, 0⟩ : In), rf s' s.a)) B (next B s).2 = _
  rw [if_pos h]
  rfl
end Cd
set_option maxRecDepth 100000 in
set_option maxHeartbeats 8000000 in
theorem rinstr_any {w : World} {rb tb : Nat} {q : Option Addr} {B : Ch.L8} {cap : Nat} {s : Cd.Rd} (h : Cd.RT w rb q B cap s) (hT : Cd.TB w tb) (hne : tb ≠ rb) :
    Calls Tryd.prog 68 #[.pointer (some ⟨rb, 0, none⟩), .pointer (some ⟨tb, 0, none⟩)] w fun e w' => e = .returned (.agg #[.int .i64 (Cd.in1 B s).1.w, .int .i64 (Cd.in1 B s).1.a, .int .i64 (Cd.in1 B s).1.b]) ∧ Cd.RT w' rb q B cap (Cd.in1 B s).2 ∧ Re.Kp (fun b => b = rb) w w' := by
  have rl := h.bx.lt
  have tl := hT.lt
  obtain ⟨a, ha⟩ : ∃ a, s.a = a := ⟨_, rfl⟩
  have hle := h.le
  have hlen := h.len
  have NX : Hid (∀ W s, Cd.RT W rb q B cap s → _) := fun W s hs => rnumber_any hs
  have NE : Hid (∀ W, Cd.RT W rb q B cap s → _) := fun W hs => rnext_any hs
  have RF : Hid (∀ W s, Cd.RT W rb q B cap s → _) := fun W s hs => rrefuse_any hs a (fun _ => by omega)
  have IW := hid (fun (k : Int) (W : World) => cisw_any k W)
  have IN : Hid (¬ (1 ≤ (Cd.next B s).1.toNat ∧ (Cd.next B s).1.toNat ≤ 33) → _) := fun h => Cd.in1_no h
  have IY : Hid (1 ≤ (Cd.next B s).1.toNat ∧ (Cd.next B s).1.toNat ≤ 33 → _) := fun h => Cd.in1_yes h
  have H0 := hid h
  obtain ⟨T, hTe⟩ : ∃ T, Cd.in1 B s = T := ⟨_, rfl⟩
  rw [hTe] at IN IY
  rw [hTe]
  rw [ha] at IN hle
  generalize Cd.next B s = XS at *
  obtain ⟨x, s1⟩ := XS
  simp only at *
  have xl := x.toNat_lt
  have A1 := hid (alloc_b w (.cells #[.int .i64 0, .int .i64 0, .int .i64 0] 26))
  have R1 := hid (Bx.new w 26 #[.int .i64 0, .int .i64 0, .int .i64 0])
  have H1 := hid (h.on A1.out)
  have T1 := hid (hT.on A1.out)
  have sz1 : (w.alloc (.cells #[.int .i64 0, .int .i64 0, .int .i64 0] 26)).heap.size = w.heap.size + 1 := World.size_alloc ..
  obtain ⟨k0, k1, k2, k3⟩ := Cd.bx4 H1.out.bx
  rw [ha] at k1
  clear hTe h hT ha
  go_enter Tryd.func68, Tryd.ntmps68
  go_upto_region 2 with fail
  generalize w.alloc (.cells #[.int .i64 0, .int .i64 0, .int .i64 0] 26) = w1 at *
  obtain ⟨c, hc⟩ : ∃ c, x.toNat = c := ⟨_, rfl⟩
  rw [hc] at NE IN IY xl
  go_upto_region 3 with (go_at_call 64; refine (NE.out _ H1.out).mono ?_; rintro e w2 ⟨rfl, g1, g2⟩; have G2 := hid (And.intro g1 g2); clear g1 g2 k0 k1 k2 k3 NE H1)
  have I3 : Hid (Cd.IS w (w2.alloc (.cells #[.int .i64 (c : Int), .int .i64 0, .int .i64 0] 26)) rb q B cap s1 w.heap.size w2.heap.size tb ⟨(c : Int), 0, 0⟩) := by
    have al := alloc_b w2 (.cells #[.int .i64 (c : Int), .int .i64 0, .int .i64 0] 26)
    have k2 := G2.out.2
    have s2 := k2.size
    have n1 : w.heap.size ≠ rb := by omega
    exact ⟨G2.out.1.on al, ((Re.Kp.of A1.out).trans k2).trans (Re.Kp.of al), (R1.out.kp k2 n1).on al, Bx.new w2 26 _, (Bx.kp (show Bx _ _ _ _ from T1.out) k2 hne).on al, n1, by omega, hne, by omega, by omega, Nat.le_refl _, by omega⟩
  clear A1 R1 T1 G2 sz1
  generalize w2.alloc (.cells #[.int .i64 (c : Int), .int .i64 0, .int .i64 0] 26) = w3 at *
  generalize w2.heap.size = ri at *
  obtain ⟨rc, hrc⟩ : ∃ rc, w.heap.size = rc := ⟨_, rfl⟩
  rw [hrc] at I3 ⊢
  obtain ⟨j0, j1, j2⟩ := bx3 I3.out.ins
  by_cases hw : 1 ≤ c ∧ c ≤ 33
  · have hwi : decide (1 ≤ (c : Int) ∧ (c : Int) ≤ 33) = true := decide_eq_true (by omega)
    have E3 := hid (IY.out hw)
    have IW1 := IW.out (c : Int) w3
    rw [hwi] at IW1
    have IW1 := hid IW1
    have c1 : (1 : Int) ≤ (c : Int) := by omega
    have c2 : (c : Int) ≤ 33 := by omega
    have c3 : (c : Int) < 34 := by omega
    clear IY IN RF hwi IW
    go_upto_region 6 with (go_at_call 72; refine IW1.out.mono ?_; rintro e w4 ⟨rfl, rfl⟩; clear IW1)
    have U3 : Hid (Below w4.heap.size w4 w4.drew) := Below.drew (Below.refl _ _)
    have I4 := hid (I3.out.on U3.out)
    obtain ⟨m0, m1, m2⟩ := bx3 I4.out.ins
    have mt := (I4.out.tab.cells c (by omega)).2.1
    obtain ⟨qa, hra⟩ : ∃ qa, (Cd.row c).a = qa := ⟨_, rfl⟩
    obtain ⟨qb, hrb⟩ : ∃ qb, (Cd.row c).b = qb := ⟨_, rfl⟩
    rw [hra] at mt
    rw [hra, hrb] at E3
    clear j0 j1 j2 U3 I3
    go_region_held3 (fun W => W.cell? ⟨ri, 0, none⟩ = some (.int .i64 (c : Int)) ∧ W.cell? ⟨tb, c * 5 + 1, none⟩ = some (.int .i64 qa)) (with_reducible exact ⟨m0, mt⟩) (fail)
    clear mt
    generalize w4.drew = w5 at *
    by_cases za : qa = 0
    · have zai : (qa != 0) = false := by rw [za]; rfl
      have E5 : Hid (T = (⟨(c : Int), 0, ((Cd.fld (decide (qb ≠ 0)) B s1).1 : Nat)⟩, (Cd.fld (decide (qb ≠ 0)) B s1).2)) := by
        rw [Hid, E3.out, decide_eq_false (fun z => z za)]
        rfl
      have I5 := hid I4.out
      obtain ⟨va, hva⟩ : ∃ va : Int, 0 = va := ⟨_, rfl⟩
      obtain ⟨s5, hs5⟩ : ∃ s5, s1 = s5 := ⟨_, rfl⟩
      rw [hs5] at I5 E5
      rw [show (⟨(c : Int), 0, ((Cd.fld (decide (qb ≠ 0)) B s5).1 : Nat)⟩ : Cd.In) = ⟨(c : Int), va, ((Cd.fld (decide (qb ≠ 0)) B s5).1 : Nat)⟩ by rw [hva]] at E5
      rw [show (⟨(c : Int), 0, 0⟩ : Cd.In) = ⟨(c : Int), va, 0⟩ by rw [hva]] at I5
      clear E3 I4 hva hs5 m0 m1 m2
      generalize w5 = W5 at *
      obtain ⟨j0, j1, j2⟩ := bx3 I5.out.ins
      go_upto_region 8 with fail
      have U5 : Hid (Below W5.heap.size W5 W5.drew) := Below.drew (Below.refl _ _)
      have I6 := hid (I5.out.on U5.out)
      obtain ⟨m0, m1, m2⟩ := bx3 I6.out.ins
      have mt := (I6.out.tab.cells c (by omega)).2.2.1
      rw [hrb] at mt
      clear j0 j1 j2 U5 I5
      go_region_held3 (fun W => W.cell? ⟨ri, 0, none⟩ = some (.int .i64 (c : Int)) ∧ W.cell? ⟨tb, c * 5 + 2, none⟩ = some (.int .i64 qb)) (with_reducible exact ⟨m0, mt⟩) (fail)
      all_goals
        clear mt
        generalize W5.drew = W6 at *
        by_cases zb : qb = 0
        · have FT : Hid (T = (⟨(c : Int), va, 0⟩, s5)) := by
            rw [Hid, E5.out, decide_eq_false (fun z => z zb)]
            rfl
          have zbi : (qb != 0) = false := by rw [zb]; rfl
          clear E5 NX
          obtain ⟨r0, r1, r2⟩ := bx3 I6.out.res
          have f0 := I6.out.res.free 0
          have f1 := I6.out.res.free 1
          have f2 := I6.out.res.free 2
          go_wp2_with fail
          have FN := hid (I6.out.fin H0.out (.int .i64 (c : Int)) (.int .i64 va) (.int .i64 0))
          refine bodyPost_ret (results_cell_row rfl _ _ rc 26 _ (0, 0) _ rfl FN.out.1 Tryd.underlying26 rfl (by kernel_rfl)) rfl ?_
          rw [FT.out]
          exact ⟨rfl, FN.out.2⟩
        · have zbi : (qb != 0) = true := by rw [bne_iff_ne]; exact zb
          have N6 := hid (NX.out W6 s5 I6.out.rt)
          have e5 : T = (⟨(c : Int), va, ((Cd.nb B s5).1 : Nat)⟩, (Cd.nb B s5).2) := by
            rw [E5.out, decide_eq_true zb]
            rfl
          generalize Cd.nb B s5 = NB at *
          obtain ⟨n6, s6⟩ := NB
          simp only at *
          have FT := hid e5
          clear e5 E5 NX m0 m1 m2
          go_upto_region 10 with (go_at_call 66; refine N6.out.mono ?_; rintro e w7 ⟨rfl, g1, g2⟩; have I7 := hid (I6.out.call g1 g2); obtain ⟨m0, m1, m2⟩ := bx3 I7.out.ins; have fz := I7.out.ins.free 2; clear g1 g2 N6 I6)
          have I8 := hid (I7.out.put H0.out 2 (.int .i64 (n6 : Int)) ⟨(c : Int), va, (n6 : Int)⟩ rfl)
          clear m0 m1 m2 fz I7
          generalize w7.setCell ⟨ri, 2, none⟩ (.int .i64 (n6 : Int)) = w8 at *
          obtain ⟨m0, m1, m2⟩ := bx3 I8.out.ins
          obtain ⟨r0, r1, r2⟩ := bx3 I8.out.res
          have f0 := I8.out.res.free 0
          have f1 := I8.out.res.free 1
          have f2 := I8.out.res.free 2
          go_wp2_with fail
          have FN := hid (I8.out.fin H0.out (.int .i64 (c : Int)) (.int .i64 va) (.int .i64 (n6 : Int)))
          refine bodyPost_ret (results_cell_row rfl _ _ rc 26 _ (0, 0) _ rfl FN.out.1 Tryd.underlying26 rfl (by kernel_rfl)) rfl ?_
          rw [FT.out]
          exact ⟨rfl, FN.out.2⟩
    · have zai : (qa != 0) = true := by rw [bne_iff_ne]; exact za
      have N4 := hid (NX.out w5 s1 I4.out.rt)
      have e5 : T = (⟨(c : Int), ((Cd.nb B s1).1 : Nat), ((Cd.fld (decide (qb ≠ 0)) B (Cd.nb B s1).2).1 : Nat)⟩, (Cd.fld (decide (qb ≠ 0)) B (Cd.nb B s1).2).2) := by
        rw [E3.out, decide_eq_true za]
        rfl
      generalize Cd.nb B s1 = NB at *
      obtain ⟨n4, s5⟩ := NB
      simp only at *
      have E5 := hid e5
      clear e5 E3 m0 m1 m2
      go_upto_region 8 with (go_at_call 66; refine N4.out.mono ?_; rintro e w6 ⟨rfl, g1, g2⟩; have I7 := hid (I4.out.call g1 g2); obtain ⟨m0, m1, m2⟩ := bx3 I7.out.ins; have fz := I7.out.ins.free 1; clear g1 g2 N4 I4)
      have I5 := hid (I7.out.put H0.out 1 (.int .i64 (n4 : Int)) ⟨(c : Int), (n4 : Int), 0⟩ rfl)
      clear m0 m1 m2 fz I7
      generalize w6.setCell ⟨ri, 1, none⟩ (.int .i64 (n4 : Int)) = W5 at *
      generalize (n4 : Int) = va at *
      obtain ⟨j0, j1, j2⟩ := bx3 I5.out.ins
      have U5 : Hid (Below W5.heap.size W5 W5.drew) := Below.drew (Below.refl _ _)
      have I6 := hid (I5.out.on U5.out)
      obtain ⟨m0, m1, m2⟩ := bx3 I6.out.ins
      have mt := (I6.out.tab.cells c (by omega)).2.2.1
      rw [hrb] at mt
      clear j0 j1 j2 U5 I5
      go_region_held3 (fun W => W.cell? ⟨ri, 0, none⟩ = some (.int .i64 (c : Int)) ∧ W.cell? ⟨tb, c * 5 + 2, none⟩ = some (.int .i64 qb)) (with_reducible exact ⟨m0, mt⟩) (fail)
      all_goals
        clear mt
        generalize W5.drew = W6 at *
        by_cases zb : qb = 0
        · have FT : Hid (T = (⟨(c : Int), va, 0⟩, s5)) := by
            rw [Hid, E5.out, decide_eq_false (fun z => z zb)]
            rfl
          have zbi : (qb != 0) = false := by rw [zb]; rfl
          clear E5 NX
          obtain ⟨r0, r1, r2⟩ := bx3 I6.out.res
          have f0 := I6.out.res.free 0
          have f1 := I6.out.res.free 1
          have f2 := I6.out.res.free 2
          go_wp2_with fail
          have FN := hid (I6.out.fin H0.out (.int .i64 (c : Int)) (.int .i64 va) (.int .i64 0))
          refine bodyPost_ret (results_cell_row rfl _ _ rc 26 _ (0, 0) _ rfl FN.out.1 Tryd.underlying26 rfl (by kernel_rfl)) rfl ?_
          rw [FT.out]
          exact ⟨rfl, FN.out.2⟩
        · have zbi : (qb != 0) = true := by rw [bne_iff_ne]; exact zb
          have N6 := hid (NX.out W6 s5 I6.out.rt)
          have e5 : T = (⟨(c : Int), va, ((Cd.nb B s5).1 : Nat)⟩, (Cd.nb B s5).2) := by
            rw [E5.out, decide_eq_true zb]
            rfl
          generalize Cd.nb B s5 = NB at *
          obtain ⟨n6, s6⟩ := NB
          simp only at *
          have FT := hid e5
          clear e5 E5 NX m0 m1 m2
          go_upto_region 10 with (go_at_call 66; refine N6.out.mono ?_; rintro e w7 ⟨rfl, g1, g2⟩; have I7 := hid (I6.out.call g1 g2); obtain ⟨m0, m1, m2⟩ := bx3 I7.out.ins; have fz := I7.out.ins.free 2; clear g1 g2 N6 I6)
          have I8 := hid (I7.out.put H0.out 2 (.int .i64 (n6 : Int)) ⟨(c : Int), va, (n6 : Int)⟩ rfl)
          clear m0 m1 m2 fz I7
          generalize w7.setCell ⟨ri, 2, none⟩ (.int .i64 (n6 : Int)) = w8 at *
          obtain ⟨m0, m1, m2⟩ := bx3 I8.out.ins
          obtain ⟨r0, r1, r2⟩ := bx3 I8.out.res
          have f0 := I8.out.res.free 0
          have f1 := I8.out.res.free 1
          have f2 := I8.out.res.free 2
          go_wp2_with fail
          have FN := hid (I8.out.fin H0.out (.int .i64 (c : Int)) (.int .i64 va) (.int .i64 (n6 : Int)))
          refine bodyPost_ret (results_cell_row rfl _ _ rc 26 _ (0, 0) _ rfl FN.out.1 Tryd.underlying26 rfl (by kernel_rfl)) rfl ?_
          rw [FT.out]
          exact ⟨rfl, FN.out.2⟩
  · have hwi : decide (1 ≤ (c : Int) ∧ (c : Int) ≤ 33) = false := decide_eq_false (by omega)
    have FT := hid (IN.out hw)
    have IW1 := IW.out (c : Int) w3
    rw [hwi] at IW1
    have IW1 := hid IW1
    clear IY IN hwi IW
    go_upto_region 4 with (go_at_call 72; refine IW1.out.mono ?_; rintro e w4 ⟨rfl, rfl⟩; clear IW1)
    go_upto_region 5 with (go_at_call 41; refine (RF.out _ _ I3.out.rt).mono ?_; rintro e w5 ⟨rfl, g1, g2⟩; have I5 := hid (I3.out.call g1 g2); clear g1 g2 RF I3)
    obtain ⟨r0, r1, r2⟩ := bx3 I5.out.res
    have f0 := I5.out.res.free 0
    have f1 := I5.out.res.free 1
    have f2 := I5.out.res.free 2
    clear j0 j1 j2
    go_wp2_with fail
    have FN := hid (I5.out.fin H0.out (.int .i64 0) (.int .i64 0) (.int .i64 0))
    refine bodyPost_ret (results_cell_row rfl _ _ rc 26 _ (0, 0) _ rfl FN.out.1 Tryd.underlying26 rfl (by kernel_rfl)) rfl ?_
    rw [FT.out]
    exact ⟨rfl, FN.out.2⟩
end Go.Proofs.YtnobafmleellhaaDoor
