/-
  code: Decode.
-/
import Derived.Test.YtnobafmleellhaaDoorCdRe
import Derived.Test.YtnobafmleellhaaDoorCdRh
namespace Go.Proofs.YtnobafmleellhaaDoor
open Go Go.RowKit Go.Deep Go.Shelf

theorem results_row_tmp2 {P : Program} {fn : Func} {p u v : Tmp} {ty : TypeId} (h : fn.results = #[.cell p ty, .tmp u, .tmp v]) (tmps : Array Value) (w : World) (g : Nat) (t : TypeId) (cs : Array Value) (fr : Nat × Nat) (d : TypeDesc)
    (hp : tmps.getD p undef = .pointer (some ⟨g, 0, none⟩)) (hg : w.heap[g]? = some (.cells cs t fr))
    (hu : P.underlying ty = some d) (hd : (match d with | .struct _ | .array _ _ => true | _ => false) = true) (hi : (P.info? ty).map (·.size) = some cs.size) :
    (results fn tmps).run P w = .ok (.tuple #[.agg cs, tmps.getD u undef, tmps.getD v undef]) w := by
  have hp' : tmps[p]?.getD undef = .pointer (some ⟨g, 0, none⟩) := by simpa using hp
  simp [results, h, hp', asAddr, run_loadVar_row w g t ty cs fr d hg hu hd hi]
namespace Cd
theorem LI.of_ow {w : World} {base : Nat} {p : Option Addr} {n c : Nat} {D : List In} (h : Re.Ow en 26 3 base w (.slice p n c) D) : n = D.length ∧ LI w p D := by
  rcases h.shape with ⟨cap, e, rfl⟩ | ⟨g, cap, e, _⟩
  · cases e; exact ⟨rfl, fun i x hx => by simp at hx⟩
  · cases e
    refine ⟨rfl, fun i x hx => ⟨g, 0, rfl, ?_, ?_, ?_⟩⟩
    · rw [Nat.zero_add]; exact h.cell en_len hx 0 (by omega) _ rfl
    · rw [Nat.zero_add]; exact h.cell en_len hx 1 (by omega) _ rfl
    · rw [Nat.zero_add]; exact h.cell en_len hx 2 (by omega) _ rfl
theorem TR.of_ow {w : World} {base : Nat} {p : Option Addr} {n c : Nat} {D : List ByteArray} (h : Re.Ow es 9 1 base w (.slice p n c) D) : n = D.length ∧ TR w p D := by
  rcases h.shape with ⟨cap, e, rfl⟩ | ⟨g, cap, e, _⟩
  · cases e; exact ⟨rfl, .inl rfl⟩
  · cases e
    refine ⟨rfl, .inr ⟨g, 0, rfl, fun i x hx => ?_⟩⟩
    have := h.cell es_len hx 0 (by omega) _ rfl
    rw [Nat.zero_add]; simpa using this
theorem NI.of_ub {w : World} {g : Nat} {l : List Int} (h : UB w g l) : NI w (some ⟨g, 0, Option.none⟩) l := fun i x hx => by
  have hi := (List.getElem?_eq_some_iff.1 hx).1
  have := h.cell i hi
  rw [List.getD_eq_getElem?_getD, hx] at this
  exact ⟨g, 0, rfl, by rw [Nat.zero_add]; exact this⟩
theorem dbs_len (B : Ch.L8) (s : Rd) : (dbs B s).1.length ≤ B.length := by
  have e : (dbs B s).1 = wds ((take (8 * (nb B s).1) B (nb B s).2).1.length / 8) (take (8 * (nb B s).1) B (nb B s).2).1 := rfl
  have := take_le (8 * (nb B s).1) B (nb B s).2
  rw [e, wds, List.length_map, List.length_range]
  omega
theorem rep_len {α : Type} {r : Rdr α} (B : Ch.L8) : ∀ (n : Nat) (s : Rd), (rep r n B s).1.length ≤ n
  | 0, _ => Nat.le_refl _
  | n + 1, s => by
    cases hf : s.f.isSome with
    | true => rw [rep_stop hf]; exact Nat.zero_le _
    | false =>
      rw [rep_more hf]
      have := rep_len (r := r) B n (r B s).2
      simp only [List.length_cons]
      omega
theorem txs_len (B : Ch.L8) (s : Rd) : (txs B s).1.length ≤ 2147483647 := Nat.le_trans (rep_len B (nb B s).1 (nb B s).2) (nb_le B s)
/-- The reader behind the last test. -/
def fin (B : Ch.L8) : Rd := if (dcd0 B ⟨0, none⟩).2.a < B.length then rf (dcd0 B ⟨0, none⟩).2 (dcd0 B ⟨0, none⟩).2.a else (dcd0 B ⟨0, none⟩).2
def dl (B : Ch.L8) : List In := (dcd0 B ⟨0, none⟩).1.2.2.take 131073
def dn (B : Ch.L8) : List Int := (dcd0 B ⟨0, none⟩).1.1
def dt (B : Ch.L8) : List ByteArray := (dcd0 B ⟨0, none⟩).1.2.1
def nilc : Value := .agg #[.slice none 0 0, .slice none 0 0, .slice none 0 0]
/-- What Decode tells. -/
def DE (w : World) (B : Ch.L8) (e : Ending) (w' : World) : Prop :=
  ∃ v at' err, e = .returned (.tuple #[v, .int .i64 ((at' : Nat) : Int), .int .i64 err]) ∧ Below w.heap.size w w' ∧
    ((∃ p, (fin B).f = some p ∧ v = nilc ∧ at' = p ∧ err = 261 ∧ p ≤ B.length) ∨
     ((fin B).f = none ∧ (chk (dl B) (dn B).length (dt B).length).2.2 = 260 ∧ v = nilc ∧ at' = (chk (dl B) (dn B).length (dt B).length).2.1 ∧ err = 260) ∨
     ((fin B).f = none ∧ (chk (dl B) (dn B).length (dt B).length).2.2 = 0 ∧ at' = 0 ∧ err = 0 ∧ ∃ p q r c1 c2 c3, v = .agg #[.slice p (dl B).length c1, .slice q (dn B).length c2, .slice r (dt B).length c3] ∧ LI w' p (dl B) ∧ NI w' q (dn B) ∧ TR w' r (dt B)))
theorem dcd_seq (B : Ch.L8) (s : Rd) : dcd0 B s = (((dbs B (mark B s).2).1, (txs B (dbs B (mark B s).2).2).1, (ins B (txs B (dbs B (mark B s).2).2).2).1), (ins B (txs B (dbs B (mark B s).2).2).2).2) := rfl
/-- While a code is read: its box, the result's box, the reader. -/
structure IC (w1 W : World) (rb : Nat) (q : Option Addr) (B : Ch.L8) (cap : Nat) (s : Rd) (rc bc : Nat) (v0 v1 v2 : Value) : Prop where
  rt : RT W rb q B cap s
  kp : Re.Kp (fun b => b = rb) w1 W
  res : Bx W rc 31 #[.slice none 0 0, .slice none 0 0, .slice none 0 0]
  box : Bx W bc 31 #[v0, v1, v2]
  n1 : rc ≠ rb
  n2 : bc ≠ rb
  n3 : rc ≠ bc
  n4 : w1.heap.size ≤ bc
  n5 : bc < W.heap.size
theorem IC.call {w1 W W' : World} {rb : Nat} {q : Option Addr} {B : Ch.L8} {cap : Nat} {s s' : Rd} {rc bc : Nat} {v0 v1 v2 : Value} (h : IC w1 W rb q B cap s rc bc v0 v1 v2) (hr : RT W' rb q B cap s') (k : Re.Kp (fun b => b = rb) W W') : IC w1 W' rb q B cap s' rc bc v0 v1 v2 :=
  ⟨hr, h.kp.trans k, h.res.kp k h.n1, h.box.kp k h.n2, h.n1, h.n2, h.n3, h.n4, Nat.lt_of_lt_of_le h.n5 k.size⟩
theorem IC.put {w1 W : World} {rb : Nat} {q : Option Addr} {B : Ch.L8} {cap : Nat} {s s0 : Rd} {rc bc : Nat} {v0 v1 v2 u0 u1 u2 : Value} (h : IC w1 W rb q B cap s rc bc v0 v1 v2) (h0 : RT w1 rb q B cap s0) (o : Nat) (v : Value) (hy : (#[v0, v1, v2] : Array Value).setIfInBounds o v = #[u0, u1, u2]) : IC w1 (W.setCell ⟨bc, o, none⟩ v) rb q B cap s rc bc u0 u1 u2 := by
  have K := kp_new h.kp h.n4 o v
  refine ⟨h0.kp K (h.rt.bx.far h.n2) h.rt.le h.rt.fl, K, h.res.far (fun e => h.n3 e.symm), ?_, h.n1, h.n2, h.n3, h.n4, by simpa [World.setCell] using h.n5⟩
  have := h.box.set o v
  rwa [hy] at this
theorem IC.zero {w1 W : World} {rb : Nat} {q : Option Addr} {B : Ch.L8} {cap : Nat} {s : Rd} {rc bc : Nat} {v0 v1 v2 : Value} (h : IC w1 W rb q B cap s rc bc v0 v1 v2) :
    Bx (((W.drew.setCell ⟨rc, 0, none⟩ (.slice none 0 0)).setCell ⟨rc, 1, none⟩ (.slice none 0 0)).setCell ⟨rc, 2, none⟩ (.slice none 0 0)) rc 31 #[.slice none 0 0, .slice none 0 0, .slice none 0 0] ∧
    Bx (((W.drew.setCell ⟨rc, 0, none⟩ (.slice none 0 0)).setCell ⟨rc, 1, none⟩ (.slice none 0 0)).setCell ⟨rc, 2, none⟩ (.slice none 0 0)) rb 85 #[.slice q B.length cap, .int .i64 (s.a : Int), .bool s.f.isSome, .int .i64 ((s.f.getD 0 : Nat) : Int)] ∧
    (((W.drew.setCell ⟨rc, 0, none⟩ (.slice none 0 0)).setCell ⟨rc, 1, none⟩ (.slice none 0 0)).setCell ⟨rc, 2, none⟩ (.slice none 0 0)).cell? ⟨rb, 3, none⟩ = some (.int .i64 ((s.f.getD 0 : Nat) : Int)) := by
  have x1 := ((((h.rt.on (Below.drew (Below.refl _ _))).bx.far (c := rc) (o := 0) (v := .slice none 0 0) h.n1).far (c := rc) (o := 1) (v := .slice none 0 0) h.n1).far (c := rc) (o := 2) (v := .slice none 0 0) h.n1)
  exact ⟨(h.res.on (Below.drew (Below.refl _ _))).put3 _ _ _, x1, (bx4 x1).2.2.2⟩
end Cd
set_option maxRecDepth 100000 in
set_option maxHeartbeats 8000000 in
theorem cdec_any (q : Option Addr) (B : Ch.L8) (cap : Nat) (w : World) (hq : Cd.BR w q B) (hb : B = [] ∨ ∀ b off, q = some ⟨b, off, none⟩ → b < w.heap.size) (hl : B.length ≤ 1099511627776) (hc : B.length ≤ cap) :
    Calls Tryd.prog 14 #[.slice q B.length cap] w fun e w' => Cd.DE w B e w' := by
  have MX : Hid (∀ W rb, Cd.RT W rb q B cap ⟨0, none⟩ → _) := fun W rb hs => rmark_any hs
  have DX : Hid (∀ W rb s, Cd.RT W rb q B cap s → _) := fun W rb s hs => rdoubles_any hs
  have TX : Hid (∀ W rb s, Cd.RT W rb q B cap s → _) := fun W rb s hs => rtexts_any hs
  have IX : Hid (∀ W rb s, Cd.RT W rb q B cap s → _) := fun W rb s hs => rinstrs_any hs
  have RF : Hid (∀ W rb s p, Cd.RT W rb q B cap s → (s.f.isSome = false → p ≤ B.length) → _) := fun W rb s p hs hp => rrefuse_any hs p hp
  obtain ⟨y1, y2⟩ := bx_two w #[.slice none 0 0, .slice none 0 0, .slice none 0 0] #[.slice q B.length cap, .int .i64 0, .bool false, .int .i64 0] 31 85
  have B1 := hid (cd_b2 w (.cells #[.slice none 0 0, .slice none 0 0, .slice none 0 0] 31) (.cells #[.slice q B.length cap, .int .i64 0, .bool false, .int .i64 0] 85))
  have R1 := hid y1
  have H1 : Hid (Cd.RT _ (w.heap.size + 1) q B cap ⟨0, none⟩) := ⟨y2, hq.on B1.out, hb.imp id (fun hb b off e => by have := hb b off e; omega), Nat.zero_le _, hl, hc, Nat.zero_le _, trivial⟩
  have sz := y2.lt
  clear y1 y2 hq hb
  obtain ⟨s1, hs1⟩ : ∃ s1, (Cd.mark B ⟨0, none⟩).2 = s1 := ⟨_, rfl⟩
  obtain ⟨⟨nums, s2⟩, hDD⟩ : ∃ DD, Cd.dbs B s1 = DD := ⟨_, rfl⟩
  obtain ⟨⟨strs, s3⟩, hTT⟩ : ∃ TT, Cd.txs B s2 = TT := ⟨_, rfl⟩
  have hNs : nums.length ≤ 9223372036854775807 ∧ strs.length ≤ 9223372036854775807 := by
    have d1 := Cd.dbs_len B s1
    have d2 := Cd.txs_len B s2
    rw [hDD] at d1
    rw [hTT] at d2
    simp only at d1 d2
    omega
  obtain ⟨⟨ops, s4⟩, hII⟩ : ∃ II, Cd.ins B s3 = II := ⟨_, rfl⟩
  have e0 : Cd.dcd0 B ⟨0, none⟩ = ((nums, strs, ops), s4) := by rw [Cd.dcd_seq, hs1, hDD, hTT, hII]
  have eF : Cd.fin B = if s4.a < B.length then Cd.rf s4 s4.a else s4 := by unfold Cd.fin; rw [e0]
  have eL : Cd.dl B = ops.take 131073 := by unfold Cd.dl; rw [e0]
  have eN : Cd.dn B = nums := by unfold Cd.dn; rw [e0]
  have eT : Cd.dt B = strs := by unfold Cd.dt; rw [e0]
  have MX1 : Hid (∀ W rb, Cd.RT W rb q B cap ⟨0, none⟩ → Calls Tryd.prog 37 #[.pointer (some ⟨rb, 0, none⟩)] W fun e w' => e = .returned (.tuple #[]) ∧ Cd.RT w' rb q B cap s1 ∧ Re.Kp (fun b => b = rb) W w') := fun W rb h => by rw [← hs1]; exact MX.out W rb h
  have DX1 : Hid (∀ W rb, Cd.RT W rb q B cap s1 → _) := fun W rb h => DX.out W rb s1 h
  have TX1 : Hid (∀ W rb, Cd.RT W rb q B cap s2 → _) := fun W rb h => TX.out W rb s2 h
  have IX1 : Hid (∀ W rb, Cd.RT W rb q B cap s3 → _) := fun W rb h => IX.out W rb s3 h
  rw [hDD] at DX1
  rw [hTT] at TX1
  rw [hII] at IX1
  have DEF : Hid (∀ e w', (∃ v at' err, e = .returned (.tuple #[v, .int .i64 ((at' : Nat) : Int), .int .i64 err]) ∧ Below w.heap.size w w' ∧
    ((∃ p, (if s4.a < B.length then Cd.rf s4 s4.a else s4).f = some p ∧ v = Cd.nilc ∧ at' = p ∧ err = 261 ∧ p ≤ B.length) ∨
     ((if s4.a < B.length then Cd.rf s4 s4.a else s4).f = none ∧ (Cd.chk (ops.take 131073) nums.length strs.length).2.2 = 260 ∧ v = Cd.nilc ∧ at' = (Cd.chk (ops.take 131073) nums.length strs.length).2.1 ∧ err = 260) ∨
     ((if s4.a < B.length then Cd.rf s4 s4.a else s4).f = none ∧ (Cd.chk (ops.take 131073) nums.length strs.length).2.2 = 0 ∧ at' = 0 ∧ err = 0 ∧ ∃ p q r c1 c2 c3, v = .agg #[.slice p (ops.take 131073).length c1, .slice q nums.length c2, .slice r strs.length c3] ∧ Cd.LI w' p (ops.take 131073) ∧ Cd.NI w' q nums ∧ TR w' r strs))) → Cd.DE w B e w') := fun e w' hh => by
    unfold Cd.DE
    rw [eF, eL, eN, eT]
    exact hh
  clear MX DX TX IX hs1 hDD hTT hII e0 eF eL eN eT
  generalize hol : ops.take 131073 = ol at *
  obtain ⟨rc, hrc⟩ : ∃ rc, w.heap.size = rc := ⟨_, rfl⟩
  obtain ⟨rb, hrb⟩ : ∃ rb, rc + 1 = rb := ⟨_, rfl⟩
  go_enter Tryd.func14, Tryd.ntmps14
  go_upto_region 2 with fail
  generalize (w.alloc (.cells #[.slice none 0 0, .slice none 0 0, .slice none 0 0] 31)).alloc (.cells #[.slice q B.length cap, .int .i64 0, .bool false, .int .i64 0] 85) = w1 at *
  rw [hrc] at R1 H1 sz
  rw [hrb] at H1 sz
  go_upto_region 3 with (go_at_call 37; refine (MX1.out _ _ H1.out).mono ?_; rintro e w2 ⟨rfl, g1, g2⟩; have G2 := hid (And.intro g1 g2); have z2 := g2.size; clear g1 g2 MX1)
  go_upto_region 4 with fail
  have I3 : Hid (Cd.IC w1 (w2.alloc (.cells #[.slice none 0 0, .slice none 0 0, .slice none 0 0] 31)) rb q B cap s1 rc w2.heap.size (.slice none 0 0) (.slice none 0 0) (.slice none 0 0)) := by
    have al := alloc_b w2 (.cells #[.slice none 0 0, .slice none 0 0, .slice none 0 0] 31)
    have n1 : rc ≠ rb := by omega
    have bx := Bx.new w2 31 #[.slice none 0 0, .slice none 0 0, .slice none 0 0]
    exact ⟨G2.out.1.on al, G2.out.2.trans (Re.Kp.of al), (R1.out.kp G2.out.2 n1).on al, bx, n1, by omega, by omega, z2, bx.lt⟩
  clear R1 G2
  generalize w2.alloc (.cells #[.slice none 0 0, .slice none 0 0, .slice none 0 0] 31) = w3 at *
  generalize w2.heap.size = bc at *
  go_upto_region 5 with (go_at_call 38; refine (DX1.out _ _ I3.out.rt).mono ?_; rintro e w4 ⟨g, rfl, g1, g2, g3, g4⟩; have I4 := hid (I3.out.call g3 g4); have U4 := hid g2; have gz := g1; have bz := I3.out.n5; obtain ⟨m0, m1, m2⟩ := bx3 I4.out.box; have fz := I4.out.box.free 1; clear g1 g2 g3 g4 DX1 I3)
  have gb : g ≠ bc := by omega
  have gr : g ≠ rb := by have := I4.out.n4; omega
  have I5 := hid (I4.out.put H1.out 1 (.slice (some ⟨g, 0, none⟩) nums.length nums.length) rfl)
  have U5 : Hid (Cd.UB (w4.setCell ⟨bc, 1, none⟩ (.slice (some ⟨g, 0, none⟩) nums.length nums.length)) g nums) := Bx.far (show Bx _ _ _ _ from U4.out) gb.symm
  clear m0 m1 m2 fz I4 U4
  generalize w4.setCell ⟨bc, 1, none⟩ (.slice (some ⟨g, 0, none⟩) nums.length nums.length) = w5 at *
  go_upto_region 6 with (go_at_call 39; refine (TX1.out _ _ I5.out.rt).mono ?_; rintro e w6 ⟨mv, rfl, g2, g3, g4⟩; obtain ⟨p6, c6, rfl⟩ := Cd.Ow_len g2; have I6 := hid (I5.out.call g3 g4); have U6 := hid (Bx.kp (show Bx _ _ _ _ from U5.out) g4 gr); have O6 := hid g2; have b6 := I5.out.n5; have k6 := I5.out.kp.size; obtain ⟨m0, m1, m2⟩ := bx3 I6.out.box; have fz := I6.out.box.free 2; clear g2 g3 g4 TX1 I5 U5)
  have I7 := hid (I6.out.put H1.out 2 (.slice p6 strs.length c6) rfl)
  have U7 : Hid (Cd.UB (w6.setCell ⟨bc, 2, none⟩ (.slice p6 strs.length c6)) g nums) := Bx.far (show Bx _ _ _ _ from U6.out) gb.symm
  have O7 := hid (O6.out.kp (Re.Kp.set (S := fun b => b = bc) (Re.Kp.refl _ w6) rfl 2 (.slice p6 strs.length c6)) (fun b e => by rw [e]; exact b6))
  clear m0 m1 m2 fz I6 U6 O6
  generalize w6.setCell ⟨bc, 2, none⟩ (.slice p6 strs.length c6) = w7 at *
  have rb5 : rb < w5.heap.size := by omega
  go_upto_region 7 with (go_at_call 40; refine (IX1.out _ _ I7.out.rt).mono ?_; rintro e w8 ⟨mv, base, rfl, g1, g2, g3, g4⟩; obtain ⟨p8, c8, rfl⟩ := Cd.Ow_len g2; have I8 := hid (I7.out.call g3 g4); have U8 := hid (Bx.kp (show Bx _ _ _ _ from U7.out) g4 gr); have O8 := hid (O7.out.kp g4 (fun b e => by rw [e]; exact rb5)); have P8 := hid g2; have b8 := Nat.lt_of_lt_of_le I7.out.n5 g1; obtain ⟨m0, m1, m2⟩ := bx3 I8.out.box; have fz := I8.out.box.free 0; clear g1 g2 g3 g4 IX1 I7 U7 O7)
  have I9 := hid (I8.out.put H1.out 0 (.slice p8 ol.length c8) rfl)
  have U9 : Hid (Cd.UB (w8.setCell ⟨bc, 0, none⟩ (.slice p8 ol.length c8)) g nums) := Bx.far (show Bx _ _ _ _ from U8.out) gb.symm
  have KS := Re.Kp.set (S := fun b => b = bc) (Re.Kp.refl _ w8) rfl 0 (.slice p8 ol.length c8)
  have O9 := hid (O8.out.kp KS (fun b e => by rw [e]; exact b6))
  have P9 := hid (P8.out.kp KS (fun b e => by rw [e]; exact b8))
  clear m0 m1 m2 fz I8 U8 O8 P8 KS
  generalize w8.setCell ⟨bc, 0, none⟩ (.slice p8 ol.length c8) = w9 at *
  have LB := I9.out.rt.le
  have LW : Hid (Below w.heap.size w w9) := by
    exact B1.out.trans (I9.out.kp.below (by omega) (fun b e => by omega))
  have ln : Hid ((B.length : Int) ≤ 1099511627776) := by rw [Hid]; omega
  by_cases hlt : s4.a < B.length
  · rw [if_pos hlt] at DEF
    have hli : (s4.a : Int) < (B.length : Int) := by omega
    have RF9 := hid (RF.out w9 rb s4 s4.a I9.out.rt (fun _ => Nat.le_of_lt hlt))
    obtain ⟨p, hp'⟩ : ∃ p, (Cd.rf s4 s4.a).f = some p := Option.isSome_iff_exists.1 (Cd.rf_some s4 s4.a)
    have hp : (Cd.rf s4 s4.a).f.getD 0 = p := by rw [hp']; rfl
    have hps : (Cd.rf s4 s4.a).f.isSome = true := by rw [hp']; rfl
    obtain ⟨k0, k1, k2, k3⟩ := Cd.bx4 I9.out.rt.bx
    go_upto_region 9 with (go_at_call 41; refine RF9.out.mono ?_; rintro e wa ⟨rfl, g1, g2⟩; have IA := hid (I9.out.call g1 g2); have LA : Hid (Below w.heap.size w wa) := B1.out.trans ((I9.out.kp.trans g2).below (by omega) (fun b e => by omega)); clear g1 g2 RF9 k0 k1 k2 k3; obtain ⟨k0, k1, k2, k3⟩ := Cd.bx4 IA.out.rt.bx; rw [hps] at k2)
    obtain ⟨n0, n1, n2, n3⟩ := Cd.bx4 IA.out.rt.bx
    rw [hp] at n3
    obtain ⟨r0, r1, r2⟩ := bx3 IA.out.res
    have f0 := IA.out.res.free 0
    have f1 := IA.out.res.free 1
    have f2 := IA.out.res.free 2
    have FZ := hid (Cd.IC.zero IA.out)
    rw [hp] at FZ
    go_upto_region 10 with fail
    refine wp_region_held_drew (S := (fun X => X.cell? ⟨rb, 3, none⟩ = some (.int .i64 (p : Int)))) (by kernel_rfl) n3 (fun hHeld => ?_)
    refine wpAnyH_take (i := 0) (oi := { dst := some 29, op := Go.Op.build 31 #[], type := 31, pos := "code.go:78", after := #[], guard := none }) (v := ?_) rfl (by kernel_rfl) (by kernel_rfl) (by kernel_rfl) (fun _ _ _ h => h) (Or.inl ⟨by rfl, ?_⟩) (by assumption) ?_
    rotate_left
    · (intro w hSw; (try dsimp only at hSw); go_simp; try with_reducible rfl)
    (try simp only [Act.put]); (try simp only [List.setIfInBounds_toArray]); (try simp only [List.set_cons_succ]); (try simp only [List.set_cons_zero])
    refine wpAnyH_take (i := 1) (oi := { dst := some 30, op := Go.Op.fieldAddr 85 (Go.Operand.tmp 5) 3, type := 0, pos := "code.go:78", after := #[{ on := 3, ground := Go.Ground.gcOnly Go.Departure.lateStores }], guard := none }) (v := ?_) rfl (by kernel_rfl) (by kernel_rfl) (by kernel_rfl) (fun _ _ _ h => h) (Or.inl ⟨by rfl, ?_⟩) (by assumption) ?_
    rotate_left
    · (intro w hSw; (try dsimp only at hSw); go_simp; try with_reducible rfl)
    (try simp only [Act.put]); (try simp only [List.setIfInBounds_toArray]); (try simp only [List.set_cons_succ]); (try simp only [List.set_cons_zero])
    refine wpAnyH_take (i := 2) (oi := { dst := some 31, op := Go.Op.load 3 (Go.Operand.tmp 30), type := 3, pos := "code.go:78", after := #[{ on := 1, ground := Go.Ground.data }, { on := 3, ground := Go.Ground.gcOnly Go.Departure.lateStores }], guard := none }) (v := ?_) rfl (by kernel_rfl) (by kernel_rfl) (by kernel_rfl) (fun _ _ _ h => h) (Or.inl ⟨by rfl, ?_⟩) (by assumption) ?_
    rotate_left
    · (intro w hSw; (try dsimp only at hSw); go_simp; try with_reducible rfl)
    (try simp only [Act.put]); (try simp only [List.setIfInBounds_toArray]); (try simp only [List.set_cons_succ]); (try simp only [List.set_cons_zero])
    refine wpAnyH_ready (rs := [3]) (by kernel_rfl) (by simp) ?_
    refine AllReadyH.cons (o := { dst := none, op := Go.Op.store 31 (Go.Operand.tmp 2) (Go.Operand.tmp 29), type := 0, pos := "code.go:78", after := #[{ on := 0, ground := Go.Ground.data }, { on := 0, ground := Go.Ground.phase }, { on := 1, ground := Go.Ground.textOnly Go.Departure.lateStores }, { on := 2, ground := Go.Ground.textOnly Go.Departure.lateStores }], guard := none }) rfl (fun K hK => ?_) (AllReadyH.nil)
    · rw [if_pos (by rfl)]
      go_simp
      (try simp only [Act.put]); (try simp only [List.setIfInBounds_toArray]); (try simp only [List.set_cons_succ]); (try simp only [List.set_cons_zero])
      refine hK.out _ _ FZ.out.2.2 (fun hHeld => ?_)
      clear hK K
      refine wpAnyH_take (i := 4) (oi := { dst := some 3, op := Go.Op.assign (Go.Operand.tmp 31), type := 3, pos := "code.go:78", after := #[{ on := 2, ground := Go.Ground.data }, { on := 3, ground := Go.Ground.chain }, { on := 0, ground := Go.Ground.phase }, { on := 1, ground := Go.Ground.phase }, { on := 2, ground := Go.Ground.phase }, { on := 3, ground := Go.Ground.phase }], guard := none }) (v := ?_) rfl (by kernel_rfl) (by kernel_rfl) (by kernel_rfl) (fun _ _ _ h => h) (Or.inl ⟨by rfl, ?_⟩) (by assumption) ?_
      rotate_left
      · (intro w hSw; (try dsimp only at hSw); go_simp; try with_reducible rfl)
      (try simp only [Act.put]); (try simp only [List.setIfInBounds_toArray]); (try simp only [List.set_cons_succ]); (try simp only [List.set_cons_zero])
      refine wpAnyH_take (i := 5) (oi := { dst := some 4, op := Go.Op.assign (Go.Operand.const (Go.Value.int Go.IntKind.i64 261)), type := 43, pos := "code.go:78", after := #[{ on := 4, ground := Go.Ground.chain }, { on := 0, ground := Go.Ground.phase }, { on := 1, ground := Go.Ground.phase }, { on := 2, ground := Go.Ground.phase }, { on := 3, ground := Go.Ground.phase }, { on := 4, ground := Go.Ground.phase }], guard := none }) (v := ?_) rfl (by kernel_rfl) (by kernel_rfl) (by kernel_rfl) (fun _ _ _ h => h) (Or.inl ⟨by rfl, ?_⟩) (by assumption) ?_
      rotate_left
      · (intro w hSw; (try dsimp only at hSw); go_simp; try with_reducible rfl)
      (try simp only [Act.put]); (try simp only [List.setIfInBounds_toArray]); (try simp only [List.set_cons_succ]); (try simp only [List.set_cons_zero])
      refine wpAnyH_done (by kernel_rfl) ?_ _
      go_wp2_with fail
      refine bodyPost_ret (results_row_tmp2 rfl _ _ rc 31 _ (0, 0) _ rfl FZ.out.1 Tryd.underlying31 rfl (by kernel_rfl)) rfl ?_
      exact DEF.out _ _ ⟨Cd.nilc, p, 261, rfl, bset3_below (Below.drew LA.out) (by omega), .inl ⟨p, hp', rfl, rfl, rfl, by rw [← hp]; exact IA.out.rt.fl⟩⟩
  · rw [if_neg hlt] at DEF
    have hli : ¬ (s4.a : Int) < (B.length : Int) := by omega
    obtain ⟨k0, k1, k2, k3⟩ := Cd.bx4 I9.out.rt.bx
    cases hp' : s4.f with
    | some p =>
      have hp : s4.f.getD 0 = p := by rw [hp']; rfl
      have hps : s4.f.isSome = true := by rw [hp']; rfl
      rw [hps] at k2
      obtain ⟨n0, n1, n2, n3⟩ := Cd.bx4 I9.out.rt.bx
      rw [hp] at n3
      obtain ⟨r0, r1, r2⟩ := bx3 I9.out.res
      have f0 := I9.out.res.free 0
      have f1 := I9.out.res.free 1
      have f2 := I9.out.res.free 2
      have FZ := hid (Cd.IC.zero I9.out)
      rw [hp] at FZ
      go_upto_region 10 with fail
      refine wp_region_held_drew (S := (fun X => X.cell? ⟨rb, 3, none⟩ = some (.int .i64 (p : Int)))) (by kernel_rfl) n3 (fun hHeld => ?_)
      refine wpAnyH_take (i := 0) (oi := { dst := some 29, op := Go.Op.build 31 #[], type := 31, pos := "code.go:78", after := #[], guard := none }) (v := ?_) rfl (by kernel_rfl) (by kernel_rfl) (by kernel_rfl) (fun _ _ _ h => h) (Or.inl ⟨by rfl, ?_⟩) (by assumption) ?_
      rotate_left
      · (intro w hSw; (try dsimp only at hSw); go_simp; try with_reducible rfl)
      (try simp only [Act.put]); (try simp only [List.setIfInBounds_toArray]); (try simp only [List.set_cons_succ]); (try simp only [List.set_cons_zero])
      refine wpAnyH_take (i := 1) (oi := { dst := some 30, op := Go.Op.fieldAddr 85 (Go.Operand.tmp 5) 3, type := 0, pos := "code.go:78", after := #[{ on := 3, ground := Go.Ground.gcOnly Go.Departure.lateStores }], guard := none }) (v := ?_) rfl (by kernel_rfl) (by kernel_rfl) (by kernel_rfl) (fun _ _ _ h => h) (Or.inl ⟨by rfl, ?_⟩) (by assumption) ?_
      rotate_left
      · (intro w hSw; (try dsimp only at hSw); go_simp; try with_reducible rfl)
      (try simp only [Act.put]); (try simp only [List.setIfInBounds_toArray]); (try simp only [List.set_cons_succ]); (try simp only [List.set_cons_zero])
      refine wpAnyH_take (i := 2) (oi := { dst := some 31, op := Go.Op.load 3 (Go.Operand.tmp 30), type := 3, pos := "code.go:78", after := #[{ on := 1, ground := Go.Ground.data }, { on := 3, ground := Go.Ground.gcOnly Go.Departure.lateStores }], guard := none }) (v := ?_) rfl (by kernel_rfl) (by kernel_rfl) (by kernel_rfl) (fun _ _ _ h => h) (Or.inl ⟨by rfl, ?_⟩) (by assumption) ?_
      rotate_left
      · (intro w hSw; (try dsimp only at hSw); go_simp; try with_reducible rfl)
      (try simp only [Act.put]); (try simp only [List.setIfInBounds_toArray]); (try simp only [List.set_cons_succ]); (try simp only [List.set_cons_zero])
      refine wpAnyH_ready (rs := [3]) (by kernel_rfl) (by simp) ?_
      refine AllReadyH.cons (o := { dst := none, op := Go.Op.store 31 (Go.Operand.tmp 2) (Go.Operand.tmp 29), type := 0, pos := "code.go:78", after := #[{ on := 0, ground := Go.Ground.data }, { on := 0, ground := Go.Ground.phase }, { on := 1, ground := Go.Ground.textOnly Go.Departure.lateStores }, { on := 2, ground := Go.Ground.textOnly Go.Departure.lateStores }], guard := none }) rfl (fun K hK => ?_) (AllReadyH.nil)
      · rw [if_pos (by rfl)]
        go_simp
        (try simp only [Act.put]); (try simp only [List.setIfInBounds_toArray]); (try simp only [List.set_cons_succ]); (try simp only [List.set_cons_zero])
        refine hK.out _ _ FZ.out.2.2 (fun hHeld => ?_)
        clear hK K
        refine wpAnyH_take (i := 4) (oi := { dst := some 3, op := Go.Op.assign (Go.Operand.tmp 31), type := 3, pos := "code.go:78", after := #[{ on := 2, ground := Go.Ground.data }, { on := 3, ground := Go.Ground.chain }, { on := 0, ground := Go.Ground.phase }, { on := 1, ground := Go.Ground.phase }, { on := 2, ground := Go.Ground.phase }, { on := 3, ground := Go.Ground.phase }], guard := none }) (v := ?_) rfl (by kernel_rfl) (by kernel_rfl) (by kernel_rfl) (fun _ _ _ h => h) (Or.inl ⟨by rfl, ?_⟩) (by assumption) ?_
        rotate_left
        · (intro w hSw; (try dsimp only at hSw); go_simp; try with_reducible rfl)
        (try simp only [Act.put]); (try simp only [List.setIfInBounds_toArray]); (try simp only [List.set_cons_succ]); (try simp only [List.set_cons_zero])
        refine wpAnyH_take (i := 5) (oi := { dst := some 4, op := Go.Op.assign (Go.Operand.const (Go.Value.int Go.IntKind.i64 261)), type := 43, pos := "code.go:78", after := #[{ on := 4, ground := Go.Ground.chain }, { on := 0, ground := Go.Ground.phase }, { on := 1, ground := Go.Ground.phase }, { on := 2, ground := Go.Ground.phase }, { on := 3, ground := Go.Ground.phase }, { on := 4, ground := Go.Ground.phase }], guard := none }) (v := ?_) rfl (by kernel_rfl) (by kernel_rfl) (by kernel_rfl) (fun _ _ _ h => h) (Or.inl ⟨by rfl, ?_⟩) (by assumption) ?_
        rotate_left
        · (intro w hSw; (try dsimp only at hSw); go_simp; try with_reducible rfl)
        (try simp only [Act.put]); (try simp only [List.setIfInBounds_toArray]); (try simp only [List.set_cons_succ]); (try simp only [List.set_cons_zero])
        refine wpAnyH_done (by kernel_rfl) ?_ _
        go_wp2_with fail
        refine bodyPost_ret (results_row_tmp2 rfl _ _ rc 31 _ (0, 0) _ rfl FZ.out.1 Tryd.underlying31 rfl (by kernel_rfl)) rfl ?_
        exact DEF.out _ _ ⟨Cd.nilc, p, 261, rfl, bset3_below (Below.drew LW.out) (by omega), .inl ⟨p, hp', rfl, rfl, rfl, by rw [← hp]; exact I9.out.rt.fl⟩⟩
    | none =>
      have hps : s4.f.isSome = false := by rw [hp']; rfl
      rw [hps] at k2
      obtain ⟨m0, m1, m2⟩ := bx3 I9.out.box
      have lol : ol.length ≤ 131073 := by rw [← hol, List.length_take]; omega
      have lnu : nums.length ≤ 9223372036854775807 := hNs.1
      have lst : strs.length ≤ 9223372036854775807 := hNs.2
      have CH := hid (cchk_any ol p8 (some ⟨g, 0, none⟩) p6 c8 nums.length nums.length strs.length c6 w9 (Cd.LI.of_ow P9.out).2 (by omega) lnu lst)
      have CE := Cd.chk_err ol nums.length strs.length
      generalize hC : Cd.chk ol nums.length strs.length = C at *
      obtain ⟨C1, C2, C3⟩ := C
      simp only at *
      clear lol lnu lst hol
      go_upto_region 12 with (go_at_call 17; refine CH.out.mono ?_; rintro e wb ⟨rfl, hB⟩; have Rb := hid (I9.out.res.on hB); have Xb := hid (I9.out.box.on hB); have Lb := hid (LW.out.trans (hB.mono LW.out.size)); have Ob := hid (O9.out.below hB); have Pb := hid (P9.out.below hB); have Ub := hid (U9.out.on hB); clear hB CH k0 k1 k2 k3 m0 m1 m2 I9 O9 P9 U9 LW)
      obtain ⟨r0, r1, r2⟩ := bx3 Rb.out
      have f0 := Rb.out.free 0
      have f1 := Rb.out.free 1
      have f2 := Rb.out.free 2
      rcases CE with ⟨h3, _⟩ | h3
      · have h3' : C3 = 0 := h3
        subst h3'
        obtain ⟨m0, m1, m2⟩ := bx3 Xb.out
        go_wp2_with fail
        have KR := Re.Kp.set (S := fun b => b = rc) (Re.Kp.set (S := fun b => b = rc) (Re.Kp.set (S := fun b => b = rc) (Re.Kp.refl _ wb) rfl 0 (.slice p8 ol.length c8)) rfl 1 (.slice (some ⟨g, 0, none⟩) nums.length nums.length)) rfl 2 (.slice p6 strs.length c6)
        have FZ := Rb.out.put3 (.slice p8 ol.length c8) (.slice (some ⟨g, 0, none⟩) nums.length nums.length) (.slice p6 strs.length c6)
        refine bodyPost_ret (results_row_tmp2 rfl _ _ rc 31 _ (0, 0) _ rfl FZ Tryd.underlying31 rfl (by kernel_rfl)) rfl ?_
        exact DEF.out _ _ ⟨_, 0, 0, rfl, bset3_below Lb.out (by omega), .inr (.inr ⟨hp', by first | rfl | trivial, rfl, rfl, p8, some ⟨g, 0, none⟩, p6, c8, nums.length, c6, rfl, (Cd.LI.of_ow (Pb.out.kp KR (fun b e => by rw [e]; omega))).2, Cd.NI.of_ub (Bx.kp (show Bx _ _ _ _ from Ub.out) KR (by omega)), (Cd.TR.of_ow (Ob.out.kp KR (fun b e => by rw [e]; omega))).2⟩)⟩
      · have h3' : C3 = 260 := h3
        subst h3'
        go_wp2_with fail
        have FZ := Rb.out.put3 (.slice none 0 0) (.slice none 0 0) (.slice none 0 0)
        refine bodyPost_ret (results_row_tmp2 rfl _ _ rc 31 _ (0, 0) _ rfl FZ Tryd.underlying31 rfl (by kernel_rfl)) rfl ?_
        exact DEF.out _ _ ⟨Cd.nilc, C2, 260, rfl, bset3_below Lb.out (by omega), .inr (.inl ⟨hp', by first | rfl | trivial, rfl, rfl, rfl⟩)⟩
end Go.Proofs.YtnobafmleellhaaDoor
