/-
  abacuslaw26: copied.
-/
import Derived.Test.YtnobafmleellhaaDoorCdTa
namespace Go.Proofs.YtnobafmleellhaaDoor
open Go Go.RowKit Go.Deep Go.Shelf

theorem held_append26 {ty : TypeId} {o : Oper} {a : Act} {Q : Exit → Act → World → Prop} {K' : Act → World → Prop} {ops : Array Oper} (hgd : o.guard = none) (s x : Operand)
    (ho : o.op = .call { callee := .builtin .append, args := #[s, x], argTypes := #[ty, ty] }) {v y2 v' : Value} {w w' : World} (hr : (Builtin.append_ #[ty, ty] o.type #[v, y2]).run Tryd.prog w = .ok v' w') (hs : a.eval s = v) (hx : a.eval x = y2)
    (h : K' (a.put o.dst v') w') : if Region.wanted o (yielded ops a.tmps) = true then Oper.wp Tryd.prog o a w K' Q else K' (a.put o.dst undef) w := by
  simp only [Region.wanted, hgd, if_true]
  unfold Oper.wp execOp
  simp only [ho, resolve, invoke, builtin, Sem.run_bind, Sem.run_pure, Result.andThen_ok, List.map_toArray, List.map_cons, List.map_nil, hs, hx, hr]
  exact h
theorem cd_tinf : (Tryd.prog.info? 26).map (fun i => (i.zero, i.size, i.bytes)) = some (some (.agg #[.int .i64 0, .int .i64 0, .int .i64 0]), 3, 24) := by kernel_rfl
theorem cd_uinf : (Tryd.prog.info? 51).map (fun i => (i.zero, i.size, i.bytes)) = some (some (.int .u64 0), 1, 8) := by kernel_rfl
theorem cd_sinf : (Tryd.prog.info? 9).map (fun i => (i.zero, i.size, i.bytes)) = some (some (.string ⟨#[]⟩), 1, 16) := by kernel_rfl
namespace Cd
theorem eu_one (x : Int) : ∀ v ∈ eu x, v.oneCell' = true := fun v hv => by
  simp only [eu, List.mem_cons, List.not_mem_nil, or_false] at hv
  rw [hv]; rfl
theorem es_one (x : ByteArray) : ∀ v ∈ es x, v.oneCell' = true := fun v hv => by
  simp only [es, List.mem_cons, List.not_mem_nil, or_false] at hv
  rw [hv]; rfl
theorem copy_i (l : List In) (p : Option Addr) (cap : Nat) (w : World) (h : LI w p l) (hn : l.length * 24 ≤ 140737488355328) :
    ∃ W1 W2, (Instr.makeSlice 27 (.int .i64 0) (.int .i64 (l.length : Int))).run Tryd.prog w = .ok (.slice (some ⟨w.heap.size, 0, none⟩) 0 l.length) W1 ∧ (Builtin.append_ #[27, 27] 27 #[.slice (some ⟨w.heap.size, 0, none⟩) 0 l.length, .slice p l.length cap]).run Tryd.prog W1 = .ok (.slice (some ⟨w.heap.size, 0, none⟩) l.length l.length) W2 ∧
      Bx W2 w.heap.size 26 (Re.fl en l).toArray ∧ Below w.heap.size w W1 ∧ Below w.heap.size w W2 := by
  obtain ⟨i, hi, hz⟩ := Option.map_eq_some_iff.1 cd_tinf
  simp only [Prod.mk.injEq] at hz
  obtain ⟨z1, z2, z3⟩ := hz
  exact cd_copy en en_len en_one 27 26 i _ Tryd.underlying27 hi z1 z2 z3 l p cap w h.cells h.none hn (by omega)
theorem copy_u (l : List Int) (p : Option Addr) (cap : Nat) (w : World) (h : NI w p l) (hn : l.length * 8 ≤ 140737488355328) :
    ∃ W1 W2, (Instr.makeSlice 28 (.int .i64 0) (.int .i64 (l.length : Int))).run Tryd.prog w = .ok (.slice (some ⟨w.heap.size, 0, none⟩) 0 l.length) W1 ∧ (Builtin.append_ #[28, 28] 28 #[.slice (some ⟨w.heap.size, 0, none⟩) 0 l.length, .slice p l.length cap]).run Tryd.prog W1 = .ok (.slice (some ⟨w.heap.size, 0, none⟩) l.length l.length) W2 ∧
      Bx W2 w.heap.size 51 (Re.fl eu l).toArray ∧ Below w.heap.size w W1 ∧ Below w.heap.size w W2 := by
  obtain ⟨i, hi, hz⟩ := Option.map_eq_some_iff.1 cd_uinf
  simp only [Prod.mk.injEq] at hz
  obtain ⟨z1, z2, z3⟩ := hz
  exact cd_copy eu (fun _ => rfl) eu_one 28 51 i _ Tryd.underlying28 hi z1 z2 z3 l p cap w h.cells h.none hn (by omega)
theorem copy_s (l : List ByteArray) (p : Option Addr) (cap : Nat) (w : World) (h : TR w p l) (hn : l.length * 16 ≤ 140737488355328) :
    ∃ W1 W2, (Instr.makeSlice 29 (.int .i64 0) (.int .i64 (l.length : Int))).run Tryd.prog w = .ok (.slice (some ⟨w.heap.size, 0, none⟩) 0 l.length) W1 ∧ (Builtin.append_ #[29, 29] 29 #[.slice (some ⟨w.heap.size, 0, none⟩) 0 l.length, .slice p l.length cap]).run Tryd.prog W1 = .ok (.slice (some ⟨w.heap.size, 0, none⟩) l.length l.length) W2 ∧
      Bx W2 w.heap.size 9 (Re.fl es l).toArray ∧ Below w.heap.size w W1 ∧ Below w.heap.size w W2 := by
  obtain ⟨i, hi, hz⟩ := Option.map_eq_some_iff.1 cd_sinf
  simp only [Prod.mk.injEq] at hz
  obtain ⟨z1, z2, z3⟩ := hz
  exact cd_copy es (fun _ => rfl) es_one 29 9 i _ Tryd.underlying29 hi z1 z2 z3 l p cap w (TR.cells h) (TR.none h) hn (by omega)
/-- What copied tells. -/
def CP (w0 : World) (l : List In) (nums : List Int) (strs : List ByteArray) (e : Ending) (w' : World) : Prop :=
  ∃ a b c, e = .returned (.agg #[.slice (some ⟨a, 0, none⟩) l.length l.length, .slice (some ⟨b, 0, none⟩) nums.length nums.length, .slice (some ⟨c, 0, none⟩) strs.length strs.length]) ∧ w0.heap.size ≤ a ∧ a < b ∧ b < c ∧
    Bx w' a 26 (Re.fl en l).toArray ∧ Bx w' b 51 (Re.fl eu nums).toArray ∧ Bx w' c 9 (Re.fl es strs).toArray ∧ Below w0.heap.size w0 w'
end Cd
set_option maxRecDepth 100000 in
set_option maxHeartbeats 4000000 in
theorem ccop_any (l : List Cd.In) (nums : List Int) (strs : List ByteArray) (p q r : Option Addr) (cap c2 c3 : Nat) (w : World) (hL : Cd.LI w p l) (hQ : Cd.NI w q nums) (hR : TR w r strs) (hn : l.length * 24 ≤ 140737488355328) (hN : nums.length * 8 ≤ 140737488355328) (hS : strs.length * 16 ≤ 140737488355328) :
    Calls Tryd.prog 21 #[.agg #[.slice p l.length cap, .slice q nums.length c2, .slice r strs.length c3]] w fun e w' => Cd.CP w l nums strs e w' := by
  obtain ⟨y1, y2, y3⟩ := bx_three w #[.slice p l.length cap, .slice q nums.length c2, .slice r strs.length c3] #[.slice none 0 0, .slice none 0 0, .slice none 0 0] #[.slice none 0 0, .slice none 0 0, .slice none 0 0] 31 31 31
  have B1 := hid (cd_b3 w (.cells #[.slice p l.length cap, .slice q nums.length c2, .slice r strs.length c3] 31) (.cells #[.slice none 0 0, .slice none 0 0, .slice none 0 0] 31) (.cells #[.slice none 0 0, .slice none 0 0, .slice none 0 0] 31))
  have X1 := hid y1
  have D1 := hid y3
  have R1 := hid y2
  obtain ⟨k0, k1, k2⟩ := bx3 y1
  clear y1 y2 y3
  have HN := hid (And.intro hn (And.intro hN hS))
  have hni : l.length ≤ 5864062014805 := by omega
  have hNi : nums.length ≤ 17592186044416 := by omega
  have hSi : strs.length ≤ 8796093022208 := by omega
  have FF : Hid (∀ a b c W, w.heap.size ≤ a → a < b → b < c → Bx W a 26 (Re.fl Cd.en l).toArray → Bx W b 51 (Re.fl Cd.eu nums).toArray → Bx W c 9 (Re.fl Cd.es strs).toArray → Below w.heap.size w W → Cd.CP w l nums strs (.returned (.agg #[.slice (some ⟨a, 0, none⟩) l.length l.length, .slice (some ⟨b, 0, none⟩) nums.length nums.length, .slice (some ⟨c, 0, none⟩) strs.length strs.length])) W) :=
    fun a b c W h1 h2 h3 h4 h5 h6 h7 => ⟨a, b, c, rfl, h1, h2, h3, h4, h5, h6, h7⟩
  have CI : Hid (∀ W, Below w.heap.size w W → _) := fun W hB => Cd.copy_i l p cap W (hL.below hB (Nat.le_refl _)) hn
  have CU : Hid (∀ W, Below w.heap.size w W → _) := fun W hB => Cd.copy_u nums q c2 W (hQ.below hB (Nat.le_refl _)) hN
  have CS : Hid (∀ W, Below w.heap.size w W → _) := fun W hB => Cd.copy_s strs r c3 W (hR.below hB (Nat.le_refl _)) hS
  clear hL hQ hR hn hN hS HN k0 k1 k2
  generalize hl : Re.fl Cd.en l = CL at *
  generalize hu : Re.fl Cd.eu nums = CN at *
  generalize hs : Re.fl Cd.es strs = CT at *
  clear hl hu hs
  generalize l.length = n at *
  generalize nums.length = N at *
  generalize strs.length = S at *
  go_enter Tryd.func21, Tryd.ntmps21
  go_upto_region 2 with fail
  have sd := D1.out.lt
  generalize ((w.alloc (.cells #[.slice p n cap, .slice q N c2, .slice r S c3] 31)).alloc (.cells #[.slice none 0 0, .slice none 0 0, .slice none 0 0] 31)).alloc (.cells #[.slice none 0 0, .slice none 0 0, .slice none 0 0] 31) = w1 at *
  generalize w.heap.size = bc at *
  have o1 : bc ≠ bc + 1 + 1 := by omega
  have o2 : bc + 1 ≠ bc + 1 + 1 := by omega
  have U0 : Hid (Below bc w w1.drew) := Below.drew B1.out
  have V0 : Hid (Below w1.heap.size w1 w1.drew) := Below.drew (Below.refl _ _)
  obtain ⟨A0, E0, mk0, ap, xa, ba, bb⟩ := CI.out w1.drew U0.out
  have AP0 := hid ap
  have XA0 := hid xa
  have BA0 := hid (below_on V0.out ba)
  have BB0 := hid (below_on V0.out bb)
  have BW0 := hid (B1.out.trans (BB0.out.mono (by omega)))
  have N0 : w1.drew.cell? ⟨bc, 0, none⟩ = some (.slice p n cap) := (bx3 (X1.out.on V0.out)).1
  have N1 : A0.cell? ⟨bc, 0, none⟩ = some (.slice p n cap) := (bx3 (X1.out.on BA0.out)).1
  have N2 : E0.cell? ⟨bc, 0, none⟩ = some (.slice p n cap) := (bx3 (X1.out.on BB0.out)).1
  have G0 := hid (D1.out.on BB0.out)
  obtain ⟨d0, -, -⟩ := bx3 G0.out
  have f0 := G0.out.free 0
  have N3 : ∀ v, (E0.setCell ⟨bc + 1 + 1, 0, none⟩ v).cell? ⟨bc, 0, none⟩ = some (.slice p n cap) := fun v => (bx3 ((X1.out.on BB0.out).far (c := bc + 1 + 1) (o := 0) (v := v) o1.symm)).1
  clear ap xa ba bb
  go_region_held3 (fun W => W.cell? ⟨bc, 0, none⟩ = some (.slice p n cap)) (first | (with_reducible exact N0) | (with_reducible exact N1) | (with_reducible exact N2) | (with_reducible exact N3 _)) (first
    | (refine held_append26 rfl _ _ rfl AP0.out (by rfl) (by rfl) ?_))
  clear N0 N1 N2 N3 d0 f0 mk0
  have X2 := hid ((X1.out.on BB0.out).far (c := bc + 1 + 1) (o := 0) (v := .slice (some ⟨w1.heap.size, 0, none⟩) n n) o1.symm)
  have D2 : Hid (Bx (E0.setCell ⟨bc + 1 + 1, 0, none⟩ (.slice (some ⟨w1.heap.size, 0, none⟩) n n)) (bc + 1 + 1) 31 #[.slice (some ⟨w1.heap.size, 0, none⟩) n n, .slice none 0 0, .slice none 0 0]) := G0.out.set 0 _
  have R2 := hid ((R1.out.on BB0.out).far (c := bc + 1 + 1) (o := 0) (v := .slice (some ⟨w1.heap.size, 0, none⟩) n n) o2.symm)
  have s0 : bc + 1 + 1 < w1.heap.size := sd
  have Y0 : Hid (Bx (E0.setCell ⟨bc + 1 + 1, 0, none⟩ (.slice (some ⟨w1.heap.size, 0, none⟩) n n)) w1.heap.size 26 CL.toArray) := XA0.out.far (by show bc + 1 + 1 ≠ w1.heap.size; omega)
  have t0 : w1.heap.size < (E0.setCell ⟨bc + 1 + 1, 0, none⟩ (.slice (some ⟨w1.heap.size, 0, none⟩) n n)).heap.size := Y0.out.lt
  have B2 : Hid (Below bc w (E0.setCell ⟨bc + 1 + 1, 0, none⟩ (.slice (some ⟨w1.heap.size, 0, none⟩) n n))) := BW0.out.setCell (p := ⟨bc + 1 + 1, 0, none⟩) (by show bc ≤ bc + 1 + 1; omega) _
  clear U0 V0 AP0 XA0 BA0 BB0 BW0 G0 X1 D1 B1 R1 sd
  generalize E0.setCell ⟨bc + 1 + 1, 0, none⟩ (.slice (some ⟨w1.heap.size, 0, none⟩) n n) = w2 at *
  generalize w1.heap.size = g0 at *
  have sd : bc + 1 + 1 < w2.heap.size := by omega
  have U1 : Hid (Below bc w w2.drew) := Below.drew B2.out
  have V1 : Hid (Below w2.heap.size w2 w2.drew) := Below.drew (Below.refl _ _)
  obtain ⟨A1, E1, mk1, ap, xa, ba, bb⟩ := CU.out w2.drew U1.out
  have AP1 := hid ap
  have XA1 := hid xa
  have BA1 := hid (below_on V1.out ba)
  have BB1 := hid (below_on V1.out bb)
  have BW1 := hid (B2.out.trans (BB1.out.mono (by omega)))
  have N0 : w2.drew.cell? ⟨bc, 1, none⟩ = some (.slice q N c2) := (bx3 (X2.out.on V1.out)).2.1
  have N1 : A1.cell? ⟨bc, 1, none⟩ = some (.slice q N c2) := (bx3 (X2.out.on BA1.out)).2.1
  have N2 : E1.cell? ⟨bc, 1, none⟩ = some (.slice q N c2) := (bx3 (X2.out.on BB1.out)).2.1
  have G1 := hid (D2.out.on BB1.out)
  obtain ⟨-, d0, -⟩ := bx3 G1.out
  have f0 := G1.out.free 1
  have N3 : ∀ v, (E1.setCell ⟨bc + 1 + 1, 1, none⟩ v).cell? ⟨bc, 1, none⟩ = some (.slice q N c2) := fun v => (bx3 ((X2.out.on BB1.out).far (c := bc + 1 + 1) (o := 1) (v := v) o1.symm)).2.1
  clear ap xa ba bb
  go_upto_region 3 with fail
  go_region_held3 (fun W => W.cell? ⟨bc, 1, none⟩ = some (.slice q N c2)) (first | (with_reducible exact N0) | (with_reducible exact N1) | (with_reducible exact N2) | (with_reducible exact N3 _)) (first
    | (refine held_append26 rfl _ _ rfl AP1.out (by rfl) (by rfl) ?_))
  clear N0 N1 N2 N3 d0 f0 mk1
  have X3 := hid ((X2.out.on BB1.out).far (c := bc + 1 + 1) (o := 1) (v := .slice (some ⟨w2.heap.size, 0, none⟩) N N) o1.symm)
  have D3 : Hid (Bx (E1.setCell ⟨bc + 1 + 1, 1, none⟩ (.slice (some ⟨w2.heap.size, 0, none⟩) N N)) (bc + 1 + 1) 31 #[.slice (some ⟨g0, 0, none⟩) n n, .slice (some ⟨w2.heap.size, 0, none⟩) N N, .slice none 0 0]) := G1.out.set 1 _
  have R3 := hid ((R2.out.on BB1.out).far (c := bc + 1 + 1) (o := 1) (v := .slice (some ⟨w2.heap.size, 0, none⟩) N N) o2.symm)
  have s1 : bc + 1 + 1 < w2.heap.size := sd
  have Y1 : Hid (Bx (E1.setCell ⟨bc + 1 + 1, 1, none⟩ (.slice (some ⟨w2.heap.size, 0, none⟩) N N)) w2.heap.size 51 CN.toArray) := XA1.out.far (by show bc + 1 + 1 ≠ w2.heap.size; omega)
  have Y0 : Hid (Bx (E1.setCell ⟨bc + 1 + 1, 1, none⟩ (.slice (some ⟨w2.heap.size, 0, none⟩) N N)) g0 26 CL.toArray) := (Y0.out.on BB1.out).far (by omega)
  have t1 : w2.heap.size < (E1.setCell ⟨bc + 1 + 1, 1, none⟩ (.slice (some ⟨w2.heap.size, 0, none⟩) N N)).heap.size := Y1.out.lt
  have B3 : Hid (Below bc w (E1.setCell ⟨bc + 1 + 1, 1, none⟩ (.slice (some ⟨w2.heap.size, 0, none⟩) N N))) := BW1.out.setCell (p := ⟨bc + 1 + 1, 1, none⟩) (by show bc ≤ bc + 1 + 1; omega) _
  clear U1 V1 AP1 XA1 BA1 BB1 BW1 G1 X2 D2 B2 R2 sd
  generalize E1.setCell ⟨bc + 1 + 1, 1, none⟩ (.slice (some ⟨w2.heap.size, 0, none⟩) N N) = w3 at *
  generalize w2.heap.size = g1 at *
  have sd : bc + 1 + 1 < w3.heap.size := by omega
  have U2 : Hid (Below bc w w3.drew) := Below.drew B3.out
  have V2 : Hid (Below w3.heap.size w3 w3.drew) := Below.drew (Below.refl _ _)
  obtain ⟨A2, E2, mk2, ap, xa, ba, bb⟩ := CS.out w3.drew U2.out
  have AP2 := hid ap
  have XA2 := hid xa
  have BA2 := hid (below_on V2.out ba)
  have BB2 := hid (below_on V2.out bb)
  have BW2 := hid (B3.out.trans (BB2.out.mono (by omega)))
  have N0 : w3.drew.cell? ⟨bc, 2, none⟩ = some (.slice r S c3) := (bx3 (X3.out.on V2.out)).2.2
  have N1 : A2.cell? ⟨bc, 2, none⟩ = some (.slice r S c3) := (bx3 (X3.out.on BA2.out)).2.2
  have N2 : E2.cell? ⟨bc, 2, none⟩ = some (.slice r S c3) := (bx3 (X3.out.on BB2.out)).2.2
  have G2 := hid (D3.out.on BB2.out)
  obtain ⟨-, -, d0⟩ := bx3 G2.out
  have f0 := G2.out.free 2
  have N3 : ∀ v, (E2.setCell ⟨bc + 1 + 1, 2, none⟩ v).cell? ⟨bc, 2, none⟩ = some (.slice r S c3) := fun v => (bx3 ((X3.out.on BB2.out).far (c := bc + 1 + 1) (o := 2) (v := v) o1.symm)).2.2
  clear ap xa ba bb
  go_upto_region 4 with fail
  go_region_held3 (fun W => W.cell? ⟨bc, 2, none⟩ = some (.slice r S c3)) (first | (with_reducible exact N0) | (with_reducible exact N1) | (with_reducible exact N2) | (with_reducible exact N3 _)) (first
    | (refine held_append26 rfl _ _ rfl AP2.out (by rfl) (by rfl) ?_))
  clear N0 N1 N2 N3 d0 f0 mk2
  have X4 := hid ((X3.out.on BB2.out).far (c := bc + 1 + 1) (o := 2) (v := .slice (some ⟨w3.heap.size, 0, none⟩) S S) o1.symm)
  have D4 : Hid (Bx (E2.setCell ⟨bc + 1 + 1, 2, none⟩ (.slice (some ⟨w3.heap.size, 0, none⟩) S S)) (bc + 1 + 1) 31 #[.slice (some ⟨g0, 0, none⟩) n n, .slice (some ⟨g1, 0, none⟩) N N, .slice (some ⟨w3.heap.size, 0, none⟩) S S]) := G2.out.set 2 _
  have R4 := hid ((R3.out.on BB2.out).far (c := bc + 1 + 1) (o := 2) (v := .slice (some ⟨w3.heap.size, 0, none⟩) S S) o2.symm)
  have s2 : bc + 1 + 1 < w3.heap.size := sd
  have Y2 : Hid (Bx (E2.setCell ⟨bc + 1 + 1, 2, none⟩ (.slice (some ⟨w3.heap.size, 0, none⟩) S S)) w3.heap.size 9 CT.toArray) := XA2.out.far (by show bc + 1 + 1 ≠ w3.heap.size; omega)
  have Y0 : Hid (Bx (E2.setCell ⟨bc + 1 + 1, 2, none⟩ (.slice (some ⟨w3.heap.size, 0, none⟩) S S)) g0 26 CL.toArray) := (Y0.out.on BB2.out).far (by omega)
  have Y1 : Hid (Bx (E2.setCell ⟨bc + 1 + 1, 2, none⟩ (.slice (some ⟨w3.heap.size, 0, none⟩) S S)) g1 51 CN.toArray) := (Y1.out.on BB2.out).far (by omega)
  have t2 : w3.heap.size < (E2.setCell ⟨bc + 1 + 1, 2, none⟩ (.slice (some ⟨w3.heap.size, 0, none⟩) S S)).heap.size := Y2.out.lt
  have B4 : Hid (Below bc w (E2.setCell ⟨bc + 1 + 1, 2, none⟩ (.slice (some ⟨w3.heap.size, 0, none⟩) S S))) := BW2.out.setCell (p := ⟨bc + 1 + 1, 2, none⟩) (by show bc ≤ bc + 1 + 1; omega) _
  clear U2 V2 AP2 XA2 BA2 BB2 BW2 G2 X3 D3 B3 R3 sd
  generalize E2.setCell ⟨bc + 1 + 1, 2, none⟩ (.slice (some ⟨w3.heap.size, 0, none⟩) S S) = w4 at *
  generalize w3.heap.size = g2 at *
  have sd : bc + 1 + 1 < w4.heap.size := by omega
  obtain ⟨d0, d1, d2⟩ := bx3 D4.out
  obtain ⟨r0, r1, r2⟩ := bx3 R4.out
  have f0 := R4.out.free 0
  have f1 := R4.out.free 1
  have f2 := R4.out.free 2
  go_wp2_with fail
  have RR := hid (R4.out.put3 (.slice (some ⟨g0, 0, none⟩) n n) (.slice (some ⟨g1, 0, none⟩) N N) (.slice (some ⟨g2, 0, none⟩) S S))
  refine bodyPost_ret (results_cell_row rfl _ _ (bc + 1) 31 _ (0, 0) _ rfl RR.out Tryd.underlying31 rfl (by kernel_rfl)) rfl ?_
  have z0 : bc + 1 ≠ g0 := by omega
  have z1 : bc + 1 ≠ g1 := by omega
  have z2 : bc + 1 ≠ g2 := by omega
  exact FF.out g0 g1 g2 _ (by omega) (by omega) (by omega) (((Y0.out.far z0).far z0).far z0) (((Y1.out.far z1).far z1).far z1) (((Y2.out.far z2).far z2).far z2) (bset3_below B4.out (by omega))
end Go.Proofs.YtnobafmleellhaaDoor
