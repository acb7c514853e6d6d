/-
  code's reader: refuse, left, take, next.
-/
import Derived.Test.YtnobafmleellhaaDoorCdRa
namespace Go.Proofs.YtnobafmleellhaaDoor
open Go Go.RowKit Go.Deep Go.Shelf

namespace Cd
/-- Bytes in memory. -/
def BR (w : World) (p : Option Addr) (B : Ch.L8) : Prop := ∀ i c, B[i]? = some c → ∃ b off, p = some ⟨b, off, none⟩ ∧ w.cell? ⟨b, off + i, none⟩ = some (.int .u8 (c.toNat : Int))
def Nb (rb : Nat) (p : Option Addr) : Prop := ∀ b off, p = some ⟨b, off, none⟩ → b ≠ rb
theorem cell_kp {S : Nat → Prop} {w w' : World} (k : Re.Kp S w w') {b o : Nat} {v : Value} (h : w.cell? ⟨b, o, none⟩ = some v) (hs : ¬ S b) : w'.cell? ⟨b, o, none⟩ = some v := by
  have lt : b < w.heap.size := cell_lt h
  have e := k.block b lt hs
  unfold World.cell? at h ⊢
  rw [e]; exact h
theorem BR.kp {w w' : World} {p : Option Addr} {B : Ch.L8} {rb : Nat} (h : BR w p B) (hn : B = [] ∨ Nb rb p) (k : Re.Kp (fun b => b = rb) w w') : BR w' p B := fun i c hc => by
  rcases hn with rfl | hn
  · simp at hc
  obtain ⟨b, off, e, hx⟩ := h i c hc
  exact ⟨b, off, e, cell_kp k hx (hn b off e)⟩
theorem BR.on {w w' : World} {p : Option Addr} {B : Ch.L8} (h : BR w p B) (hB : Below w.heap.size w w') : BR w' p B := fun i c hc => by
  obtain ⟨b, off, e, hx⟩ := h i c hc
  exact ⟨b, off, e, by rw [hB.cell (cell_lt hx)]; exact hx⟩
/-- A reader in memory. -/
structure RT (w : World) (rb : Nat) (q : Option Addr) (B : Ch.L8) (cap : Nat) (s : Rd) : Prop where
  bx : Bx w rb 85 #[.slice q B.length cap, .int .i64 (s.a : Int), .bool s.f.isSome, .int .i64 ((s.f.getD 0 : Nat) : Int)]
  br : BR w q B
  ne : B = [] ∨ Nb rb q
  le : s.a ≤ B.length
  len : B.length ≤ 1099511627776
  cp : B.length ≤ cap
  fl : s.f.getD 0 ≤ B.length
  sp : True
theorem RT.kp {w w' : World} {rb : Nat} {q : Option Addr} {B : Ch.L8} {cap : Nat} {s s' : Rd} (h : RT w rb q B cap s) (k : Re.Kp (fun b => b = rb) w w')
    (bx : Bx w' rb 85 #[.slice q B.length cap, .int .i64 (s'.a : Int), .bool s'.f.isSome, .int .i64 ((s'.f.getD 0 : Nat) : Int)]) (le : s'.a ≤ B.length) (fl : s'.f.getD 0 ≤ B.length) : RT w' rb q B cap s' :=
  ⟨bx, h.br.kp h.ne k, h.ne, le, h.len, h.cp, fl, h.sp⟩
theorem RT.on {w w' : World} {rb : Nat} {q : Option Addr} {B : Ch.L8} {cap : Nat} {s : Rd} (h : RT w rb q B cap s) (k : Below w.heap.size w w') : RT w' rb q B cap s :=
  ⟨h.bx.on k, h.br.on k, h.ne, h.le, h.len, h.cp, h.fl, h.sp⟩
theorem bx4 {w : World} {b t : Nat} {v0 v1 v2 v3 : Value} (h : Bx w b t #[v0, v1, v2, v3]) : w.cell? ⟨b, 0, none⟩ = some v0 ∧ w.cell? ⟨b, 1, none⟩ = some v1 ∧ w.cell? ⟨b, 2, none⟩ = some v2 ∧ w.cell? ⟨b, 3, none⟩ = some v3 := by
  simp only [Bx] at h
  refine ⟨?_, ?_, ?_, ?_⟩ <;> simp [World.cell?, h]
end Cd
set_option maxRecDepth 100000 in
set_option maxHeartbeats 4000000 in
theorem rrefuse_any {w : World} {rb : Nat} {q : Option Addr} {B : Ch.L8} {cap : Nat} {s : Cd.Rd} (h : Cd.RT w rb q B cap s) (p : Nat) (hp : s.f.isSome = false → p ≤ B.length) :
    Calls Tryd.prog 41 #[.pointer (some ⟨rb, 0, none⟩), .int .i64 (p : Int)] w fun e w' => e = .returned (.tuple #[]) ∧ Cd.RT w' rb q B cap (Cd.rf s p) ∧ Re.Kp (fun b => b = rb) w w' := by
  obtain ⟨k0, k1, k2, k3⟩ := Cd.bx4 h.bx
  have f2 := h.bx.free 2
  have f3 := h.bx.free 3
  cases hf : s.f.isSome with
  | true =>
    rw [hf] at k2
    have F : Hid (Cd.RT w rb q B cap (Cd.rf s p)) := by unfold Cd.rf Hid; rw [if_pos hf]; exact h
    clear h hf hp
    go_enter Tryd.func41, Tryd.ntmps41
    go_wp2_with fail
    go_end0
    exact ⟨rfl, F.out, Re.Kp.refl _ _⟩
  | false =>
    rw [hf] at k2
    have F : Hid (Cd.RT ((w.setCell ⟨rb, 2, none⟩ (.bool true)).setCell ⟨rb, 3, none⟩ (.int .i64 (p : Int))) rb q B cap (Cd.rf s p) ∧ Re.Kp (fun b => b = rb) w ((w.setCell ⟨rb, 2, none⟩ (.bool true)).setCell ⟨rb, 3, none⟩ (.int .i64 (p : Int)))) := by
      have K : Re.Kp (fun b => b = rb) w ((w.setCell ⟨rb, 2, none⟩ (.bool true)).setCell ⟨rb, 3, none⟩ (.int .i64 (p : Int))) := Re.Kp.set (S := fun b => b = rb) (Re.Kp.set (S := fun b => b = rb) (Re.Kp.refl _ _) rfl _ _) rfl _ _
      refine ⟨h.kp K ?_ ?_ ?_, K⟩
      · have := (h.bx.set 2 (.bool true)).set 3 (.int .i64 (p : Int))
        unfold Cd.rf
        rw [if_neg (by rw [hf]; decide)]
        exact this
      · unfold Cd.rf
        rw [if_neg (by rw [hf]; decide)]
        exact h.le
      · unfold Cd.rf
        rw [if_neg (by rw [hf]; decide)]
        exact hp hf
    have hl := h.len
    have hpp := hp hf
    clear h hf hp
    go_enter Tryd.func41, Tryd.ntmps41
    go_wp2_with fail
    go_end0
    exact ⟨rfl, F.out⟩
set_option maxRecDepth 100000 in
set_option maxHeartbeats 4000000 in
theorem rleft_any {w : World} {rb : Nat} {q : Option Addr} {B : Ch.L8} {cap : Nat} {s : Cd.Rd} (h : Cd.RT w rb q B cap s) :
    Calls Tryd.prog 67 #[.pointer (some ⟨rb, 0, none⟩)] w fun e w' => e = .returned (.int .i64 ((B.length - s.a : Nat) : Int)) ∧ Below w.heap.size w w' := by
  obtain ⟨k0, k1, k2, k3⟩ := Cd.bx4 h.bx
  have hl := h.len
  have hle := h.le
  have hsub : ((B.length - s.a : Nat) : Int) = (B.length : Int) - (s.a : Int) := by omega
  rw [hsub]
  have U0 : Hid (Below w.heap.size w w.drew) := Below.drew (Below.refl _ _)
  obtain ⟨n0, n1, -, -⟩ := Cd.bx4 (h.bx.on U0.out)
  clear h hsub k0 k1 k2 k3
  generalize B.length = n at *
  obtain ⟨a, f⟩ := s
  go_enter Tryd.func67, Tryd.ntmps67
  go_upto_region 1 with fail
  go_region_held3 (fun W => W.cell? ⟨rb, 0, none⟩ = some (.slice q n cap) ∧ W.cell? ⟨rb, 1, none⟩ = some (.int .i64 (a : Int))) (with_reducible exact ⟨n0, n1⟩) (fail)
  go_wp2_with fail
  go_ret
  have e : IntKind.i64.wrap ((n : Int) - (a : Int)) = (n : Int) - (a : Int) := by rw [IntKind.wrap_i64]; omega
  rw [e]
  exact ⟨rfl, U0.out⟩
namespace Cd
theorem take_in {n : Nat} {B : Ch.L8} {a : Nat} (h : ¬ B.length - a < n) : take n B ⟨a, none⟩ = ((B.drop a).take n, ⟨a + n, none⟩) := by unfold take; rw [if_neg (by simp), if_neg h]
theorem take_out {n : Nat} {B : Ch.L8} {a : Nat} (h : B.length - a < n) : take n B ⟨a, none⟩ = ([], ⟨a, some B.length⟩) := by unfold take; rw [if_neg (by simp), if_pos h]
theorem take_bad {n : Nat} {B : Ch.L8} {s : Rd} (h : s.f.isSome = true) : take n B s = ([], s) := by unfold take; rw [if_pos h]
theorem rd_none {s : Rd} (h : s.f.isSome = false) : s = ⟨s.a, none⟩ := by
  obtain ⟨a, f⟩ := s
  cases f with
  | none => rfl
  | some x => cases h
/-- What take tells. -/
def TK (w : World) (rb : Nat) (q : Option Addr) (B : Ch.L8) (cap : Nat) (T : Ch.L8 × Rd) (e : Ending) (w' : World) : Prop :=
  ∃ t c, e = .returned (.slice t T.1.length c) ∧ BR w' t T.1 ∧ True ∧ RT w' rb q B cap T.2 ∧ Re.Kp (fun b => b = rb) w w' ∧ T.1.length ≤ c
end Cd
theorem held_slice {ty : TypeId} {o : Oper} {a : Act} {Q : Exit → Act → World → Prop} {K' : Act → World → Prop} {ops : Array Oper} (hgd : o.guard = none) (x lo hi : Operand)
    (ho : o.op = .slice ty x (some lo) (some hi) none) {v y1 y2 v' : Value} {w : World} (hr : (Instr.sliceAt ty v (some y1) (some y2) none).run Tryd.prog w = .ok v' w) (hx : a.eval x = v) (hl : a.eval lo = y1) (hh : a.eval hi = y2)
    (h : K' (a.put o.dst v') w) : if Region.wanted o (yielded ops a.tmps) = true then Oper.wp Tryd.prog o a w K' Q else K' (a.put o.dst undef) w := by
  simp only [Region.wanted, hgd, if_true]
  unfold Oper.wp execOp
  simp only [ho, Sem.run_bind, Sem.run_pure, Result.andThen_ok, Option.map_some, Option.map_none, hx, hl, hh, hr]
  exact h
theorem rd_slice (q : Option Addr) (bn cap a m : Nat) (h1 : a ≤ m) (h2 : m ≤ cap) (wx : World) : (Instr.sliceAt 32 (.slice q bn cap) (some (.int .i64 (a : Int))) (some (.int .i64 (m : Int))) none).run Tryd.prog wx = .ok (.slice (if cap = a then q else q.map (·.add (a * 1))) (m - a) (cap - a)) wx := by
  obtain ⟨i, hi, hz⟩ := Option.map_eq_some_iff.1 info_u8
  simp only [Prod.mk.injEq] at hz
  obtain ⟨z1, z2, z3⟩ := hz
  have el : Tryd.prog.elem 32 = 5 := by kernel_rfl
  rw [run_sliceAt_slice (P := Tryd.prog) (w := wx) 32 _ _ _ _ (by rw [el]; exact Tryd.underlying32), run_slice_lh (P := Tryd.prog) (w := wx) 32 q bn cap (by rw [el]; exact Tryd.underlying32) .i64 .i64 (a : Int) (m : Int) (by omega) (by omega) (by omega), el]
  simp [sizeOf, typeInfo, hi, z2, Result.andThen, sliced]
set_option maxRecDepth 100000 in
set_option maxHeartbeats 8000000 in
theorem rtake_any {w : World} {rb : Nat} {q : Option Addr} {B : Ch.L8} {cap : Nat} {s : Cd.Rd} (h : Cd.RT w rb q B cap s) (n : Nat) (hn : n ≤ 1099511627776) :
    Calls Tryd.prog 65 #[.pointer (some ⟨rb, 0, none⟩), .int .i64 (n : Int)] w fun e w' => Cd.TK w rb q B cap (Cd.take n B s) e w' := by
  have LF := hid (rleft_any h)
  have hl := h.len
  have hle := h.le
  have NIL : ∀ W, Cd.BR W none [] := fun W i c hc => by simp at hc
  have NN : True := trivial
  cases hf : s.f.isSome with
  | true =>
    have RF : Hid (∀ W, Below w.heap.size w W → Calls Tryd.prog 41 #[.pointer (some ⟨rb, 0, none⟩), .int .i64 (B.length : Int)] W fun e w' => e = .returned (.tuple #[]) ∧ Cd.RT w' rb q B cap s ∧ Re.Kp (fun b => b = rb) W w') := fun W hW => by
      have := rrefuse_any (h.on hW) B.length (fun _ => Nat.le_refl _)
      rwa [Cd.rf_stuck hf] at this
    have FF : Hid (∀ W, Cd.RT W rb q B cap s → Re.Kp (fun b => b = rb) w W → Cd.TK w rb q B cap (Cd.take n B s) (.returned (.slice none 0 0)) W) := fun W h1 h2 => by
      rw [Cd.take_bad hf]
      exact ⟨none, 0, rfl, NIL W, NN, h1, h2, Nat.le_refl _⟩
    have H := hid h
    clear h NIL NN
    by_cases hc : B.length - s.a < n
    · have ci : ((B.length - s.a : Nat) : Int) < (n : Int) := by omega
      generalize ((B.length - s.a : Nat) : Int) = lf at *
      go_enter Tryd.func65, Tryd.ntmps65
      go_upto_region 2 with (go_at_call 67; refine LF.out.mono ?_; rintro e w1 ⟨rfl, hB⟩; have V1 := hid hB; have H1 := hid (H.out.on hB); obtain ⟨k0, k1, k2, k3⟩ := Cd.bx4 H1.out.bx; clear hB LF)
      go_upto_region 3 with (go_at_call 41; refine (RF.out _ V1.out).mono ?_; rintro e w2 ⟨rfl, hR, hK⟩; have H2 := hid hR; have K2 := hid ((Re.Kp.of V1.out).trans hK); clear k0 k1 k2 k3 hR hK RF; obtain ⟨k0, k1, k2, k3⟩ := Cd.bx4 H2.out.bx; rw [hf] at k2)
      go_wp2_with fail
      go_ret
      exact FF.out _ H2.out K2.out
    · have ci : ¬ ((B.length - s.a : Nat) : Int) < (n : Int) := by omega
      generalize ((B.length - s.a : Nat) : Int) = lf at *
      go_enter Tryd.func65, Tryd.ntmps65
      go_upto_region 3 with (go_at_call 67; refine LF.out.mono ?_; rintro e w1 ⟨rfl, hB⟩; have V1 := hid hB; have H1 := hid (H.out.on hB); obtain ⟨k0, k1, k2, k3⟩ := Cd.bx4 H1.out.bx; rw [hf] at k2; clear hB LF)
      go_wp2_with fail
      go_ret
      exact FF.out _ H1.out (Re.Kp.of V1.out)
  | false =>
    have es := Cd.rd_none hf
    generalize s.a = a at *
    subst es
    clear hf
    by_cases hc : B.length - a < n
    · have ci : ((B.length - a : Nat) : Int) < (n : Int) := by omega
      have RF : Hid (∀ W, Below w.heap.size w W → Calls Tryd.prog 41 #[.pointer (some ⟨rb, 0, none⟩), .int .i64 (B.length : Int)] W fun e w' => e = .returned (.tuple #[]) ∧ Cd.RT w' rb q B cap ⟨a, some B.length⟩ ∧ Re.Kp (fun b => b = rb) W w') := fun W hW =>
        rrefuse_any (h.on hW) B.length (fun _ => Nat.le_refl _)
      have FF : Hid (∀ W, Cd.RT W rb q B cap ⟨a, some B.length⟩ → Re.Kp (fun b => b = rb) w W → Cd.TK w rb q B cap (Cd.take n B ⟨a, none⟩) (.returned (.slice none 0 0)) W) := fun W h1 h2 => by
        rw [Cd.take_out hc]
        exact ⟨none, 0, rfl, NIL W, NN, h1, h2, Nat.le_refl _⟩
      have H := hid h
      clear h NIL NN
      generalize ((B.length - a : Nat) : Int) = lf at *
      go_enter Tryd.func65, Tryd.ntmps65
      go_upto_region 2 with (go_at_call 67; refine LF.out.mono ?_; rintro e w1 ⟨rfl, hB⟩; have V1 := hid hB; have H1 := hid (H.out.on hB); obtain ⟨k0, k1, k2, k3⟩ := Cd.bx4 H1.out.bx; clear hB LF)
      go_upto_region 3 with (go_at_call 41; refine (RF.out _ V1.out).mono ?_; rintro e w2 ⟨rfl, hR, hK⟩; have H2 := hid hR; have K2 := hid ((Re.Kp.of V1.out).trans hK); clear k0 k1 k2 k3 hR hK RF; obtain ⟨k0, k1, k2, k3⟩ := Cd.bx4 H2.out.bx; rw [show ((some B.length : Option Nat).isSome) = true from rfl] at k2)
      go_wp2_with fail
      go_ret
      exact FF.out _ H2.out K2.out
    · have ci : ¬ ((B.length - a : Nat) : Int) < (n : Int) := by omega
      have H := hid h
      have FF : Hid (∀ W t c, Cd.RT W rb q B cap ⟨a + n, none⟩ → Re.Kp (fun b => b = rb) w W → Cd.BR W t ((B.drop a).take n) → True → n ≤ c → Cd.TK w rb q B cap (Cd.take n B ⟨a, none⟩) (.returned (.slice t n c)) W) := fun W t c h1 h2 h3 h4 h5 => by
        rw [Cd.take_in hc]
        have e : ((B.drop a).take n).length = n := by rw [List.length_take, List.length_drop]; omega
        exact ⟨t, c, by rw [e], h3, h4, h1, h2, by rw [e]; exact h5⟩
      have hcp := h.cp
      have hsp := h.sp
      have hb0 : q = none → B.length = 0 := fun e => by
        cases hB : B with
        | nil => rfl
        | cons x l =>
          obtain ⟨b, off, e2, _⟩ := h.br 0 x (by rw [hB]; rfl)
          rw [e] at e2; cases e2
      have hni : (a : Int) + (n : Int) ≤ (B.length : Int) := by omega
      clear h NIL NN
      generalize ((B.length - a : Nat) : Int) = lf at *
      generalize hBn : B.length = bn at *
      go_enter Tryd.func65, Tryd.ntmps65
      go_upto_region 3 with (go_at_call 67; refine LF.out.mono ?_; rintro e w1 ⟨rfl, hB⟩; have V1 := hid hB; have H1 := hid (H.out.on hB); obtain ⟨k0, k1, k2, k3⟩ := Cd.bx4 H1.out.bx; rw [hBn] at k0; rw [show ((none : Option Nat).isSome) = false from rfl] at k2; clear hB LF)
      have f1 := H1.out.bx.free 1
      go_upto_region 6 with fail
      have R2 : Hid (Cd.RT (w1.setCell ⟨rb, 1, none⟩ (.int .i64 ((a : Int) + (n : Int)))) rb q B cap ⟨a + n, none⟩ ∧ Re.Kp (fun b => b = rb) w (w1.setCell ⟨rb, 1, none⟩ (.int .i64 ((a : Int) + (n : Int))))) := by
        have K := Re.Kp.set (S := fun b => b = rb) (Re.Kp.of (S := fun b => b = rb) V1.out) rfl 1 (.int .i64 ((a : Int) + (n : Int)))
        have K1 := Re.Kp.set (S := fun b => b = rb) (Re.Kp.refl (fun b => b = rb) w1) rfl 1 (.int .i64 ((a : Int) + (n : Int)))
        refine ⟨H1.out.kp K1 ?_ (show a + n ≤ B.length by omega) (Nat.zero_le _), K⟩
        have := H1.out.bx.set 1 (.int .i64 ((a : Int) + (n : Int)))
        rw [show (((⟨a + n, none⟩ : Cd.Rd).a : Nat) : Int) = (a : Int) + (n : Int) from Int.natCast_add a n]
        exact this
      clear f1 k0 k1 k2 k3 H1 V1
      generalize w1.setCell ⟨rb, 1, none⟩ (.int .i64 ((a : Int) + (n : Int))) = w2 at *
      have U0 : Hid (Below w2.heap.size w2 w2.drew) := Below.drew (Below.refl _ _)
      have R3 := hid (R2.out.1.on U0.out)
      have K3 := hid (R2.out.2.trans (Re.Kp.of U0.out))
      obtain ⟨n0, n1, -, -⟩ := Cd.bx4 R3.out.bx
      rw [hBn] at n0
      obtain ⟨m, hm⟩ : ∃ m, a + n = m := ⟨_, rfl⟩
      rw [show (((⟨a + n, none⟩ : Cd.Rd).a : Nat) : Int) = (m : Int) by rw [← hm]] at n1
      have hmn : (m : Int) - (n : Int) = (a : Int) := by omega
      have m1 : a ≤ m := by omega
      have m2 : m ≤ cap := by omega
      have m3 : (a : Int) ≤ (m : Int) := by omega
      have m4 : (m : Int) ≤ (cap : Int) := by omega
      have m5 : (m : Int) ≤ 1099511627776 := by omega
      have m6 : m - a = n := by omega
      have m7 : (a : Int) ≤ 1099511627776 := by omega
      have m8 : (0 : Int) ≤ (a : Int) := by omega
      have m9 : (0 : Int) ≤ (m : Int) := by omega
      have mc : (0 : Int) ≤ (cap : Int) := by omega
      have mw : IntKind.i64.wrap (a : Int) = (a : Int) := by rw [IntKind.wrap_i64]; omega
      obtain ⟨t, ht⟩ : ∃ t, (if cap = a then q else q.map (·.add (a * 1))) = t := ⟨_, rfl⟩
      have SL : ∀ wx : World, (Instr.sliceAt 32 (.slice q bn cap) (some (.int .i64 (a : Int))) (some (.int .i64 (m : Int))) none).run Tryd.prog wx = .ok (.slice t n (cap - a)) wx := fun wx => by
        rw [rd_slice q bn cap a m m1 m2, ht, m6]
      have BT : Hid (∀ W, Cd.BR W q B → Cd.BR W t ((B.drop a).take n)) := fun W h i c hc => by
        rw [List.getElem?_take] at hc
        split at hc
        · rw [List.getElem?_drop] at hc
          obtain ⟨b, off, e, hx⟩ := h (a + i) c hc
          have lt := (List.getElem?_eq_some_iff.1 hc).1
          subst e
          rw [if_neg (by omega)] at ht
          refine ⟨b, off + a, by rw [← ht, Nat.mul_one, Option.map_some, Go.WideShapes.add_plain], by rw [Nat.add_assoc]; exact hx⟩
        · cases hc
      have NT : Hid True := trivial
      have R4 := R3.out.br
      by_cases cc : cap = a
      · rw [if_pos cc] at ht
        subst ht
        obtain rfl : m = a := by omega
        obtain rfl : n = 0 := by omega
        subst cc
        have q1 : (cap : Int) ≤ (cap : Int) := Int.le_refl _
        clear hb0 hle hni hc hcp hsp SL hmn hm m3 m4 m1 m2 m6
        go_region_held3 (fun W => W.cell? ⟨rb, 0, none⟩ = some (.slice q bn cap) ∧ W.cell? ⟨rb, 1, none⟩ = some (.int .i64 (cap : Int))) (with_reducible exact ⟨n0, n1⟩) (fail)
        go_wp2_with fail
        go_ret
        exact FF.out _ _ _ R3.out K3.out (BT.out _ R4) NT.out (by omega)
      · have cz : ¬ (cap : Int) = (a : Int) := by omega
        rw [if_neg cc, Nat.mul_one] at ht
        subst ht
        clear hb0 hle hni hc ci hcp hsp SL
        go_region_held3 (fun W => W.cell? ⟨rb, 0, none⟩ = some (.slice q bn cap) ∧ W.cell? ⟨rb, 1, none⟩ = some (.int .i64 (m : Int))) (with_reducible exact ⟨n0, n1⟩) (fail)
        go_wp2_with fail
        go_ret
        exact FF.out _ _ _ R3.out K3.out (BT.out _ R4) NT.out (by omega)
theorem rnext_any {w : World} {rb : Nat} {q : Option Addr} {B : Ch.L8} {cap : Nat} {s : Cd.Rd} (h : Cd.RT w rb q B cap s) :
    Calls Tryd.prog 64 #[.pointer (some ⟨rb, 0, none⟩)] w fun e w' => e = .returned (.int .u8 ((Cd.next B s).1.toNat : Int)) ∧ Cd.RT w' rb q B cap (Cd.next B s).2 ∧ Re.Kp (fun b => b = rb) w w' := by
  have T := hid (rtake_any h 1 (by omega))
  have e1 : (Cd.next B s).1 = (Cd.take 1 B s).1.headD 0 := rfl
  have e2 : (Cd.next B s).2 = (Cd.take 1 B s).2 := rfl
  have l1 : (Cd.take 1 B s).1.length ≤ 1 := by
    unfold Cd.take
    split
    · exact Nat.zero_le _
    · split
      · exact Nat.zero_le _
      · rw [List.length_take]; omega
  rw [e1, e2]
  generalize Cd.take 1 B s = TT at *
  obtain ⟨L, s2⟩ := TT
  clear h e1 e2
  cases L with
  | nil =>
    go_enter Tryd.func64, Tryd.ntmps64
    go_wp2_with (go_at_call 65; refine T.out.mono ?_; rintro e w2 ⟨t, c, rfl, h1, h2, h3, h4, h5⟩; have F := hid (And.intro h3 h4); clear h1 h2 h3 h4 h5 T)
    go_ret
    exact ⟨rfl, F.out⟩
  | cons x r =>
    obtain rfl : r = [] := List.eq_nil_of_length_eq_zero (by simp only [List.length_cons] at l1; omega)
    clear l1
    go_enter Tryd.func64, Tryd.ntmps64
    go_upto_region 2 with (go_at_call 65; refine T.out.mono ?_; rintro e w2 ⟨t, c, rfl, h1, h2, h3, h4, h5⟩; have F := hid (And.intro h3 h4); obtain ⟨b, off, rfl, cx⟩ := h1 0 x rfl; rw [Nat.add_zero] at cx; clear h1 h2 h3 h4 h5 T)
    go_wp2_with fail
    go_ret
    exact ⟨rfl, F.out⟩
end Go.Proofs.YtnobafmleellhaaDoor
