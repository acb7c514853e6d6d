/-
  code's reader: texts.
-/
import Derived.Test.YtnobafmleellhaaDoorCdRd
import Derived.Test.YtnobafmleellhaaDoorCdRo
import Derived.Test.YtnobafmleellhaaDoorCdTb
namespace Go.Proofs.YtnobafmleellhaaDoor
open Go Go.RowKit Go.Deep Go.Shelf

theorem cd_makeO {α : Type} (enc : α → List Value) {k bytes : Nat} (t e : TypeId) (i : TypeInfo) (z : Value) (ht : Tryd.prog.underlying t = some (.slice e)) (hi : Tryd.prog.info? e = some i) (hz : i.zero = some z) (hs : i.size = k) (hy : i.bytes = bytes)
    (c base : Nat) (w : World) (hc : c * bytes ≤ 140737488355328) (hm : c ≤ 9223372036854775807) (hb : base ≤ w.heap.size) :
    ∃ W', (Instr.makeSlice t (.int .i64 0) (.int .i64 (c : Int))).run Tryd.prog w = .ok (.slice (some ⟨w.heap.size, 0, none⟩) 0 c) W' ∧ Re.Ow enc e k base W' (.slice (some ⟨w.heap.size, 0, none⟩) 0 c) ([] : List α) ∧ Below w.heap.size w W' := by
  have mk := run_make (P := Tryd.prog) w t e i z ht hi hz .i64 .i64 0 (c : Int) (by omega) (by omega) (by rw [hy, Int.mul_comm]; omega) (by omega)
  rw [Int.toNat_natCast, hs, show (0 : Int).toNat = 0 from rfl] at mk
  refine ⟨_, mk, ⟨by simp [Re.fl], .inr ⟨w.heap.size, c, _, rfl, hb, heap_alloc_new w _, Nat.zero_le _, by simp only [maxLen]; omega, ?_, by simp [Re.fl]⟩⟩, alloc_b w _⟩
  simp [madeCells]
namespace Cd
theorem kp_below {S : Nat → Prop} {w W W' : World} {base : Nat} (h : Re.Kp S w W) (k : Below base W W') (hb : w.heap.size ≤ base) : Re.Kp S w W' :=
  ⟨k.os.trans h.os, k.tape.trans h.tape, k.output.trans h.output, Nat.le_trans h.size k.size, fun b hb' hs => (k.block b (by omega)).trans (h.block b hb' hs)⟩
theorem BR.conv {w : World} {p : Option Addr} {B : Ch.L8} {cap : Nat} (h : BR w p B) : (convert 32 9 (.slice p B.length cap)).run Tryd.prog w = .ok (.string ⟨B.toArray⟩) w := by
  cases p with
  | none =>
    cases B with
    | cons x l => obtain ⟨b, off, e, _⟩ := h 0 x rfl; cases e
    | nil => exact run_convert_bytes_nil (P := Tryd.prog) w 32 5 Tryd.underlying32 Tryd.underlying5 0 cap 9 Tryd.underlying9
  | some a =>
    refine run_convert_bytes_back (P := Tryd.prog) w 32 9 5 a cap B Tryd.underlying32 Tryd.underlying5 Tryd.underlying9 fun j hj => ?_
    obtain ⟨b', off', e, c⟩ := h j _ (List.getElem?_eq_getElem hj)
    cases e
    rw [Go.WideShapes.add_plain]
    exact c
theorem es_len (x : ByteArray) : (es x).length = 1 := rfl
theorem Ow_es {w : World} {base : Nat} {mv : Value} {D : List ByteArray} (h : Re.Ow es 9 1 base w mv D) (x : ByteArray) (hn : D.length ≤ 1000000000000) (hb : base ≤ w.heap.size) :
    ∃ mv' w', (Builtin.append_ #[29, 29] 29 #[mv, .slice (some ⟨w.heap.size, 0, none⟩) 1 1]).run Tryd.prog (w.alloc (.cells #[.string x] 9)) = .ok mv' w' ∧ Re.Ow es 9 1 base w' mv' (D ++ [x]) ∧ Below base w w' := by
  obtain ⟨mv', w', e1, e2, e3, e4, e5⟩ := h.push (k := 1) es_len es_one (by omega) (P := Tryd.prog) 29 Tryd.underlying29 (z := .string ⟨#[]⟩) (bytes := 16) cd_sinf (by omega) rfl x hn hb
  exact ⟨mv', w', e1, e2, e4⟩
theorem Ow_len {α : Type} {enc : α → List Value} {t k base : Nat} {w : World} {mv : Value} {D : List α} (h : Re.Ow enc t k base w mv D) : ∃ p c, mv = .slice p D.length c := by
  rcases h.2 with ⟨rfl, h0⟩ | ⟨g, cap, cur, rfl, _⟩
  · exact ⟨none, 0, by rw [h0]⟩
  · exact ⟨_, cap, rfl⟩
theorem rep_zero {α : Type} {r : Rdr α} {B : Ch.L8} {s : Rd} : rep r 0 B s = ([], s) := rfl
theorem rep_stop {α : Type} {r : Rdr α} {m : Nat} {B : Ch.L8} {s : Rd} (h : s.f.isSome = true) : rep r m B s = ([], s) := by
  cases m with
  | zero => rfl
  | succ m =>
    show (if s.f.isSome = true then (([], s) : List α × Rd) else _) = _
    rw [if_pos h]
theorem rep_more {α : Type} {r : Rdr α} {m : Nat} {B : Ch.L8} {s : Rd} (h : s.f.isSome = false) : rep r (m + 1) B s = ((r B s).1 :: (rep r m B (r B s).2).1, (rep r m B (r B s).2).2) := by
  show (if s.f.isSome = true then (([], s) : List α × Rd) else _) = _
  rw [if_neg (by rw [h]; decide)]
  rfl
end Cd
set_option maxRecDepth 100000 in
set_option maxHeartbeats 8000000 in
theorem rtexts_any {w : World} {rb : Nat} {q : Option Addr} {B : Ch.L8} {cap : Nat} {s : Cd.Rd} (h : Cd.RT w rb q B cap s) :
    Calls Tryd.prog 39 #[.pointer (some ⟨rb, 0, none⟩)] w fun e w' => ∃ mv, e = .returned mv ∧ Re.Ow Cd.es 9 1 w.heap.size w' mv (Cd.txs B s).1 ∧ Cd.RT w' rb q B cap (Cd.txs B s).2 ∧ Re.Kp (fun b => b = rb) w w' := by
  have rl := h.bx.lt
  have hlen := h.len
  have N1 := hid (rnumber_any h)
  have NX : Hid (∀ W s, Cd.RT W rb q B cap s → _) := fun W s hs => rnumber_any hs
  have TX : Hid (∀ W s n, n ≤ 2147483647 → Cd.RT W rb q B cap s → _) := fun W s n hn hs => rtake_any hs n (by omega)
  have LX : Hid (∀ W s, Cd.RT W rb q B cap s → _) := fun W s hs => rleft_any hs
  have nl := Cd.nb_le B s
  obtain ⟨T, hT⟩ : ∃ T, Cd.txs B s = T := ⟨_, rfl⟩
  have T1 : Cd.rep Cd.tx1r (Cd.nb B s).1 B (Cd.nb B s).2 = T := hT
  rw [hT]
  have H0 := hid h
  generalize Cd.nb B s = NB at *
  obtain ⟨n, s1⟩ := NB
  simp only at *
  have hn2 : (n : Int) ≤ 2147483647 := by omega
  have hn0 : (0 : Int) ≤ (n : Int) := by omega
  clear hT h
  go_enter Tryd.func39, Tryd.ntmps39
  go_upto_region 2 with (go_at_call 66; refine N1.out.mono ?_; rintro e w2 ⟨rfl, g1, g2⟩; have R2 := hid g1; have K2 := hid g2; clear g1 g2 N1)
  have L2 := hid (LX.out w2 s1 R2.out)
  have lb : B.length - s1.a ≤ 1099511627776 := by omega
  generalize B.length - s1.a = lf at *
  have lb2 : (lf : Int) ≤ 1099511627776 := by omega
  have lb0 : (0 : Int) ≤ (lf : Int) := by omega
  obtain ⟨i, hi, hz⟩ := Option.map_eq_some_iff.1 cd_sinf
  simp only [Prod.mk.injEq] at hz
  obtain ⟨z1, z2, z3⟩ := hz
  have MK : Hid (∀ W : World, w.heap.size ≤ W.heap.size → ∃ W', (Instr.makeSlice 29 (.int .i64 0) (.int .i64 (min (n : Int) (lf : Int)))).run Tryd.prog W = .ok (.slice (some ⟨W.heap.size, 0, none⟩) 0 (min n lf)) W' ∧ Re.Ow Cd.es 9 1 w.heap.size W' (.slice (some ⟨W.heap.size, 0, none⟩) 0 (min n lf)) ([] : List ByteArray) ∧ Below W.heap.size W W') := fun W hW => by
    have := cd_makeO Cd.es 29 9 i _ Tryd.underlying29 hi z1 z2 z3 (min n lf) w.heap.size W (by omega) (by omega) hW
    rwa [show ((min n lf : Nat) : Int) = min (n : Int) (lf : Int) by omega] at this
  clear hi z1 z2 z3 i
  go_upto_region 2 with fail
  go_wp2_with (first
    | (go_at_call 67; refine L2.out.mono ?_; rintro e w3 ⟨rfl, g1⟩; have R3 := hid (R2.out.on g1); have K3 := hid (K2.out.trans (Re.Kp.of g1)); obtain ⟨w4, mk, o4, b4⟩ := MK.out w3 K3.out.size; have O4 := hid o4; have R4 := hid (R3.out.on b4); have K4 := hid (K3.out.trans (Re.Kp.of b4)); clear g1 L2 R2 K2 R3 K3 MK o4 b4))
  generalize hm : min n lf = mc at *
  clear hm lb lb0 lb2
  have T0 : Hid (T = ([] ++ (Cd.rep Cd.tx1r n B s1).1, (Cd.rep Cd.tx1r n B s1).2)) := by rw [Hid, T1]; rfl
  have S0 : Hid (Cd.RT w4 rb q B cap s1 ∧ Re.Kp (fun b => b = rb) w w4 ∧ T = ([] ++ (Cd.rep Cd.tx1r n B s1).1, (Cd.rep Cd.tx1r n B s1).2)) := ⟨R4.out, K4.out, T0.out⟩
  clear T1 T0 R4 K4 mk LX
  go_loopg [4] n (fun m lv wr => ∃ D s', D.length + m = n ∧ Hid (Re.Ow Cd.es 9 1 w.heap.size wr lv D) ∧ Hid (Cd.RT wr rb q B cap s' ∧ Re.Kp (fun b => b = rb) w wr ∧ T = (D ++ (Cd.rep Cd.tx1r m B s').1, (Cd.rep Cd.tx1r m B s').2)))
  case atStart => exact ⟨[], s1, by simp, O4, S0⟩
  case round =>
    obtain ⟨D, s', hD, O, J⟩ := hrel
    clear S0 O4
    obtain ⟨p, c, rfl⟩ := Cd.Ow_len O.out
    obtain ⟨k0, k1, k2, k3⟩ := Cd.bx4 J.out.1.bx
    cases hf : s'.f.isSome with
    | true =>
      rw [hf] at k2
      have e1 := J.out.2.2
      rw [Cd.rep_stop hf, List.append_nil] at e1
      have FT := hid e1
      have R := hid (And.intro J.out.1 J.out.2.1)
      by_cases hlt : (D.length : Int) < (n : Int)
      · clear J NX TX e1
        go_wp2_with fail
        go_ret
        rw [FT.out]
        exact ⟨_, rfl, O.out, R.out⟩
      · clear J NX TX e1
        go_wp2_with fail
        go_ret
        rw [FT.out]
        exact ⟨_, rfl, O.out, R.out⟩
    | false =>
      rw [hf] at k2
      cases gk with
      | zero =>
        have e1 := J.out.2.2
        rw [Cd.rep_zero, List.append_nil] at e1
        have FT := hid e1
        have R := hid (And.intro J.out.1 J.out.2.1)
        have hlt : ¬ (D.length : Int) < (n : Int) := by omega
        clear J NX TX e1
        go_wp2_with fail
        go_ret
        rw [FT.out]
        exact ⟨_, rfl, O.out, R.out⟩
      | succ m =>
        have hlt : (D.length : Int) < (n : Int) := by omega
        have e1 := J.out.2.2
        rw [Cd.rep_more hf] at e1
        have N5 := hid (NX.out wr s' J.out.1)
        have nl5 := Cd.nb_le B s'
        have x1 : (Cd.tx1r B s').1 = ⟨(Cd.take (Cd.nb B s').1 B (Cd.nb B s').2).1.toArray⟩ := rfl
        have x2 : (Cd.tx1r B s').2 = (Cd.take (Cd.nb B s').1 B (Cd.nb B s').2).2 := rfl
        rw [x1, x2] at e1
        have KW := hid J.out.2.1
        clear J x1 x2
        generalize Cd.nb B s' = NB at *
        obtain ⟨n5, s5⟩ := NB
        simp only at *
        have TX5 : Hid (∀ W, Cd.RT W rb q B cap s5 → _) := fun W hW => TX.out W s5 n5 nl5 hW
        generalize Cd.take n5 B s5 = TT at *
        obtain ⟨L, s6⟩ := TT
        simp only at *
        have E1 := hid e1
        have dl : D.length ≤ 1000000000000 := by omega
        have FX : Hid (∀ t c6 w6, Cd.BR w6 t L → Cd.RT w6 rb q B cap s6 → Re.Kp (fun b => b = rb) wr w6 → (convert 32 9 (.slice t L.length c6)).run Tryd.prog w6 = .ok (.string ⟨L.toArray⟩) w6 ∧ ∃ mv' w7, (Builtin.append_ #[29, 29] 29 #[.slice p D.length c, .slice (some ⟨w6.heap.size, 0, none⟩) 1 1]).run Tryd.prog (w6.alloc (.cells #[.string ⟨L.toArray⟩] 9)) = .ok mv' w7 ∧
            Hid (Re.Ow Cd.es 9 1 w.heap.size w7 mv' (D ++ [⟨L.toArray⟩])) ∧ Hid (Cd.RT w7 rb q B cap s6 ∧ Re.Kp (fun b => b = rb) w w7 ∧ T = ((D ++ [⟨L.toArray⟩]) ++ (Cd.rep Cd.tx1r m B s6).1, (Cd.rep Cd.tx1r m B s6).2))) := by
          intro t c6 w6 hb hr hk
          refine ⟨hb.conv, ?_⟩
          have K6 := KW.out.trans hk
          obtain ⟨mv', w7, a1, a2, a3⟩ := Cd.Ow_es (O.out.kp hk (fun b e => by rw [e]; exact rl)) ⟨L.toArray⟩ dl K6.size
          have K7 := Cd.kp_below K6 a3 (Nat.le_refl _)
          refine ⟨mv', w7, a1, a2, H0.out.kp K7 (Bx.below hr.bx a3 rl) hr.le hr.fl, K7, ?_⟩
          rw [E1.out, List.append_assoc]
          rfl
        clear e1 E1 TX NX O KW H0 dl
        go_wp2_with (first
          | (go_at_call 66; refine N5.out.mono ?_; rintro e w5 ⟨rfl, g1, g2⟩; have R5 := hid g1; have K5 := hid g2; clear g1 g2 N5)
          | (go_at_call 65; refine (TX5.out _ R5.out).mono ?_; rintro e w6 ⟨t, c6, rfl, h1, h2, h3, h4, h5⟩; obtain ⟨cv, mv', w7, ap, o7, j7⟩ := FX.out t c6 w6 h1 h3 (K5.out.trans h4); have AP := hid ap; clear h1 h2 h3 h4 h5 ap TX5 FX R5 K5)
          | (at_builtin; refine wpList_append_d rfl _ _ rfl AP.out (by rfl) (by rfl) ?_; clear AP))
        go_roundg m
        case measure => omega
        case rel => exact ⟨_, s6, by rw [List.length_append]; simp; omega, o7, j7⟩
end Go.Proofs.YtnobafmleellhaaDoor
