/-
  code's reader: instructions.
-/
import Derived.Test.YtnobafmleellhaaDoorCdRg
namespace Go.Proofs.YtnobafmleellhaaDoor
open Go Go.RowKit Go.Deep Go.Shelf

namespace Cd
theorem Ow_en {w : World} {base : Nat} {mv : Value} {D : List In} (h : Re.Ow en 26 3 base w mv D) (x : In) (hn : D.length ≤ 1000000000000) (hb : base ≤ w.heap.size) :
    ∃ mv' w', (Builtin.append_ #[27, 27] 27 #[mv, .slice (some ⟨w.heap.size, 0, none⟩) 1 1]).run Tryd.prog (w.alloc (.cells #[.int .i64 x.w, .int .i64 x.a, .int .i64 x.b] 26)) = .ok mv' w' ∧ Re.Ow en 26 3 base w' mv' (D ++ [x]) ∧ Below base w w' := by
  obtain ⟨mv', w', e1, e2, e3, e4, e5⟩ := h.push (k := 3) en_len en_one (by omega) (P := Tryd.prog) 27 Tryd.underlying27 (z := .agg #[.int .i64 0, .int .i64 0, .int .i64 0]) (bytes := 24) cd_tinf (by omega) rfl x hn hb
  exact ⟨mv', w', e1, e2, e4⟩
theorem take_more {D : List In} {x : In} (h : D.length ≤ 131072) : D.take 131073 = D ∧ (D ++ [x]).take 131073 = D ++ [x] := ⟨List.take_of_length_le (by omega), List.take_of_length_le (by rw [List.length_append]; simp; omega)⟩
theorem take_full {D : List In} {x : In} (h : ¬ D.length ≤ 131072) : (D ++ [x]).take 131073 = D.take 131073 := List.take_append_of_le_length (by omega)
end Cd
theorem cd_min3 (x y : Nat) (w : World) : (Builtin.min_ #[3, 3, 3] 3 #[.int .i64 (x : Int), .int .i64 (y : Int), .int .i64 131073]).run Tryd.prog w = .ok (.int .i64 ((min (min x y) 131073 : Nat) : Int)) w := by
  have e : (if (131073 : Int) < (if (y : Int) < (x : Int) then (y : Int) else (x : Int)) then (131073 : Int) else (if (y : Int) < (x : Int) then (y : Int) else (x : Int))) = ((min (min x y) 131073 : Nat) : Int) := by
    split <;> split at * <;> omega
  rw [← e]
  simp [Builtin.min_, Builtin.min2]
set_option maxRecDepth 100000 in
set_option maxHeartbeats 8000000 in
theorem rinstrs_any {w : World} {rb : Nat} {q : Option Addr} {B : Ch.L8} {cap : Nat} {s : Cd.Rd} (h : Cd.RT w rb q B cap s) :
    Calls Tryd.prog 40 #[.pointer (some ⟨rb, 0, none⟩)] w fun e w' => ∃ mv base, e = .returned mv ∧ w.heap.size ≤ base ∧ Re.Ow Cd.en 26 3 base w' mv ((Cd.ins B s).1.take 131073) ∧ Cd.RT w' rb q B cap (Cd.ins B s).2 ∧ Re.Kp (fun b => b = rb) w w' := by
  have rl := h.bx.lt
  have hlen := h.len
  have NX : Hid (∀ W, Cd.RT W rb q B cap s → _) := fun W hs => rnumber_any hs
  have IX : Hid (∀ W tb s, tb ≠ rb → Cd.RT W rb q B cap s → Cd.TB W tb → _) := fun W tb s hne hs hT => rinstr_any hs hT hne
  have LX : Hid (∀ W s, Cd.RT W rb q B cap s → _) := fun W s hs => rleft_any hs
  have nl := Cd.nb_le B s
  obtain ⟨T, hT⟩ : ∃ T, Cd.ins B s = T := ⟨_, rfl⟩
  have T1 : Cd.rep Cd.in1 (Cd.nb B s).1 B (Cd.nb B s).2 = T := hT
  rw [hT]
  have H0 := hid h
  generalize Cd.nb B s = NB at *
  obtain ⟨n, s1⟩ := NB
  simp only at *
  have hn2 : (n : Int) ≤ 2147483647 := by omega
  have hn0 : (0 : Int) ≤ (n : Int) := by omega
  have WO := hid (fun W => cwords_any W)
  have LA := hid (fun W => cd_lay W)
  have TH := hid (fun W => cd_there W)
  clear hT h
  go_enter Tryd.func40, Tryd.ntmps40
  go_upto_region 2 with (first
    | (go_at_call 29; refine (WO.out _).mono ?_; rintro e w2 ⟨rfl, hB⟩; obtain ⟨W2, hW, hT, hB2⟩ := LA.out w2; have HW := hid hW; have T2 := hid hT; have B2 := hid (below_on hB hB2); have tz : w2.heap.size < W2.heap.size := hT.lt; have tr : w.heap.size ≤ w2.heap.size := hB.size; clear hB hB2 hW hT WO LA)
    | (refine wpList_store_to rfl 73 _ _ rfl w2.heap.size 0 _ rfl rfl (TH.out w2) cd_info cd_one HW.out ?_; clear TH HW))
  generalize w2.heap.size = tb at *
  have R2 := hid (H0.out.on B2.out)
  have K2 := hid (Re.Kp.of (S := fun b => b = rb) B2.out)
  have N2 := hid (NX.out W2 R2.out)
  have hne : tb ≠ rb := by omega
  clear NX
  go_upto_region 3 with (go_at_call 66; refine N2.out.mono ?_; rintro e w3 ⟨rfl, g1, g2⟩; have R3 := hid g1; have T3 := hid (Bx.kp (show Bx _ _ _ _ from T2.out) g2 hne); have K3 := hid (K2.out.trans g2); have sz3 := g2.size; clear g1 g2 N2)
  have L3 := hid (LX.out w3 s1 R3.out)
  have lb : B.length - s1.a ≤ 1099511627776 := by omega
  generalize B.length - s1.a = lf at *
  have lb2 : (lf : Int) ≤ 1099511627776 := by omega
  have lb0 : (0 : Int) ≤ (lf : Int) := by omega
  obtain ⟨base, hbase⟩ : ∃ base, W2.heap.size = base := ⟨_, rfl⟩
  rw [hbase] at tz sz3
  have wb : w.heap.size ≤ base := by omega
  clear R2 T2 B2 K2 LX
  obtain ⟨i, hi, hz⟩ := Option.map_eq_some_iff.1 cd_tinf
  simp only [Prod.mk.injEq] at hz
  obtain ⟨z1, z2, z3⟩ := hz
  have MI := fun W => cd_min3 n lf W
  have mb : min (min n lf) 131073 ≤ 131073 := by omega
  generalize min (min n lf) 131073 = mc at *
  have MK : Hid (∀ W : World, base ≤ W.heap.size → _) := fun W hW => cd_makeO Cd.en 27 26 i _ Tryd.underlying27 hi z1 z2 z3 mc base W (by omega) (by omega) hW
  clear hi z1 z2 z3 i
  go_wp2_with (go_at_call 67; refine L3.out.mono ?_; rintro e w4 ⟨rfl, g1⟩; have sz4 := g1.size; obtain ⟨w5, mk, o5, b5⟩ := MK.out w4 (by omega); have O5 := hid o5; have sz5 : base ≤ w5.heap.size := Nat.le_trans (Nat.le_trans sz3 sz4) b5.size; have R5 := hid ((R3.out.on g1).on b5); have T5 := hid (Bx.on (Bx.on (show Bx _ _ _ _ from T3.out) g1) b5); have K5 := hid ((K3.out.trans (Re.Kp.of g1)).trans (Re.Kp.of b5)); clear g1 L3 R3 T3 K3 MK o5 b5)
  have S0 : Hid (Cd.RT w5 rb q B cap s1 ∧ Re.Kp (fun b => b = rb) w w5 ∧ Cd.TB w5 tb ∧ T = ([] ++ (Cd.rep Cd.in1 n B s1).1, (Cd.rep Cd.in1 n B s1).2) ∧ base ≤ w5.heap.size) := ⟨R5.out, K5.out, T5.out, by rw [T1]; rfl, sz5⟩
  have O6 : Hid (Re.Ow Cd.en 26 3 base w5 (.slice (some ⟨w4.heap.size, 0, none⟩) 0 mc) (([] : List Cd.In).take 131073)) := by rw [List.take_nil]; exact O5.out
  clear T1 R5 K5 T5 O5 mk MI lb lb0 lb2 mb
  go_loopg [5, 6] n (fun m lv iv wr => ∃ D s', D.length + m = n ∧ iv = .int .i64 (D.length : Int) ∧ Hid (Re.Ow Cd.en 26 3 base wr lv (D.take 131073)) ∧ Hid (Cd.RT wr rb q B cap s' ∧ Re.Kp (fun b => b = rb) w wr ∧ Cd.TB wr tb ∧ T = (D ++ (Cd.rep Cd.in1 m B s').1, (Cd.rep Cd.in1 m B s').2) ∧ base ≤ wr.heap.size))
  case atStart => exact ⟨[], s1, by simp, rfl, O6, S0⟩
  case round =>
    obtain ⟨D, s', hD, rfl, O, J⟩ := hrel
    clear S0 O6
    obtain ⟨p, c, rfl⟩ := Cd.Ow_len O.out
    have dl : (D.take 131073).length ≤ 1000000000000 := by rw [List.length_take]; omega
    obtain ⟨dn, hdn⟩ : ∃ dn, (D.take 131073).length = dn := ⟨_, rfl⟩
    have hdM : Hid (dn = min 131073 D.length) := by rw [Hid, ← hdn, List.length_take]
    rw [hdn] at O ⊢
    clear hdn dl
    obtain ⟨k0, k1, k2, k3⟩ := Cd.bx4 J.out.1.bx
    cases hf : s'.f.isSome with
    | true =>
      rw [hf] at k2
      have e1 := J.out.2.2.2.1
      rw [Cd.rep_stop hf, List.append_nil] at e1
      have FT := hid e1
      have R := hid (And.intro J.out.1 J.out.2.1)
      by_cases hlt : (D.length : Int) < (n : Int)
      · clear J IX e1
        go_wp2_with fail
        go_ret
        rw [FT.out]
        exact ⟨_, rfl, base, wb, O.out, R.out⟩
      · clear J IX e1
        go_wp2_with fail
        go_ret
        rw [FT.out]
        exact ⟨_, rfl, base, wb, O.out, R.out⟩
    | false =>
      rw [hf] at k2
      cases gk with
      | zero =>
        have e1 := J.out.2.2.2.1
        rw [Cd.rep_zero, List.append_nil] at e1
        have FT := hid e1
        have R := hid (And.intro J.out.1 J.out.2.1)
        have hlt : ¬ (D.length : Int) < (n : Int) := by omega
        clear J IX e1
        go_wp2_with fail
        go_ret
        rw [FT.out]
        exact ⟨_, rfl, base, wb, O.out, R.out⟩
      | succ m =>
        have hlt : (D.length : Int) < (n : Int) := by omega
        have e1 := J.out.2.2.2.1
        rw [Cd.rep_more hf] at e1
        have N5 := hid (IX.out wr tb s' hne J.out.1 J.out.2.2.1)
        have KW := hid J.out.2.1
        have TW := hid J.out.2.2.1
        have ob := J.out.2.2.2.2
        clear J
        generalize Cd.in1 B s' = NB at *
        obtain ⟨⟨xw, xa, xb⟩, s6⟩ := NB
        simp only at *
        have E1 := hid e1
        have FX : Hid (∀ w6 : World, Cd.RT w6 rb q B cap s6 → Re.Kp (fun b => b = rb) wr w6 → Cd.RT (w6.alloc (.cells #[.int .i64 xw, .int .i64 xa, .int .i64 xb] 26)) rb q B cap s6 ∧ Re.Kp (fun b => b = rb) w (w6.alloc (.cells #[.int .i64 xw, .int .i64 xa, .int .i64 xb] 26)) ∧ Cd.TB (w6.alloc (.cells #[.int .i64 xw, .int .i64 xa, .int .i64 xb] 26)) tb ∧ Re.Ow Cd.en 26 3 base (w6.alloc (.cells #[.int .i64 xw, .int .i64 xa, .int .i64 xb] 26)) (.slice p dn c) (D.take 131073) ∧ Bx (w6.alloc (.cells #[.int .i64 xw, .int .i64 xa, .int .i64 xb] 26)) w6.heap.size 26 #[.int .i64 xw, .int .i64 xa, .int .i64 xb] ∧ base ≤ (w6.alloc (.cells #[.int .i64 xw, .int .i64 xa, .int .i64 xb] 26)).heap.size) := by
          intro w6 hr hk
          have al := alloc_b w6 (.cells #[.int .i64 xw, .int .i64 xa, .int .i64 xb] 26)
          exact ⟨hr.on al, (KW.out.trans hk).trans (Re.Kp.of al), Bx.on (Bx.kp (show Bx _ _ _ _ from TW.out) hk hne) al, (O.out.kp hk (fun b e => by rw [e]; omega)).below al, Bx.new w6 26 _, by have := hk.size; have := al.size; omega⟩
        have dn0 : (0 : Int) ≤ (dn : Int) := by omega
        clear e1 IX O KW TW ob
        go_upto_region 8 with (go_at_call 68; refine N5.out.mono ?_; rintro e w6 ⟨rfl, g1, g2⟩; have G6 := hid (FX.out w6 g1 g2); clear g1 g2 N5 FX)
        generalize w6.alloc (.cells #[.int .i64 xw, .int .i64 xa, .int .i64 xb] 26) = w7 at *
        generalize w6.heap.size = bi at *
        clear k0 k1 k2 k3
        obtain ⟨k0, k1, k2⟩ := bx3 G6.out.2.2.2.2.1
        by_cases hd : D.length ≤ 131072
        · have hdi : (dn : Int) ≤ 131072 := by have := hdM.out; omega
          obtain ⟨t1, t2⟩ := Cd.take_more (x := ⟨xw, xa, xb⟩) hd
          have O7 := G6.out.2.2.2.1
          rw [t1] at O7
          obtain ⟨mv', w8, a1, a2, a3⟩ := Cd.Ow_en O7 ⟨xw, xa, xb⟩ (by omega) G6.out.2.2.2.2.2
          rw [← t2] at a2
          have AP := hid a1
          have O8 := hid a2
          have K8 := Cd.kp_below G6.out.2.1 a3 wb
          have J8 : Hid (Cd.RT w8 rb q B cap s6 ∧ Re.Kp (fun b => b = rb) w w8 ∧ Cd.TB w8 tb ∧ T = ((D ++ [(⟨xw, xa, xb⟩ : Cd.In)]) ++ (Cd.rep Cd.in1 m B s6).1, (Cd.rep Cd.in1 m B s6).2) ∧ base ≤ w8.heap.size) :=
            ⟨H0.out.kp K8 (Bx.below G6.out.1.bx a3 (by omega)) G6.out.1.le G6.out.1.fl, K8, Bx.below (show Bx _ _ _ _ from G6.out.2.2.1) a3 tz, by rw [E1.out, List.append_assoc]; rfl, Nat.le_trans G6.out.2.2.2.2.2 a3.size⟩
          clear a1 a2 a3 t1 t2 O7 K8 G6 E1 H0 hd
          go_wp2_with (at_builtin; refine wpList_append_d rfl _ _ rfl AP.out (by rfl) (by rfl) ?_; clear AP)
          go_roundg m
          case measure => omega
          case rel => exact ⟨D ++ [(⟨xw, xa, xb⟩ : Cd.In)], s6, by rw [List.length_append]; simp; omega, by rw [List.length_append]; go_num, O8, J8⟩
        · have hdi : ¬ (dn : Int) ≤ 131072 := by have := hdM.out; omega
          have t1 := Cd.take_full (x := ⟨xw, xa, xb⟩) hd
          have O7 : Hid (Re.Ow Cd.en 26 3 base w7 (.slice p dn c) ((D ++ [(⟨xw, xa, xb⟩ : Cd.In)]).take 131073)) := by rw [t1]; exact G6.out.2.2.2.1
          have J7 : Hid (Cd.RT w7 rb q B cap s6 ∧ Re.Kp (fun b => b = rb) w w7 ∧ Cd.TB w7 tb ∧ T = ((D ++ [(⟨xw, xa, xb⟩ : Cd.In)]) ++ (Cd.rep Cd.in1 m B s6).1, (Cd.rep Cd.in1 m B s6).2) ∧ base ≤ w7.heap.size) :=
            ⟨G6.out.1, G6.out.2.1, G6.out.2.2.1, by rw [E1.out, List.append_assoc]; rfl, G6.out.2.2.2.2.2⟩
          clear t1 G6 E1 H0 hd
          go_wp2_with fail
          go_roundg m
          case measure => omega
          case rel => exact ⟨D ++ [(⟨xw, xa, xb⟩ : Cd.In)], s6, by rw [List.length_append]; simp; omega, by rw [List.length_append]; go_num, O7, J7⟩
end Go.Proofs.YtnobafmleellhaaDoor
