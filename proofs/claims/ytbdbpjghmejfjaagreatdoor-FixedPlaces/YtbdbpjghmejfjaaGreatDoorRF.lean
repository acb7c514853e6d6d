/-
  Texts put together: FExact2, FRow3, FAll, NSub, NRead, FNat, FLawA.
-/
import Derived.Test.YtbdbpjghmejfjaaGreatDoorRE
import Derived.Deep.RegionHeld3
import Derived.Test.YtbdbpjghmejfjaaGreatDoorRD
import Derived.Laws.ResultCell
import Derived.Test.YtbdbpjghmejfjaaGreatDoorRB
import Derived.Test.YtbdbpjghmejfjaaGreatDoorWalk2a
import Derived.Test.YtbdbpjghmejfjaaGreatDoorRA
import Derived.Test.YtbdbpjghmejfjaaGreatDoorNFrom
import Derived.Test.YtbdbpjghmejfjaaGreatDoorBitW
import Derived.BigQuiet
namespace Go.Proofs.YtbdbpjghmejfjaaGreatDoor
open Go Go.RowKit Go.Deep

/-- What exact tells. -/
def ExTold (d : Int) (w : World) (e : Ending) (w' : World) : Prop :=
  ∃ s, e = .returned (.tuple #[.string s, .int .i64 (Fx.ed (Ie.dm d) (Ie.de d))]) ∧ Str s (Fx.xd (Ie.dm d) (Ie.de d)) ∧ Below w.heap.size w w'

theorem ExTold.of {d : Int} {w w' : World} {s : ByteArray} {xs : List Int} {E : Int} (hm : 0 ≤ Ie.dm d) (h : Fx.Ex (Ie.dm d) (Ie.de d) xs E) (hs : Str s xs) (hB : Below w.heap.size w w') : ExTold d w (.returned (.tuple #[.string s, .int .i64 E])) w' := by
  obtain ⟨e1, e2⟩ := h.is hm
  exact ⟨s, by rw [e2], by rw [← e1]; exact hs, hB⟩

set_option maxRecDepth 100000 in
set_option maxHeartbeats 4000000 in
theorem exact_any (d : Int) (w : World) (hT : Tab w) (h0 : 0 ≤ d) (h1 : d < 18446744073709551616) (hf : Ie.cls d < 3) :
    Calls Tryz.prog 26 #[.int .u64 d] w fun e w' => ExTold d w e w' := by
  have D := hid (decode_any d w h0 h1)
  obtain ⟨m0, m1, e0, e1, mz⟩ := Ie.fdec d hf
  have FIN : Hid (∀ (w' : World) (s : ByteArray) (xs : List Int) (E : Int), Fx.Ex (Ie.dm d) (Ie.de d) xs E → Str s xs → Below w.heap.size w w' → ExTold d w (.returned (.tuple #[.string s, .int .i64 E])) w') := fun w' s xs E h hs hB => .of m0 h hs hB
  have HT := hid hT
  simp only [partsOf] at D
  generalize decide (9223372036854775808 ≤ d) = neg at *
  generalize Ie.dm d = m at *
  generalize Ie.de d = x at *
  generalize Ie.cls d = c at *
  clear hT h0 h1 hf
  by_cases hc : c = 0
  · subst hc
    have hm := mz.1 rfl
    subst hm
    have F0 : Hid (∀ (w' : World), Below w.heap.size w w' → ExTold d w (.returned (.tuple #[.string ⟨#[48]⟩, .int .i64 0])) w') := fun w' hB => FIN.out w' _ [48] 0 ⟨by omega, fun _ => ⟨rfl, rfl⟩, fun h => by omega, fun h => by omega⟩ rfl hB
    clear FIN mz HT
    go_enter Tryz.func26, Tryz.ntmps26
    go_wp2_with fail
    refine D.out.mono ?_
    rintro e w1 ⟨rfl, hB⟩
    have K := hid (F0.out _ (hB.trans ((alloc_b w1 (.cells #[.bool neg, .int .i64 0, .int .u64 0, .int .i64 x] 57)).mono hB.size)))
    clear hB F0 D
    go_wp2_with fail
    go_ret2
    exact K.out
  · have hc' : (c == 0) = false := by rw [beq_eq_false_iff_ne]; exact hc
    have hm : 0 < m := by rcases (show m = 0 ∨ 0 < m by omega) with h | h; exact absurd (mz.2 h) hc; exact h
    have TZ : Hid (∀ wx : World, Tab wx → Calls Tryz.prog 46 #[.int .u64 m] wx fun e w' => ∃ (t : Nat) (q : Int), e = .returned (.int .i64 t) ∧ t ≤ 63 ∧ Hid (m = 2 ^ t * q ∧ 0 < q ∧ q % 2 = 1) ∧ m / 2 ^ t = q ∧ 0 ≤ q ∧ q < 9007199254740992 ∧ w' = wx) := by
      intro wx hT
      refine (tz64 m wx hm (by omega) hT).mono ?_
      rintro e w' ⟨t, q, rfl, ht, hq, rfl⟩
      have hq' : m = 2 ^ t * (2 * q + 1) := hq
      have p2 : (0 : Int) < 2 ^ t := Int.pow_pos (by omega)
      have qp : 0 < 2 * q + 1 := by
        rcases (show 2 * q + 1 ≤ 0 ∨ 0 < 2 * q + 1 by omega) with h | h
        · have := Int.mul_nonpos_of_nonneg_of_nonpos (Int.le_of_lt p2) h
          omega
        · exact h
      have dv' : m / 2 ^ t = 2 * q + 1 := by rw [hq']; exact Int.mul_ediv_cancel_left _ (by omega)
      refine ⟨t, 2 * q + 1, rfl, ht, ⟨hq', qp, by omega⟩, dv', by omega, ?_, rfl⟩
      have : (1 : Int) * (2 * q + 1) ≤ 2 ^ t * (2 * q + 1) := Int.mul_le_mul_of_nonneg_right p2 (by omega)
      omega
    have XB := hid (And.intro e0 e1)
    clear mz hc hm
    go_enter Tryz.func26, Tryz.ntmps26
    go_wp2_with fail
    refine D.out.mono ?_
    rintro e w1 ⟨rfl, hB1⟩
    have HB1 := hid hB1
    clear hB1 D
    go_upto_region 4 with fail
    have hb := HB1.out.trans ((alloc_b w1 (.cells #[.bool neg, .int .i64 c, .int .u64 m, .int .i64 x] 57)).mono HB1.out.size)
    have P := Row4.new w1 57 (.bool neg) (.int .i64 c) (.int .u64 m) (.int .i64 x)
    obtain ⟨SS, KS, CS, BS, MS⟩ := state (fun w' => (w'.cell? ⟨w1.heap.size, 2, none⟩ = some (.int .u64 m) ∧ w'.cell? ⟨w1.heap.size, 3, none⟩ = some (.int .i64 x)) ∧ Tab w') w (((Stays.cell _ _).and (Stays.cell _ _)).and Stays.tab)
    have S0 := hid (MS.out _ ⟨⟨P.cells.1.2.2.1, P.cells.1.2.2.2⟩, HT.out.below hb⟩ hb)
    clear P hb HT HB1 MS
    generalize w1.alloc (.cells #[.bool neg, .int .i64 c, .int .u64 m, .int .i64 x] 57) = wA at *
    generalize w1.heap.size = b at *
    have CC : Hid (∀ wx : World, SS wx → (wx.cell? ⟨b, 2, none⟩ = some (.int .u64 m) ∧ wx.cell? ⟨b, 3, none⟩ = some (.int .i64 x))) := fun wx h => (CS.out wx h).1
    have T0 := hid (TZ.out _ (CS.out _ S0.out).2)
    obtain ⟨p2, p3⟩ := CC.out _ S0.out
    clear CS TZ
    go_wp2_with fail
    refine T0.out.mono ?_
    rintro e wz ⟨t, q, rfl, ht, HQ, dq, q0, q1, hz⟩
    replace hz := hz.symm
    subst hz
    have FU := hid (fun (wx : World) => fromUint_any q wx q0 (by omega))
    obtain ⟨y, hy⟩ : ∃ y, x + (t : Int) = y := ⟨_, rfl⟩
    have WK : IntKind.i64.wrap (x + (t : Int)) = y := by rw [IntKind.wrap_i64]; omega
    have WN : IntKind.i64.wrap y = y := by rw [IntKind.wrap_i64]; omega
    clear T0
    have S1 := hid (KS.out _ _ S0.out (drew_nil _))
    go_upto_region 5 with fail
    go_region_held3 (fun w' => w'.cell? ⟨b, 2, none⟩ = some (.int .u64 m) ∧ w'.cell? ⟨b, 3, none⟩ = some (.int .i64 x)) (first | (with_reducible exact CC.out _ S2.out) | (with_reducible exact CC.out _ S1.out)) (first
      | (go_at_call 33; refine (FU.out _).mono ?_; rintro e w2 ⟨p, os, rfl, A, hB⟩; have S2 := hid (KS.out _ _ S1.out hB); have A2 := hid A; clear hB A))
    all_goals
      by_cases hy0 : y < 0
      · obtain ⟨n, hn⟩ : ∃ n : Nat, -y = (n : Int) := ⟨(-y).toNat, by omega⟩
        have hn0 : (n : Int) ≤ 1074 := by omega
        have BH := hid (behind_any p os _ q (n : Int) n w2 A2.out HQ.out.2.1 (by omega) rfl (by omega))
        have KK : Hid (∀ (w3 : World) (s : ByteArray) (xs : List Int), DigT (q * 5 ^ n) s xs → Below w2.heap.size w2 w3 → ExTold d w (.returned (.tuple #[.string s, .int .i64 y])) w3) := by
          intro w3 s xs D hB
          refine FIN.out w3 s xs y ?_ D.str ((BS.out _ S2.out).trans (hB.mono (BS.out _ S2.out).size))
          rw [← hy]
          exact ex_odd HQ.out.1 HQ.out.2.1 HQ.out.2.2 XB.out.1 (by omega) D
        clear FIN A2 FU S0 S1 CC HQ dq hy WK p2 p3
        go_wp2_with fail
        refine BH.out.mono ?_
        rintro e w3 ⟨s, xs, rfl, D, hB⟩
        have K := hid (KK.out w3 s xs D hB)
        clear D hB KK BH
        go_wp2_with fail
        go_ret2
        exact K.out
      · obtain ⟨n, hn⟩ : ∃ n : Nat, y = (n : Int) := ⟨y.toNat, by omega⟩
        have hn0 : (n : Int) ≤ 1034 := by omega
        have room : q * 2 ^ n < 10 ^ (20 + n) := by
          have h1 := f2_10 n
          have h0 : (0 : Int) < 2 ^ n := Int.pow_pos (by omega)
          have h2 : q * 2 ^ n < 9007199254740992 * 2 ^ n := Int.mul_lt_mul_of_pos_right q1 h0
          rw [Int.pow_add]
          have e : (10 : Int) ^ 20 = 100000000000000000000 := by decide
          rw [e]
          omega
        have r0 : q < Nm.pw 4096 := Int.lt_trans (show q < 10 ^ 20 by rw [show (10 : Int) ^ 20 = 100000000000000000000 by decide]; omega) (fp10_pw (by omega))
        have SH := fshl_any p _ _ os (n : Int) n w2 (A2.out.argT r0) (A2.out.tsT r0) rfl (by rw [A2.out.2.2.2.1]; exact Int.lt_trans room (fp10_pw (by omega)))
        rw [A2.out.2.2.2.1] at SH
        have HS := hid SH
        have DG : Hid (∀ (w1 : World) (r : Option Addr) (zs : List Int) (B : Nat), Ans B w1 r zs (q * 2 ^ n) → Calls Tryz.prog 48 #[.slice r (List.length zs) (List.length zs)] w1 fun e w' => ∃ s xs, e = .returned (.tuple #[.string s, .int .i64 0]) ∧ DigT (q * 2 ^ n) s xs ∧ Below w1.heap.size w1 w') :=
          fun w1 r zs B A1 => fdigits_any r zs B _ w1 (20 + n) A1 (Int.mul_pos HQ.out.2.1 (Int.pow_pos (by omega))) (by omega) room
        have KK : Hid (∀ (w3 : World) (s s' : ByteArray) (xs : List Int) (k : Nat), DigT (q * 2 ^ n) s xs → Str s' (xs.take k) → k ≤ xs.length → (∀ i, k ≤ i → i < xs.length → xs.getD i 0 = 48) → (0 < k → xs.getD (k - 1) 0 ≠ 48) → Below w.heap.size w w3 → ExTold d w (.returned (.tuple #[.string s', .int .i64 ((s.size : Int) - (s'.size : Int))])) w3) := by
          intro w3 s s' xs k D hs hk g0 gl hB
          have z1 : s.size = xs.length := D.str.size
          have z2 : s'.size = k := by rw [hs.size, List.length_take]; omega
          rw [z1, z2]
          exact FIN.out w3 s' (xs.take k) _ (ex_whole HQ.out.1 HQ.out.2.1 XB.out.1 (by omega) D hk g0 gl) hs hB
        have hy1 : ¬ (n : Int) < 0 := by omega
        subst hn
        clear FIN A2 FU S0 S1 CC HQ dq hy WK p2 p3 SH room r0 hy0
        generalize q * 2 ^ n = T at *
        go_wp2_with fail
        refine HS.out.mono ?_
        rintro e w3 ⟨r, zs, rfl, A3, B3⟩
        have D3 := hid (DG.out w3 r zs _ A3)
        have HB3 := hid ((BS.out _ S2.out).trans (B3.mono (BS.out _ S2.out).size))
        clear A3 B3 HS DG
        go_wp2_with fail
        refine D3.out.mono ?_
        rintro e w4 ⟨s, xs, rfl, D4, B4⟩
        have HB4 := hid (HB3.out.trans (B4.mono HB3.out.size))
        have HD := hid D4
        have TR := hid (frtrim0_any s xs w4 D4.str (by have := D4.len; omega))
        have sz1 : (s.size : Int) ≤ 3000 := by have := D4.str.size; have := D4.len; omega
        clear D4 B4 D3 HB3
        go_wp2_with fail
        refine TR.out.mono ?_
        rintro e w5 ⟨⟨s', k, rfl, g1, g2, g3, g4⟩, hz⟩
        have sz2 : (s'.size : Int) ≤ (s.size : Int) := by rw [g1.size, HD.out.str.size, List.length_take]; omega
        have K := hid (KK.out w5 s s' xs k HD.out g1 g2 g3 g4 (by rw [hz]; exact HB4.out))
        clear g1 g2 g3 g4 hz TR KK HD HB4
        go_wp2_with fail
        go_ret2
        exact K.out
end Go.Proofs.YtbdbpjghmejfjaaGreatDoor

namespace Go.Proofs.YtbdbpjghmejfjaaGreatDoor
open Go Go.RowKit Go.Deep

theorem fset1 {w : World} {b o t : Nat} {v : Value} {c c' : Array Value} (h : w.heap[b]? = some (.cells c t (0, 0))) (e : c.setIfInBounds o v = c') : (w.setCell ⟨b, o, none⟩ v).heap[b]? = some (.cells c' t (0, 0)) := by
  subst e
  simp [World.setCell, Array.getElem?_modify, h]


/-- Three cells that may be written. -/
def FR3 (w : World) (b : Nat) (v0 v1 v2 : Value) : Prop := w.heap[b]? = some (.cells #[v0, v1, v2] 48 (0, 0))
theorem FR3.new (w : World) (v0 v1 v2 : Value) : FR3 (w.alloc (.cells #[v0, v1, v2] 48)) w.heap.size v0 v1 v2 := heap_alloc_new w _
theorem FR3.below {B : Nat} {w w' : World} {b : Nat} {v0 v1 v2 : Value} (h : FR3 w b v0 v1 v2) (hB : Below B w w') (hb : b < B) : FR3 w' b v0 v1 v2 := by
  rw [FR3, hB.block b hb]; exact h
theorem FR3.lt {w : World} {b : Nat} {v0 v1 v2 : Value} (h : FR3 w b v0 v1 v2) : b < w.heap.size := by
  rcases Nat.lt_or_ge b w.heap.size with hl | hl
  · exact hl
  · simp [FR3, Array.getElem?_eq_none hl] at h
theorem FR3.cells {w : World} {b : Nat} {v0 v1 v2 : Value} (h : FR3 w b v0 v1 v2) :
    (w.cell? ⟨b, 0, none⟩ = some v0 ∧ w.cell? ⟨b, 1, none⟩ = some v1 ∧ w.cell? ⟨b, 2, none⟩ = some v2) ∧
    (w.frozen? ⟨b, 0, none⟩ = false ∧ w.frozen? ⟨b, 1, none⟩ = false ∧ w.frozen? ⟨b, 2, none⟩ = false) := by
  simp only [FR3] at h
  refine ⟨⟨?_, ?_, ?_⟩, ⟨?_, ?_, ?_⟩⟩ <;> simp [World.cell?, World.frozen?, h]
theorem FR3.put {w : World} {b : Nat} {v0 v1 v2 : Value} (h : FR3 w b v0 v1 v2) (u0 u1 u2 : Value) :
    FR3 (((w.setCell ⟨b, 0, none⟩ u0).setCell ⟨b, 1, none⟩ u1).setCell ⟨b, 2, none⟩ u2) b u0 u1 u2 := by
  have h0 := fset1 (o := 0) (v := u0) (c' := #[u0, v1, v2]) h (by simp [Array.setIfInBounds])
  have h1 := fset1 (o := 1) (v := u1) (c' := #[u0, u1, v2]) h0 (by simp [Array.setIfInBounds])
  exact fset1 (o := 2) (v := u2) (c' := #[u0, u1, u2]) h1 (by simp [Array.setIfInBounds])
theorem FR3.far {w : World} {b c o : Nat} {v v0 v1 v2 : Value} (h : FR3 w b v0 v1 v2) (hc : c ≠ b) : FR3 (w.setCell ⟨c, o, none⟩ v) b v0 v1 v2 := by
  simp only [FR3] at *
  simp only [World.setCell, Array.getElem?_modify]
  rw [if_neg hc]; exact h
theorem fset3_below {B : Nat} {w w' : World} {b : Nat} {u0 u1 u2 : Value} (h : Below B w w') (hb : B ≤ b) : Below B w (((w'.setCell ⟨b, 0, none⟩ u0).setCell ⟨b, 1, none⟩ u1).setCell ⟨b, 2, none⟩ u2) :=
  ((h.setCell (p := ⟨b, 0, none⟩) hb u0).setCell (p := ⟨b, 1, none⟩) hb u1).setCell (p := ⟨b, 2, none⟩) hb u2


theorem fresults_row_tmp {P : Program} {fn : Func} {p u : Tmp} {ty : TypeId} (h : fn.results = #[.cell p ty, .tmp u]) (tmps : Array Value) (w : World) (g : Nat) (t : TypeId) (cs : Array Value) (fr : Nat × Nat) (d : TypeDesc)
    (hp : tmps.getD p undef = .pointer (some ⟨g, 0, none⟩)) (hg : w.heap[g]? = some (.cells cs t fr))
    (hu : P.underlying ty = some d) (hd : (match d with | .struct _ | .array _ _ => true | _ => false) = true) (hi : (P.info? ty).map (·.size) = some cs.size) :
    (results fn tmps).run P w = .ok (.tuple #[.agg cs, tmps.getD u undef]) w := by
  rw [results_cell_tmp h, hp]
  simp [asAddr, run_loadVar_row w g t ty cs fr d hg hu hd hi, Result.andThen]

end Go.Proofs.YtbdbpjghmejfjaaGreatDoor

namespace Go.Proofs.YtbdbpjghmejfjaaGreatDoor
open Go Go.RowKit Go.Deep

namespace Fx
/-- The exact digits of a double, and their power. -/
noncomputable def X (d : Int) : List Int := xd (Ie.dm d) (Ie.de d)
noncomputable def P (d : Int) : Int := ed (Ie.dm d) (Ie.de d)
/-- What All answers. -/
noncomputable def aS (d : Int) : List Int := if Ie.fnt d = true then X d else []
noncomputable def aE (d : Int) : Int := if Ie.fnt d = true then P d else 0
def aN (d : Int) : Bool := Ie.fnt d && decide (9223372036854775808 ≤ d)
def aR (d : Int) : Int := if Ie.fnt d = true then 0 else 5

theorem X_ex {d : Int} (h : Ie.fnt d = true) : Ex (Ie.dm d) (Ie.de d) (X d) (P d) := ex_is (Ie.fdec d (of_decide_eq_true h)).1
theorem X_digs {d : Int} (h : Ie.fnt d = true) : Digs (X d) ∧ X d ≠ [] := (X_ex h).digs (Ie.fdec d (of_decide_eq_true h)).1
theorem X_zero {d : Int} (h : Ie.fnt d = true) (hz : Ie.dm d = 0) : X d = [48] ∧ P d = 0 := (X_ex h).zero hz
theorem X_room {d : Int} (h : Ie.fnt d = true) : -323 ≤ (X d).length + P d ∧ (X d).length + P d ≤ 309 ∧ -1074 ≤ P d ∧ (X d).length ≤ 1383 ∧ 1 ≤ (X d).length := by
  obtain ⟨m0, m1, e0, e1, _⟩ := Ie.fdec d (of_decide_eq_true h)
  have lo := (X_ex h).lo
  have l1 := List.length_pos_iff.2 (X_digs h).2
  rcases (show Ie.dm d = 0 ∨ 0 < Ie.dm d by omega) with c | c
  · obtain ⟨a, b⟩ := X_zero h c
    rw [a, b] at *
    simp
  · have r := (X_ex h).room c m1 e1
    omega
end Fx

def AllTold (d : Int) (w : World) (e : Ending) (w' : World) : Prop :=
  ∃ s, e = .returned (.tuple #[.agg #[.bool (Fx.aN d), .string s, .int .i64 (Fx.aE d)], .int .i64 (Fx.aR d)]) ∧ Str s (Fx.aS d) ∧ Below w.heap.size w w'

theorem and_sign (d : Int) (h0 : 0 ≤ d) (h1 : d < 18446744073709551616) : (bits .and .u64 d 9223372036854775808 != 0) = decide (9223372036854775808 ≤ d) := by
  rw [Ib.sign_and d h0 h1]
  rcases (show d < 9223372036854775808 ∨ 9223372036854775808 ≤ d by omega) with c | c
  · have e : d / 9223372036854775808 = 0 := by omega
    rw [e]
    simp
    omega
  · have e : d / 9223372036854775808 = 1 := by omega
    rw [e]
    simp [c]

set_option maxRecDepth 100000 in
set_option maxHeartbeats 2000000 in
theorem fall_any (d : Int) (w : World) (hT : Tab w) (h0 : 0 ≤ d) (h1 : d < 18446744073709551616) :
    Calls Tryz.prog 21 #[.int .u64 d] w fun e w' => AllTold d w e w' := by
  have FN := hid (fun wx : World => ffinite_any d wx h0 h1)
  have Z := FR3.new w (.bool false) (.string ⟨#[]⟩) (.int .i64 0)
  have ZB := alloc_b w (.cells #[.bool false, .string ⟨#[]⟩, .int .i64 0] 48)
  by_cases hf : Ie.fnt d = true
  · have G : Hid (∀ (w' : World) (s : ByteArray), Str s (Fx.X d) → Below w.heap.size w w' → AllTold d w (.returned (.tuple #[.agg #[.bool (decide (9223372036854775808 ≤ d)), .string s, .int .i64 (Fx.P d)], .int .i64 0])) w') := by
      intro w' s hs hB
      refine ⟨s, ?_, by rw [Fx.aS, if_pos hf]; exact hs, hB⟩
      rw [Fx.aN, Fx.aE, Fx.aR, if_pos hf, if_pos hf, hf, Bool.true_and]
    have EX : Hid (∀ wx : World, Tab wx → Calls Tryz.prog 26 #[.int .u64 d] wx fun e w' => ExTold d wx e w') := fun wx h => exact_any d wx h h0 h1 (of_decide_eq_true hf)
    have AS := and_sign d h0 h1
    have E1 := hid (EX.out _ (hT.below ZB))
    have HZ := hid (And.intro Z ZB)
    rw [hf] at FN
    clear Z ZB EX hT h0 h1 hf
    unfold ExTold at E1
    rw [← Fx.X, ← Fx.P] at E1
    generalize Fx.X d = X at *
    generalize Fx.P d = P at *
    generalize decide (9223372036854775808 ≤ d) = sn at *
    go_enter Tryz.func21, Tryz.ntmps21
    go_wp2_with fail
    refine (FN.out _).mono ?_
    rintro e wz ⟨rfl, hz⟩
    replace hz := hz.symm
    subst hz
    go_wp2_with fail
    refine E1.out.mono ?_
    rintro e w1 ⟨s, rfl, hs, hB⟩
    have Z1 := hid (HZ.out.1.below hB HZ.out.1.lt)
    have B1 := hid (HZ.out.2.trans (hB.mono HZ.out.2.size))
    have K := hid (G.out _ s hs (fset3_below (u0 := .bool sn) (u1 := .string s) (u2 := .int .i64 P) B1.out (Nat.le_refl _)))
    obtain ⟨⟨c0, c1, c2⟩, f0, f1, f2⟩ := Z1.out.cells
    clear hs hB HZ G E1 FN
    go_wp2_with fail
    (try simp only [Exit.inBlock, Exit.then])
    refine bodyPost_ret (fresults_row_tmp rfl _ _ w.heap.size 48 _ (0, 0) _ rfl (Z1.out.put _ _ _) Tryz.underlying48 rfl (by kernel_rfl)) rfl ?_
    exact K.out
  · have hf' : Ie.fnt d = false := by simpa using hf
    have G : Hid (∀ (w' : World), Below w.heap.size w w' → AllTold d w (.returned (.tuple #[.agg #[.bool false, .string ⟨#[]⟩, .int .i64 0], .int .i64 5])) w') := by
      intro w' hB
      refine ⟨⟨#[]⟩, ?_, by rw [Fx.aS, if_neg hf]; rfl, hB⟩
      rw [Fx.aN, Fx.aE, Fx.aR, if_neg hf, if_neg hf, hf', Bool.false_and]
    rw [hf'] at FN
    have HZ := hid (And.intro Z ZB)
    have K := hid (G.out _ ZB)
    obtain ⟨⟨c0, c1, c2⟩, f0, f1, f2⟩ := Z.cells
    clear Z ZB hT h0 h1 hf hf' G
    go_enter Tryz.func21, Tryz.ntmps21
    go_wp2_with fail
    refine (FN.out _).mono ?_
    rintro e wz ⟨rfl, hz⟩
    replace hz := hz.symm
    subst hz
    go_wp2_with fail
    (try simp only [Exit.inBlock, Exit.then])
    refine bodyPost_ret (fresults_row_tmp rfl _ _ w.heap.size 48 _ (0, 0) _ rfl HZ.out.1 Tryz.underlying48 rfl (by kernel_rfl)) rfl ?_
    exact K.out
end Go.Proofs.YtbdbpjghmejfjaaGreatDoor

namespace Go.Proofs.YtbdbpjghmejfjaaGreatDoor
open Go.RowKit Go.Deep

set_option maxHeartbeats 1000000 in
theorem subFrom_any (g k : Nat) (zs : List Int) (q : Option Addr) (m cap : Nat) (ys : List Int) (w : World) (hk : zs.length = k) (hkm : k ≤ 35184372088832) (ho : Own w g zs) (hl : Nm.Limbs zs)
    (hm : ys.length = m) (hmk : m ≤ k) (hy : Lies w q ys) (hly : Nm.Limbs ys) (hq : 0 < ys.length → ∀ a, q = some a → a.block < g) (hT : 0 ≤ Nm.val zs - Nm.val ys) :
    Calls Tryz.prog 39 #[.slice (some ⟨g, 0, none⟩) k k, .slice q m cap] w fun e w' => e = .returned (.tuple #[]) ∧ Wrote g k (Nm.val zs - Nm.val ys) w w' := by
  rcases hy with rfl | ⟨b, off, rfl, hcell⟩
  · have hm0 : m = 0 := by simpa using hm.symm
    subst hm0
    have E : Wrote g k (Nm.val zs - Nm.val []) w w := ⟨zs, ho, hk, hl, by simp [Nm.val], Below.refl _ _, rfl⟩
    clear ho hl hT hq hm hk
    go_enter Tryz.func39, Tryz.ntmps39
    go_wp2
    refine wp_loop_rounds 1 ?_
    rw [rounds_succ]
    go_wp2
    refine wp_loop_rounds 1 ?_
    rw [rounds_succ]
    go_wp2
    go_end0
    exact ⟨rfl, E⟩
  · have hbg : 0 < ys.length → b < g := fun h => hq h _ rfl
    have I0 : AddInv g k w (Nm.val zs - Nm.val (ys.take 0)) 0 (-0) zs w := ⟨ho, hk, hl, by simp [Nm.val], Below.refl _ _, rfl⟩
    have HC : Hid (∀ i, i < ys.length → w.cell? ⟨b, off + i, none⟩ = some (.int .u64 (ys.getD i 0))) := hcell
    have HM : Hid (ys.length = m) := hm
    have HT : Hid (0 ≤ Nm.val zs - Nm.val ys) := hT
    have HY : Hid (Nm.Limbs ys) := hly
    clear hcell hm hT hly hq ho hk hl
    go_enter Tryz.func39, Tryz.ntmps39
    go_wp2
    go_loopw [4, 10] (fun c i wr => ∃ (j : Nat) (cc : Int) (os : List Int), j ≤ m ∧ i = .int .i64 j ∧ c = .int .u64 cc ∧ 0 ≤ cc ∧ cc ≤ 1 ∧ AddInv g k w (Nm.val zs - Nm.val (ys.take j)) j (-cc) os wr) (fun _ i _ => m - (intOf i).toNat)
    case atStart => exact ⟨0, 0, zs, Nat.zero_le _, rfl, rfl, by omega, by omega, I0⟩
    case round =>
      clear I0
      obtain ⟨j, cc, os, hj, rfl, rfl, hc0, hc1, I⟩ := hrel
      by_cases hlt : j < m
      · obtain ⟨x, hx, X⟩ : ∃ x, wr.cell? ⟨b, off + j, none⟩ = some (.int .u64 x) ∧ Hid (x = ys.getD j 0) :=
          ⟨_, (I.2.2.2.2.1.cell (p := ⟨b, off + j, none⟩) (hbg (by have := HM.out; omega))).trans (HC.out j (by have := HM.out; omega)), rfl⟩
        obtain ⟨y, hyc, Y⟩ : ∃ y, wr.cell? ⟨g, j, none⟩ = some (.int .u64 y) ∧ Hid (y = os.getD j 0) := ⟨_, I.1.cell j (by have := I.2.1; omega), rfl⟩
        have hfr := I.1.free j
        have hx0 := HY.out.at j
        rw [← X.out] at hx0
        obtain ⟨hx0, hx1⟩ := hx0
        have hy0 := I.2.2.1.at j
        rw [← Y.out] at hy0
        obtain ⟨hy0, hy1⟩ := hy0
        obtain ⟨s, c', hs, hc', E⟩ := sub_names y x cc hy0 hy1 hx0 hx1 hc0 hc1
        have hjk : (j : Int) < (k : Int) := by omega
        go_wp2_with (simp only [sub64' y x cc s c' hy0 hy1 hx0 hx1 hc0 hc1 hs hc' E.out])
        go_roundw
        case rel =>
          have hst := I.down (by omega) (x := -x) (s := s) (c' := -c') hs (by rw [← Y.out]; exact E.out)
          refine ⟨j + 1, c', os.set j s, by omega, by go_num, rfl, hc'.1, hc'.2, ?_⟩
          have e : Nm.val zs - Nm.val (ys.take (j + 1)) = Nm.val zs - Nm.val (ys.take j) + Nm.pw j * (-x) := by
            rw [Nm.val_take_succ ys j (by have := HM.out; omega), ← X.out, Int.mul_neg]
            omega
          rw [e]
          exact hst
        case measure => simp [intOf]; omega
      · have hjm : j = m := by omega
        subst hjm
        rw [List.take_of_length_le (by have := HM.out; omega)] at I
        go_wp2
        go_loopw [4, 7] (fun c i wr => ∃ (t : Nat) (cc : Int) (os : List Int), t ≤ k ∧ i = .int .i64 t ∧ c = .int .u64 cc ∧ 0 ≤ cc ∧ cc ≤ 1 ∧ AddInv g k w (Nm.val zs - Nm.val ys) t (-cc) os wr) (fun _ i _ => k - (intOf i).toNat)
        case atStart => exact ⟨j, cc, os, hmk, rfl, rfl, hc0, hc1, I⟩
        case round =>
          clear I hc0 hc1
          obtain ⟨t, cc, os, ht, rfl, rfl, hc0, hc1, I⟩ := hrel
          by_cases hz : cc = 0
          · subst hz
            have E : Wrote g k (Nm.val zs - Nm.val ys) w wr := ⟨os, I.1, I.2.1, I.2.2.1, by have := I.2.2.2.1; simp at this; omega, I.2.2.2.2.1, I.2.2.2.2.2⟩
            clear I
            go_wp2
            go_end0
            exact ⟨rfl, E⟩
          · have htk := I.stop HT.out (by omega)
            have htk' : (t : Int) < (k : Int) := by omega
            obtain ⟨y, hyc, Y⟩ : ∃ y, wr.cell? ⟨g, t, none⟩ = some (.int .u64 y) ∧ Hid (y = os.getD t 0) := ⟨_, I.1.cell t (by have := I.2.1; omega), rfl⟩
            have hfr := I.1.free t
            have hy0 := I.2.2.1.at t
            rw [← Y.out] at hy0
            obtain ⟨hy0, hy1⟩ := hy0
            obtain ⟨s, c', hs, hc', E⟩ := sub_names y 0 cc hy0 hy1 (by omega) (by omega) hc0 hc1
            go_wp2_with (simp only [sub64' y 0 cc s c' hy0 hy1 (Int.le_refl 0) (by decide) hc0 hc1 hs hc' E.out])
            go_roundw
            case rel =>
              have hst := I.down (by omega) (x := -0) (s := s) (c' := -c') hs (by rw [← Y.out]; exact E.out)
              rw [Int.neg_zero, Int.mul_zero, Int.add_zero] at hst
              exact ⟨t + 1, c', os.set t s, by omega, by go_num, rfl, hc'.1, hc'.2, hst⟩
            case measure => simp [intOf]; omega

theorem Arg.trim {w : World} {p : Option Addr} {n cap : Nat} {zs : List Int} (h : Arg w p n cap zs) : Arg w p (Nm.tsize zs) (Nm.tsize zs) (Nm.trim zs) :=
  ⟨Nm.trim_length zs, Nat.le_refl _, by have := h.tl; have := h.2.1; have := h.2.2.1; omega, h.2.2.2.1.trim, h.2.2.2.2.trim⟩

set_option maxHeartbeats 1000000 in
theorem sub_ok (p q : Option Addr) (n cap m cap' : Nat) (zs ys : List Int) (w : World) (ha : Arg w p n cap zs) (hb : Arg w q m cap' ys) (tz : Nm.tsize zs ≤ 4096) (hle : Nm.val ys ≤ Nm.val zs) :
    Calls Tryz.prog 16 #[.slice p n cap, .slice q m cap'] w fun e w' => ∃ r os, e = .returned (.tuple #[.slice r (List.length os) (List.length os), .int .i64 0]) ∧ Ans w.heap.size w' r os (Nm.val zs - Nm.val ys) ∧ Below w.heap.size w w' := by
  have hs : Nm.val zs < Nm.pw 4096 := (Nm.tsize_le_iff ha.2.2.2.2 4096).1 tz
  have y0 := (Nm.val_bd ys hb.2.2.2.2).1
  have ty : Nm.tsize ys ≤ 4096 := (Nm.tsize_le_iff hb.2.2.2.2 4096).2 (by omega)
  have tyz : Nm.tsize ys ≤ Nm.tsize zs := by
    have h1 := Nm.val_lt_tsize ha.2.2.2.2
    exact (Nm.tsize_le_iff hb.2.2.2.2 _).2 (by omega)
  have AT := hid ha.trim
  have BT := hid hb.trim
  obtain ⟨a1, a2, a3, a4, a5⟩ := ha
  obtain ⟨b1, b2, b3, b4, b5⟩ := hb
  obtain ⟨c, C⟩ : ∃ c, Hid (cmpI (Nm.val (Nm.trim zs)) (Nm.val (Nm.trim ys)) = c) := ⟨_, rfl⟩
  have hc : ¬ c < 0 := by
    rw [← C.out, Nm.val_trim, Nm.val_trim]
    unfold cmpI
    rw [if_neg (by omega)]
    split <;> omega
  have V : Hid (Nm.val (Nm.trim zs) - Nm.val (Nm.trim ys) = Nm.val zs - Nm.val ys) := by rw [Hid, Nm.val_trim, Nm.val_trim]
  have HS : Hid (0 ≤ Nm.val (Nm.trim zs) - Nm.val (Nm.trim ys) ∧ Nm.val (Nm.trim zs) - Nm.val (Nm.trim ys) < Nm.pw 4096) := by rw [Hid, Nm.val_trim, Nm.val_trim]; omega
  clear hs y0 hle
  go_enter Tryz.func16, Tryz.ntmps16
  go_wp2_with fail
  refine (pair_ok p q n cap m cap' zs ys _ a1 a2 (by omega) a4 tz b1 b2 (by omega) b4 ty).mono ?_
  rintro e w' ⟨rfl, rfl⟩
  go_wp2_with fail
  refine (cmp_is c p q _ _ _ _ (Nm.trim zs) (Nm.trim ys) _ AT.out BT.out C.out).mono ?_
  rintro e w1 ⟨rfl, hb1⟩
  have D1 := hid hb1
  clear hb1
  go_wp2_with fail
  refine (widened_any p (Nm.tsize zs) (Nm.tsize zs) 0 0 (Nm.trim zs) _ rfl (Nm.trim_length zs) (by omega) (AT.out.below D1.out (Nat.le_refl _)).2.2.2.1).mono ?_
  rintro e w2 ⟨rfl, ho, hb1, hz1⟩
  rw [List.replicate_zero, List.append_nil] at ho
  have HO := hid ho
  have D2 := hid hb1
  have S1 := hid D1.out.size
  clear ho hb1 hz1
  go_wp2_with fail
  refine (subFrom_any w1.heap.size (Nm.tsize zs) (Nm.trim zs) q (Nm.tsize ys) (Nm.tsize ys) (Nm.trim ys) _ (Nm.trim_length zs) (by omega) HO.out a5.trim (Nm.trim_length ys) tyz ((BT.out.below D1.out (Nat.le_refl _)).2.2.2.1.below D2.out (Nat.le_refl _)) b5.trim (fun h0 => (BT.out.below D1.out (Nat.le_refl _)).2.2.2.1.lt h0) HS.out.1).mono ?_
  rintro e w3 ⟨rfl, hw⟩
  obtain ⟨os, o1, o2, o3, o4, o5, o6⟩ := hw
  have HO3 := hid o1
  have O4 := hid o4
  have HB2 := hid o5
  clear o1 o4 o5 o6
  go_wp2_with fail
  refine (limited_own w1.heap.size (Nm.tsize zs) os _ o2 (by omega) HO3.out o3 w'.heap.size S1.out (by rw [O4.out]; exact HS.out.2)).mono ?_
  rintro e w4 ⟨r, xs, rfl, hans, rfl⟩
  rw [O4.out, V.out] at hans
  have HA := hid hans
  clear hans
  go_wp2_with fail
  go_ret2
  exact ⟨r, xs, rfl, HA.out, D1.out.trans ((D2.out.trans HB2.out).mono S1.out)⟩

set_option maxHeartbeats 1000000 in
theorem sub_below (p q : Option Addr) (n cap m cap' : Nat) (zs ys : List Int) (w : World) (ha : Arg w p n cap zs) (hb : Arg w q m cap' ys) (tz : Nm.tsize zs ≤ 4096) (ty : Nm.tsize ys ≤ 4096) (hlt : Nm.val zs < Nm.val ys) :
    Calls Tryz.prog 16 #[.slice p n cap, .slice q m cap'] w fun e w' => e = .returned (.tuple #[.slice none 0 0, .int .i64 10]) ∧ Below w.heap.size w w' := by
  have AT := hid ha.trim
  have BT := hid hb.trim
  obtain ⟨a1, a2, a3, a4, a5⟩ := ha
  obtain ⟨b1, b2, b3, b4, b5⟩ := hb
  have C := hid (cmpI_lt hlt)
  rw [← Nm.val_trim zs, ← Nm.val_trim ys] at C
  clear hlt
  go_enter Tryz.func16, Tryz.ntmps16
  go_wp2_with fail
  refine (pair_ok p q n cap m cap' zs ys _ a1 a2 (by omega) a4 tz b1 b2 (by omega) b4 ty).mono ?_
  rintro e w' ⟨rfl, rfl⟩
  go_wp2_with fail
  refine (cmp_is _ p q _ _ _ _ (Nm.trim zs) (Nm.trim ys) _ AT.out BT.out C.out).mono ?_
  rintro e w1 ⟨rfl, hb1⟩
  have D1 := hid hb1
  clear hb1
  go_wp2_with fail
  go_ret2
  exact ⟨rfl, D1.out⟩
end Go.Proofs.YtbdbpjghmejfjaaGreatDoor

namespace Go.Proofs.YtbdbpjghmejfjaaGreatDoor
open Go.RowKit Go.Deep

theorem wv_map {xs : List Int} (h : Digs xs) : xs.map wv = xs.map (fun d => d - 48) := List.map_congr_left (fun x hx => wv_dig (h x hx))

set_option maxRecDepth 100000 in
theorem read_any (s : ByteArray) (xs : List Int) (w : World) (hs : Str s xs) (hl : xs.length ≤ 140737488355328) (hd : Digs xs) (h0 : xs ≠ []) (hv : dv xs < Nm.pw 4096) :
    Calls Tryz.prog 13 #[.string s] w fun e w' => ∃ r os, e = .returned (.tuple #[.slice r (List.length os) (List.length os), .int .i64 0, .int .i64 0]) ∧ Ans w.heap.size w' r os (dv xs) ∧ Below w.heap.size w w' := by
  have FB : Hid (Calls Tryz.prog 32 #[.string s, .int .i64 10] w fun e w' => ∃ r os, e = .returned (.tuple #[.slice r (List.length os) (List.length os), .int .i64 0, .int .i64 0]) ∧ Ans w.heap.size w' r os (dv xs) ∧ Below w.heap.size w w') := by
    refine (fromBase_any s xs 10 w hs hl (by omega) (by omega)).mono ?_
    rintro e w' ⟨r, os, at_, E, rfl, h, d⟩
    have ev : Dn.tv 10 0 (xs.map wv) = dv xs := by rw [wv_map hd]; rfl
    cases h with
    | base h => omega
    | empty _ _ h => exact absurd h h0
    | digit t _ _ h1 _ h3 =>
      have := digs_at hd t h1
      rw [wv_dig this] at h3
      omega
    | big _ _ _ _ h =>
      rw [ev] at h
      exact absurd hv (Int.not_lt.2 h)
    | ok r os _ _ _ _ _ h =>
      rw [ev] at h
      exact ⟨r, os, rfl, h, d⟩
  clear hs hl hd h0 hv
  go_enter Tryz.func13, Tryz.ntmps13
  go_wp2_with fail
  refine FB.out.mono ?_
  rintro e w1 ⟨r, os, rfl, A1, d1⟩
  have F := hid (And.intro A1 d1)
  clear A1 d1 FB
  go_wp2_with fail
  go_ret3
  exact ⟨r, os, rfl, F.out⟩

end Go.Proofs.YtbdbpjghmejfjaaGreatDoor

namespace Go.Proofs.YtbdbpjghmejfjaaGreatDoor
open Go Go.RowKit Go.Deep

/-- A number in its limbs, which fits. -/
structure Nn (w : World) (p : Option Addr) (os : List Int) (x : Int) : Prop where
  ans : ∃ B, Ans B w p os x
  fit : x < Nm.pw 4096

theorem Nn.of {B : Nat} {w : World} {p : Option Addr} {os : List Int} {x : Int} (h : Ans B w p os x) (hx : x < Nm.pw 4096) : Nn w p os x := ⟨⟨B, h⟩, hx⟩
theorem Nn.arg {w : World} {p : Option Addr} {os : List Int} {x : Int} (h : Nn w p os x) : Arg w p os.length os.length os := by obtain ⟨B, A⟩ := h.ans; exact A.argT h.fit
theorem Nn.ts {w : World} {p : Option Addr} {os : List Int} {x : Int} (h : Nn w p os x) : Nm.tsize os ≤ 4096 := by obtain ⟨B, A⟩ := h.ans; exact A.tsT h.fit
theorem Nn.val {w : World} {p : Option Addr} {os : List Int} {x : Int} (h : Nn w p os x) : Nm.val os = x := by obtain ⟨B, A⟩ := h.ans; exact A.2.2.2.1
theorem Nn.on {w w' : World} {p : Option Addr} {os : List Int} {x : Int} (h : Nn w p os x) (hB : Below w.heap.size w w') : Nn w' p os x := by obtain ⟨B, A⟩ := h.ans; exact ⟨⟨B, A.below hB (Nat.le_refl _)⟩, h.fit⟩

/-- What a call tells that makes a number. -/
def NnTold (x : Int) (w : World) (e : Ending) (w' : World) : Prop := ∃ r os, e = .returned (.tuple #[.slice r (List.length os) (List.length os), .int .i64 0]) ∧ Nn w' r os x ∧ Below w.heap.size w w'

theorem nmul_any {w : World} {p q : Option Addr} {os zs : List Int} {x y : Int} (A : Nn w p os x) (C : Nn w q zs y) (h : x * y < Nm.pw 4096) :
    Calls Tryz.prog 31 #[.slice p (List.length os) (List.length os), .slice q (List.length zs) (List.length zs)] w fun e w' => NnTold (x * y) w e w' := by
  refine (mul_ok p q _ _ _ _ os zs w A.arg C.arg A.ts C.ts (by rw [A.val, C.val]; exact h)).mono ?_
  rintro e w' ⟨r, ys, rfl, R, hB⟩
  rw [A.val, C.val] at R
  exact ⟨r, ys, rfl, .of R h, hB⟩

theorem nshl_any {w : World} {p : Option Addr} {os : List Int} {x k : Int} {n : Nat} (A : Nn w p os x) (hk : k = (n : Int)) (h : x * 2 ^ n < Nm.pw 4096) :
    Calls Tryz.prog 15 #[.slice p (List.length os) (List.length os), .int .i64 k] w fun e w' => NnTold (x * 2 ^ n) w e w' := by
  refine (fshl_any p _ _ os k n w A.arg A.ts hk (by rw [A.val]; exact h)).mono ?_
  rintro e w' ⟨r, ys, rfl, R, hB⟩
  rw [A.val] at R
  exact ⟨r, ys, rfl, .of R h, hB⟩

theorem nsub_any {w : World} {p q : Option Addr} {os zs : List Int} {x y : Int} (A : Nn w p os x) (C : Nn w q zs y) (y0 : 0 ≤ y) (h : y ≤ x) :
    Calls Tryz.prog 16 #[.slice p (List.length os) (List.length os), .slice q (List.length zs) (List.length zs)] w fun e w' => NnTold (x - y) w e w' := by
  refine (sub_ok p q _ _ _ _ os zs w A.arg C.arg A.ts (by rw [A.val, C.val]; exact h)).mono ?_
  rintro e w' ⟨r, ys, rfl, R, hB⟩
  rw [A.val, C.val] at R
  exact ⟨r, ys, rfl, .of R (by have := A.fit; omega), hB⟩

theorem nsub_low {w : World} {p q : Option Addr} {os zs : List Int} {x y : Int} (A : Nn w p os x) (C : Nn w q zs y) (h : x < y) :
    Calls Tryz.prog 16 #[.slice p (List.length os) (List.length os), .slice q (List.length zs) (List.length zs)] w fun e w' => e = .returned (.tuple #[.slice none 0 0, .int .i64 10]) ∧ Below w.heap.size w w' :=
  sub_below p q _ _ _ _ os zs w A.arg C.arg A.ts C.ts (by rw [A.val, C.val]; exact h)

theorem ncmp_any {w : World} {p q : Option Addr} {os zs : List Int} {x y : Int} (A : Nn w p os x) (C : Nn w q zs y) :
    Calls Tryz.prog 17 #[.slice p (List.length os) (List.length os), .slice q (List.length zs) (List.length zs)] w fun e w' => e = .returned (.int .i64 (cmpI x y)) ∧ Below w.heap.size w w' := by
  have := cmp_any p q _ _ _ _ os zs w A.arg C.arg
  rw [A.val, C.val] at this
  exact this

theorem nbit_any {w : World} {p : Option Addr} {os : List Int} {x : Int} (A : Nn w p os x) :
    Calls Tryz.prog 18 #[.slice p (List.length os) (List.length os), .int .i64 0] w fun e w' => e = .returned (.int .i64 (x % 2)) ∧ w' = w := by
  have := bit_any p _ _ os 0 0 w A.arg (by omega) rfl
  rw [A.val, Int.pow_zero, Int.ediv_one] at this
  exact this

theorem nread_any {s : ByteArray} {xs : List Int} (w : World) (hs : Str s xs) (hl : xs.length ≤ 20000) (hd : Digs xs) (h0 : xs ≠ []) :
    Calls Tryz.prog 13 #[.string s] w fun e w' => ∃ r os, e = .returned (.tuple #[.slice r (List.length os) (List.length os), .int .i64 0, .int .i64 0]) ∧ Nn w' r os (dv xs) ∧ Below w.heap.size w w' := by
  have hv : dv xs < Nm.pw 4096 := Int.lt_trans (dv_bd hd).2 (fp10_pw hl)
  refine (read_any s xs w hs (by omega) hd h0 hv).mono ?_
  rintro e w' ⟨r, os, rfl, A, hB⟩
  exact ⟨r, os, rfl, .of A hv, hB⟩

theorem npow10_any (k : Int) (n : Nat) (w : World) (hk : k = (n : Int)) (hn : n ≤ 20000) :
    Calls Tryz.prog 29 #[.int .i64 k] w fun e w' => NnTold (10 ^ n) w e w' := by
  refine (fpow10_ok k n w hk hn).mono ?_
  rintro e w' ⟨r, os, rfl, A, hB⟩
  exact ⟨r, os, rfl, .of A (fp10_pw hn), hB⟩

theorem u64_pw {x : Int} (h : x < 18446744073709551616) : x < Nm.pw 4096 :=
  Int.lt_trans (show x < 10 ^ 20 by rw [show (10 : Int) ^ 20 = 100000000000000000000 by decide]; omega) (fp10_pw (by omega))

theorem nfrom_any (x : Int) (w : World) (h0 : 0 ≤ x) (h1 : x < 18446744073709551616) :
    Calls Tryz.prog 33 #[.int .u64 x] w fun e w' => ∃ r os, e = .returned (.slice r (List.length os) (List.length os)) ∧ Nn w' r os x ∧ Below w.heap.size w w' := by
  refine (fromUint_any x w h0 h1).mono ?_
  rintro e w' ⟨r, os, rfl, A, hB⟩
  exact ⟨r, os, rfl, .of A (u64_pw h1), hB⟩

/-- A literal of one limb. -/
theorem nlit (w : World) {x : Int} (h0 : 0 < x) (h1 : x < 18446744073709551616) : Nn (w.alloc (.cells #[.int .u64 x] 24)) (some ⟨w.heap.size, 0, none⟩) [x] x :=
  .of (B := w.heap.size) ⟨(Own.alloc w [x]).lies, limb_one ⟨by omega, h1⟩, by simp [Nm.tsize]; omega, by simp [Nm.val], fun a h => by cases h; exact Nat.le_refl _⟩ (u64_pw h1)
end Go.Proofs.YtbdbpjghmejfjaaGreatDoor

namespace Go.Proofs.YtbdbpjghmejfjaaGreatDoor
open Go Go.RowKit Go.Deep

theorem fnt_abs (d : Int) : decide (d % 9223372036854775808 < 9218868437227405312) = Ie.fnt d := by
  unfold Ie.fnt Ie.cls Ie.fld
  by_cases h : d % 9223372036854775808 < 9218868437227405312
  · rw [decide_eq_true h]
    symm
    rw [decide_eq_true_iff]
    split
    · split <;> omega
    · rw [if_neg (by omega)]; omega
  · rw [decide_eq_false h]
    symm
    rw [decide_eq_false_iff_not]
    rw [if_neg (by omega), if_pos (by omega)]
    split <;> omega

set_option maxRecDepth 100000 in
theorem lfinite_any (d : Int) (w : World) (h0 : 0 ≤ d) (h1 : d < 18446744073709551616) :
    Calls Tryz.prog 11 #[.int .u64 d] w fun e w' => e = .returned (.bool (Ie.fnt d)) ∧ w' = w := by
  have B := Ib.sign_andNot d h0 h1
  have E := hid (fnt_abs d)
  generalize d % 9223372036854775808 = a at *
  clear h0 h1
  go_enter Tryz.func11, Tryz.ntmps11
  go_wp2_with fail
  go_ret
  exact ⟨fretB E.out, rfl⟩

namespace Fx
def top (d : Int) (n : Nat) : Int := Ie.dm d * 10 ^ n * 2 ^ (Ie.de d).toNat
def dn (d : Int) : Nat := (-(Ie.de d)).toNat
theorem top_room {m : Int} {n k : Nat} (m0 : 0 ≤ m) (m1 : m < 9007199254740992) : m * 10 ^ n < 10 ^ (20 + n) ∧ m * 10 ^ n * 2 ^ k < 10 ^ (20 + n + k) := by
  have a1 : m * 10 ^ n ≤ 9007199254740992 * 10 ^ n := Int.mul_le_mul_of_nonneg_right (by omega) (Int.le_of_lt (p_pos n))
  have a2 : (10 : Int) ^ (20 + n) = 100000000000000000000 * 10 ^ n := by rw [Int.pow_add]; rfl
  have a3 := p_pos n
  have b : m * 10 ^ n < 10 ^ (20 + n) := by omega
  refine ⟨b, ?_⟩
  rw [Int.pow_add _ (20 + n) k]
  have c1 := f2_10 k
  have c0 : (0 : Int) < 2 ^ k := Int.pow_pos (by omega)
  have c2 : m * 10 ^ n * 2 ^ k < 10 ^ (20 + n) * 2 ^ k := Int.mul_lt_mul_of_pos_right b c0
  have c3 : (10 : Int) ^ (20 + n) * 2 ^ k ≤ 10 ^ (20 + n) * 10 ^ k := Int.mul_le_mul_of_nonneg_left c1 (Int.le_of_lt (p_pos _))
  omega
end Fx

def ScaledTold (d : Int) (n : Nat) (w : World) (e : Ending) (w' : World) : Prop :=
  ∃ r os, e = .returned (.tuple #[.slice r (List.length os) (List.length os), .int .i64 (Fx.dn d : Int)]) ∧ Nn w' r os (Fx.top d n) ∧ Below w.heap.size w w'

set_option maxRecDepth 100000 in
set_option maxHeartbeats 4000000 in
theorem scaled_any (d : Int) (n : Nat) (w : World) (h0 : 0 ≤ d) (h1 : d < 18446744073709551616) (hf : Ie.fnt d = true) (hn : n ≤ 5000) :
    Calls Tryz.prog 14 #[.int .u64 d, .int .i64 (n : Int)] w fun e w' => ScaledTold d n w e w' := by
  have D := hid (decode_any d w h0 h1)
  obtain ⟨m0, m1, e0, e1, -⟩ := Ie.fdec d (of_decide_eq_true hf)
  have PT := hid (fun wx : World => npow10_any (n : Int) n wx rfl (by omega))
  have FU := hid (fun wx : World => nfrom_any (Ie.dm d) wx m0 (by omega))
  have HR := hid (Fx.top_room (m := Ie.dm d) (n := n) (k := (Ie.de d).toNat) m0 m1)
  have FIN : Hid (∀ (w' : World) (r : Option Addr) (os : List Int) (y : Int), y = (Fx.dn d : Int) → Nn w' r os (Ie.dm d * 10 ^ n * 2 ^ (Ie.de d).toNat) → Below w.heap.size w w' → ScaledTold d n w (.returned (.tuple #[.slice r (List.length os) (List.length os), .int .i64 y])) w') := fun w' r os y hy h hB => ⟨r, os, by rw [hy], h, hB⟩
  unfold Fx.dn at FIN
  simp only [partsOf] at D
  generalize decide (9223372036854775808 ≤ d) = neg at *
  generalize Ie.dm d = m at *
  generalize Ie.de d = x at *
  generalize Ie.cls d = c at *
  clear h0 h1 hf
  have MU : Hid (∀ (wx : World) (p q : Option Addr) (os zs : List Int), Nn wx p os m → Nn wx q zs (10 ^ n) → Calls Tryz.prog 31 #[.slice p (List.length os) (List.length os), .slice q (List.length zs) (List.length zs)] wx fun e w' => NnTold (m * 10 ^ n) wx e w') :=
    fun wx p q os zs A C => nmul_any A C (Int.lt_trans HR.out.1 (fp10_pw (by omega)))
  have SH : Hid (∀ (wx : World) (p : Option Addr) (os : List Int), 0 ≤ x → Nn wx p os (m * 10 ^ n) → Calls Tryz.prog 15 #[.slice p (List.length os) (List.length os), .int .i64 x] wx fun e w' => NnTold (m * 10 ^ n * 2 ^ x.toNat) wx e w') :=
    fun wx p os hx A => nshl_any A (by omega) (Int.lt_trans HR.out.2 (fp10_pw (by omega)))
  have TZ : Hid (x < 0 → m * 10 ^ n * 2 ^ x.toNat = m * 10 ^ n) := fun h => by rw [show x.toNat = 0 by omega, Int.pow_zero, Int.mul_one]
  clear HR
  generalize m * 10 ^ n = M at *
  generalize M * 2 ^ x.toNat = Y at *
  generalize (10 : Int) ^ n = G at *
  go_enter Tryz.func14, Tryz.ntmps14
  go_wp2_with fail
  refine D.out.mono ?_
  rintro e w1 ⟨rfl, hB1⟩
  have HB1 := hid hB1
  clear hB1 D
  go_upto_region 2 with fail
  have hb := HB1.out.trans ((alloc_b w1 (.cells #[.bool neg, .int .i64 c, .int .u64 m, .int .i64 x] 57)).mono HB1.out.size)
  have P := Row4.new w1 57 (.bool neg) (.int .i64 c) (.int .u64 m) (.int .i64 x)
  obtain ⟨SS, KS, CS, BS, MS⟩ := state (fun w' => w'.cell? ⟨w1.heap.size, 2, none⟩ = some (.int .u64 m) ∧ w'.cell? ⟨w1.heap.size, 3, none⟩ = some (.int .i64 x)) w ((Stays.cell _ _).and (Stays.cell _ _))
  have S0 := hid (MS.out _ ⟨P.cells.1.2.2.1, P.cells.1.2.2.2⟩ hb)
  clear P hb HB1 MS
  generalize w1.alloc (.cells #[.bool neg, .int .i64 c, .int .u64 m, .int .i64 x] 57) = wA at *
  generalize w1.heap.size = b at *
  go_wp2_with fail
  refine (PT.out _).mono ?_
  rintro e w2 ⟨q, zs, rfl, A2, B2⟩
  have S2 := hid (KS.out _ _ S0.out B2)
  have HA2 := hid A2
  obtain ⟨p2, p3⟩ := CS.out _ S2.out
  clear A2 B2 S0 PT
  go_wp2_with fail
  refine (FU.out _).mono ?_
  rintro e w3 ⟨p, os, rfl, A3, B3⟩
  have S3 := hid (KS.out _ _ S2.out B3)
  have M3 := hid (MU.out w3 p q os zs A3 (HA2.out.on B3))
  clear A3 B3 S2 HA2 FU MU p2 p3
  obtain ⟨p2, p3⟩ := CS.out _ S3.out
  go_wp2_with fail
  refine M3.out.mono ?_
  rintro e w4 ⟨r, ys, rfl, A4, B4⟩
  have S4 := hid (KS.out _ _ S3.out B4)
  have HA4 := hid A4
  clear A4 B4 S3 M3 p2 p3
  obtain ⟨p2, p3⟩ := CS.out _ S4.out
  by_cases hx : 0 ≤ x
  · have S5 := hid (SH.out w4 r ys hx HA4.out)
    have ZR : Hid (0 = ((-x).toNat : Int)) := by show _ = _; omega
    clear SH TZ
    go_wp2_with fail
    refine S5.out.mono ?_
    rintro e w5 ⟨r5, y5, rfl, A5, B5⟩
    have K := hid (FIN.out w5 r5 y5 0 ZR.out A5 ((BS.out _ S4.out).trans (B5.mono (BS.out _ S4.out).size)))
    clear p2 p3 A5 B5 S5 FIN
    go_wp2_with fail
    go_ret2
    exact K.out
  · have TZ2 := TZ.out (by omega)
    subst TZ2
    have K := hid (fun nq : Nat => FIN.out (w4.drewN nq) r ys (-x) (by omega) (HA4.out.on (below_drewN (Below.refl _ _) nq)) (below_drewN (BS.out _ S4.out) nq))
    clear SH TZ FIN
    go_upto_region 7 with fail
    go_quiet (fail)
    go_wp2_with fail
    go_ret2
    exact K.out _
end Go.Proofs.YtbdbpjghmejfjaaGreatDoor
