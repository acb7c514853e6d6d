/-
  Texts put together: NMem, NToU, NSpread0.
-/
import Derived.Test.YtbdilikdenhnkaaDoorWalk5a
import Derived.Test.YtbdilikdenhnkaaDoorNums
import Derived.BigRegion
namespace Go.Proofs.YtbdilikdenhnkaaDoor
open Go.RowKit Go.Deep

def OwnB (w : World) (g : Nat) (zs : List Int) : Prop := w.heap[g]? = some (.cells (zs.map (Value.int .u8)).toArray 5 (0, 0))

theorem OwnB.cell {w : World} {g : Nat} {zs : List Int} (h : OwnB w g zs) (i : Nat) (hi : i < zs.length) : w.cell? ⟨g, i, none⟩ = some (.int .u8 (zs.getD i 0)) := by
  simp only [OwnB] at h
  simp [World.cell?, h, List.getD, hi]

theorem OwnB.free {w : World} {g : Nat} {zs : List Int} (h : OwnB w g zs) (i : Nat) : w.frozen? ⟨g, i, none⟩ = false := by
  simp only [OwnB] at h
  simp [World.frozen?, h]

theorem OwnB.lt {w : World} {g : Nat} {zs : List Int} (h : OwnB w g zs) : g < w.heap.size := by
  rcases Nat.lt_or_ge g w.heap.size with hl | hl
  · exact hl
  · simp [OwnB, Array.getElem?_eq_none hl] at h

theorem OwnB.set {w : World} {g : Nat} {zs : List Int} (h : OwnB w g zs) (i : Nat) (s : Int) : OwnB (w.setCell ⟨g, i, none⟩ (.int .u8 s)) g (zs.set i s) := by
  have hl := h.lt
  simp only [OwnB] at h ⊢
  simp [World.setCell, Array.getElem?_modify, h, List.map_set]

theorem OwnB.below {w w' : World} {B g : Nat} {zs : List Int} (h : OwnB w g zs) (hb : Below B w w') (hg : g < B) : OwnB w' g zs := by
  simp only [OwnB] at h ⊢
  rw [hb.block g hg, h]

theorem OwnB.drewN {w : World} {g : Nat} {zs : List Int} (h : OwnB w g zs) (n : Nat) : OwnB (w.drewN n) g zs := h

theorem OwnB.alloc (w : World) (zs : List Int) : OwnB (w.alloc (.cells (zs.map (Value.int .u8)).toArray 5)) w.heap.size zs := by
  show (w.heap.push _)[w.heap.size]? = _
  rw [Array.getElem?_push, if_pos rfl]

theorem made_zero8 (n : Nat) : madeCells #[Value.int .u8 0] n = ((List.replicate n (0 : Int)).map (Value.int .u8)).toArray := by
  apply Array.toList_inj.1
  rw [toList_madeCells_one]
  simp

theorem info8 : (Tryd.prog.info? 5).map (fun i => (i.zero, i.size, i.bytes)) = some (some (.int .u8 0), 1, 1) := by kernel_rfl

/-- make([]byte, n). -/
theorem make8 (n : Nat) (h : n ≤ 35184372088832) (w : World) :
    (Instr.makeSlice 53 (.int .i64 (n : Int)) (.int .i64 (n : Int))).run Tryd.prog w = .ok (.slice (some ⟨w.heap.size, 0, none⟩) n n) (w.alloc (.cells (madeCells #[.int .u8 0] n) 5)) :=
  run_make_row' 53 5 (.int .u8 0) 1 Tryd.underlying53 info8 rfl .i64 .i64 n (by omega) (by omega) w

/-- Only the block g, and new ones, have changed. -/
structure Only (g : Nat) (w w' : World) : Prop where
  os : w'.os = w.os
  tape : w'.tape = w.tape
  output : w'.output = w.output
  size : w.heap.size ≤ w'.heap.size
  block : ∀ j, j < w.heap.size → j ≠ g → w'.heap[j]? = w.heap[j]?

theorem Only.refl (g : Nat) (w : World) : Only g w w := ⟨rfl, rfl, rfl, Nat.le_refl _, fun _ _ _ => rfl⟩
theorem Only.trans {g : Nat} {a b c : World} (h : Only g a b) (k : Only g b c) : Only g a c :=
  ⟨k.os.trans h.os, k.tape.trans h.tape, k.output.trans h.output, Nat.le_trans h.size k.size, fun i hi hs => (k.block i (Nat.lt_of_lt_of_le hi h.size) hs).trans (h.block i hi hs)⟩
theorem Only.of_below {g : Nat} {a b : World} (h : Below a.heap.size a b) : Only g a b := ⟨h.os, h.tape, h.output, h.size, fun i hi _ => h.block i hi⟩
theorem Only.below {g B : Nat} {a b : World} (h : Only g a b) (hg : B ≤ g) (hB : B ≤ a.heap.size) : Below B a b := ⟨h.os, h.tape, h.output, h.size, fun i hi => h.block i (by omega) (by omega)⟩
theorem Only.set {w : World} {g : Nat} (i : Nat) (v : Value) : Only g w (w.setCell ⟨g, i, none⟩ v) := by
  refine ⟨rfl, rfl, rfl, by simp [World.setCell], fun j _ hne => ?_⟩
  simp only [World.setCell, Array.getElem?_modify]
  rw [if_neg (fun h => hne h.symm)]
theorem Only.drewN {g : Nat} {a b : World} (h : Only g a b) (n : Nat) : Only g a (b.drewN n) := ⟨h.os, h.tape, h.output, h.size, h.block⟩
theorem Only.cell {g : Nat} {a b : World} (h : Only g a b) {p : Addr} {v : Value} (hc : a.cell? p = some v) (hp : p.block ≠ g) : b.cell? p = some v := by
  have := h.block p.block (cell_lt hc) hp
  rw [← hc]
  simp only [World.cell?, this]

theorem Lies.only {w w' : World} {g : Nat} {p : Option Addr} {zs : List Int} (h : Lies w p zs) (k : Only g w w') (hp : ∀ a, p = some a → a.block ≠ g) : Lies w' p zs := by
  rcases h with h | ⟨b, off, rfl, h⟩
  · exact .inl h
  · exact .inr ⟨b, off, rfl, fun i hi => k.cell (h i hi) (hp ⟨b, off, none⟩ rfl)⟩

theorem Arg.only {w w' : World} {g : Nat} {p : Option Addr} {n cap : Nat} {zs : List Int} (h : Arg w p n cap zs) (k : Only g w w') (hp : ∀ a, p = some a → a.block ≠ g) : Arg w' p n cap zs := ⟨h.1, h.2.1, h.2.2.1, h.2.2.2.1.only k hp, h.2.2.2.2⟩

/-- Digits written into a row of bytes, from a place on. -/
def put (ds : List Int) (o : Nat) (xs : List Int) : List Int := ds.take o ++ xs ++ ds.drop (o + xs.length)

theorem put_length (ds : List Int) (o : Nat) (xs : List Int) (h : o + xs.length ≤ ds.length) : (put ds o xs).length = ds.length := by
  simp [put]
  omega

theorem put_nil (ds : List Int) (o : Nat) : put ds o [] = ds := by simp [put]

/-- One more at the head. -/
theorem put_head (ds : List Int) (o : Nat) (x : Int) (xs : List Int) (h : o + 1 + xs.length ≤ ds.length) : (put ds (o + 1) xs).set o x = put ds o (x :: xs) := by
  have h1 : ds.take (o + 1) = ds.take o ++ [ds.getD o 0] := by
    rw [List.take_add_one]
    simp [List.getElem?_eq_getElem (show o < ds.length by omega)]
  simp only [put, h1, List.length_cons]
  rw [List.append_assoc, List.append_assoc, List.set_append_right _ _ (by simp; omega)]
  simp [show min o ds.length = o by omega, show o + 1 + xs.length = o + (xs.length + 1) by omega]

/-- Two rows side by side. -/
theorem put_two (ds : List Int) (o : Nat) (xs ys : List Int) (h : o + xs.length + ys.length ≤ ds.length) : put (put ds o xs) (o + xs.length) ys = put ds o (xs ++ ys) := by
  have hl : (ds.take o ++ xs).length = o + xs.length := by simp; omega
  simp only [put]
  rw [List.take_append_of_le_length (by omega), List.take_of_length_le (by omega), ← hl, List.drop_append, List.drop_of_length_le (by omega), List.nil_append, List.drop_drop]
  simp only [hl, List.length_append, List.append_assoc]
  congr 4
  omega
end Go.Proofs.YtbdilikdenhnkaaDoor

namespace Go.Proofs.YtbdilikdenhnkaaDoor
open Go.RowKit Go.Deep

/-- What ToUint answers: the limb, and whether it is one. -/
def toU (zs : List Int) : Int := if Nm.tsize zs = 1 then zs.getD 0 0 else 0

theorem ret_to {a b : Int} {c d : Bool} (h : a = b) (k : c = d) : Ending.returned (.tuple #[.int .u64 a, .bool c]) = .returned (.tuple #[.int .u64 b, .bool d]) := by rw [h, k]

theorem toUint_any (p : Option Addr) (n cap : Nat) (zs : List Int) (w : World) (ha : Arg w p n cap zs) :
    Calls Tryd.prog 35 #[.slice p n cap] w fun e w' => e = .returned (.tuple #[.int .u64 (toU zs), .bool (decide (Nm.tsize zs ≤ 1))]) ∧ w' = w := by
  obtain ⟨a1, a2, a3, a4, a5⟩ := ha
  have tl := Nm.tsize_le zs
  have S1 := trimmed_any p n cap zs w a1 a2 (by omega) a4
  rcases (show Nm.tsize zs = 0 ∨ Nm.tsize zs = 1 ∨ 1 < Nm.tsize zs by omega) with h | h | h
  · have E : Hid (0 = toU zs ∧ true = decide (Nm.tsize zs ≤ 1)) := by simp [Hid, toU, h]
    rw [h] at S1
    have HS := hid S1
    clear S1 h
    go_enter Tryd.func35, Tryd.ntmps35
    go_wp2_with fail
    refine HS.out.mono ?_
    rintro e w' ⟨rfl, rfl⟩
    go_wp2
    go_ret2
    exact ⟨ret_to E.out.1 E.out.2, rfl⟩
  · have E : Hid (zs.getD 0 0 = toU zs ∧ true = decide (Nm.tsize zs ≤ 1)) := by simp [Hid, toU, h]
    obtain ⟨b, off, rfl, hbw, HC⟩ := a4.at (by omega)
    have hc := HC.out 0 (by omega)
    rw [Nat.add_zero] at hc
    rw [h] at S1
    have HS := hid S1
    clear S1 h
    go_enter Tryd.func35, Tryd.ntmps35
    go_wp2_with fail
    refine HS.out.mono ?_
    rintro e w' ⟨rfl, rfl⟩
    go_wp2
    go_ret2
    exact ⟨ret_to E.out.1 E.out.2, rfl⟩
  · have E : Hid (0 = toU zs ∧ false = decide (Nm.tsize zs ≤ 1)) := by
      refine ⟨?_, ?_⟩
      · rw [toU, if_neg (by omega)]
      · simp; omega
    have h1 : ((Nm.tsize zs : Int) == 0) = false := by rw [beq_eq_false_iff_ne]; omega
    have h2 : ((Nm.tsize zs : Int) == 1) = false := by rw [beq_eq_false_iff_ne]; omega
    have HS := hid S1
    clear S1 h
    go_enter Tryd.func35, Tryd.ntmps35
    go_wp2_with fail
    refine HS.out.mono ?_
    rintro e w' ⟨rfl, rfl⟩
    go_wp2
    go_ret2
    exact ⟨ret_to E.out.1 E.out.2, rfl⟩

theorem toU_val {zs : List Int} (hl : Nm.Limbs zs) (hv : Nm.val zs < 18446744073709551616) : toU zs = Nm.val zs := by
  have h1 : Nm.tsize zs ≤ 1 := (Nm.tsize_le_iff hl 1).2 (by simpa [Nm.pw] using hv)
  by_cases h : Nm.tsize zs = 1
  · rw [toU, if_pos h, ← Nm.val_trim zs, Nm.trim, h]
    cases zs with
    | nil => simp [Nm.val]
    | cons z zs => simp [Nm.val]
  · have h0 : Nm.tsize zs = 0 := by omega
    rw [toU, if_neg h, ← Nm.val_trim zs, Nm.trim, h0]
    simp [Nm.val]
end Go.Proofs.YtbdilikdenhnkaaDoor

namespace Go.Proofs.YtbdilikdenhnkaaDoor
open Go.RowKit Go.Deep

set_option maxRecDepth 100000 in
set_option maxHeartbeats 4000000 in
theorem spread_zero (B : Int) (W g o cap cp n c : Nat) (p pm : Option Addr) (za ds : List Int) (V : Int) (w : World) (h2 : 2 ≤ B) (h36 : B ≤ 36) (hW : W ≤ 63) (hd : OwnB w g ds) (hol : o + W ≤ ds.length) (ha : Arg w p n c za) (hV : Nm.val za = V) (hV1 : V < 18446744073709551616) :
    Calls Tryd.prog 25 #[.slice (some ⟨g, o, none⟩) W cap, .slice p n c, .slice pm 0 cp, .int .u64 B] w fun e w' => e = .returned (.tuple #[]) ∧ OwnB w' g (put ds o (Dn.dg B W V)) ∧ Only g w w' := by
  have hB0 : (B == 0) = false := by rw [beq_eq_false_iff_ne]; omega
  have hV0 : 0 ≤ V := by rw [← hV]; exact (Nm.val_bd za ha.2.2.2.2).1
  have TU : Hid (Calls Tryd.prog 35 #[.slice p n c] w fun e w' => e = .returned (.tuple #[.int .u64 V, .bool (decide (Nm.tsize za ≤ 1))]) ∧ w' = w) := by
    have := toUint_any p n c za w ha
    rw [toU_val ha.2.2.2.2 (by rw [hV]; exact hV1), hV] at this
    exact this
  have hWi : (W : Int) ≤ 63 := by omega
  have OB := hid hd
  have HOL := hid hol
  clear ha hV hd hol
  go_enter Tryd.func25, Tryd.ntmps25
  go_wp2_with fail
  refine TU.out.mono ?_
  rintro e w' ⟨rfl, rfl⟩
  clear TU
  go_wp2_with fail
  go_loopw [8, 10] (fun a i wr => ∃ (j : Nat) (N : Int), a = .int .u64 N ∧ i = .int .i64 ((j : Int) - 1) ∧ j ≤ W ∧ 0 ≤ N ∧ N < 18446744073709551616 ∧ Hid (N = V / B ^ (W - j) ∧ OwnB wr g (put ds (o + j) (Dn.dg B (W - j) V)) ∧ Only g w' wr)) (fun _ i _ => (intOf i + 1).toNat)
  case atStart =>
    refine ⟨W, V, rfl, rfl, Nat.le_refl _, hV0, hV1, ?_, ?_, Only.refl _ _⟩
    · rw [Nat.sub_self, Int.pow_zero, Int.ediv_one]
    · rw [Nat.sub_self, Dn.dg, put_nil]
      exact OB.out
  case round =>
    obtain ⟨j, N, rfl, rfl, hj, hN0, hN1, I⟩ := hrel
    cases j with
    | zero =>
      have F : Hid (OwnB wr g (put ds o (Dn.dg B W V)) ∧ Only g w' wr) := ⟨I.out.2.1, I.out.2.2⟩
      clear I
      go_wp2_with fail
      (try simp only [Exit.inBlock, Exit.then])
      refine bodyPost_ret (results_none rfl _ _ _) rfl ?_
      exact ⟨rfl, F.out⟩
    | succ u =>
      rw [show ((u + 1 : Nat) : Int) - 1 = (u : Int) by omega]
      have hu : (u : Int) < (W : Int) := by omega
      have hB1 : 0 < B := by omega
      obtain ⟨d, hd⟩ : ∃ d, N % B = d := ⟨_, rfl⟩
      obtain ⟨M, hM⟩ : ∃ M, N / B = M := ⟨_, rfl⟩
      have hd0 : 0 ≤ d := by rw [← hd]; exact Int.emod_nonneg _ (by omega)
      have hd1 : d < 36 := by have := Int.emod_lt_of_pos N hB1; omega
      have hM0 : 0 ≤ M := by rw [← hM]; exact Int.ediv_nonneg hN0 (by omega)
      have hM1 : M < 18446744073709551616 := by have := Int.ediv_le_self B hN0; omega
      have hlen : (put ds (o + (u + 1)) (Dn.dg B (W - (u + 1)) V)).length = ds.length := put_length _ _ _ (by rw [Dn.dg_length]; have := HOL.out; omega)
      have ST : Hid (∀ wq, Below wr.heap.size wr wq → OwnB (wq.setCell ⟨g, o + u, none⟩ (.int .u8 d)) g (put ds (o + u) (Dn.dg B (W - u) V)) ∧ Only g w' (wq.setCell ⟨g, o + u, none⟩ (.int .u8 d))) := by
        intro wq hb
        have h1 := (I.out.2.1.below hb I.out.2.1.lt).set (o + u) d
        rw [show o + (u + 1) = o + u + 1 by omega, put_head _ _ _ _ (by rw [Dn.dg_length]; have := HOL.out; omega)] at h1
        have e1 : d :: Dn.dg B (W - (u + 1)) V = Dn.dg B (W - u) V := by
          rw [show W - u = W - (u + 1) + 1 by omega, Dn.dg_head hB1, ← I.out.1, hd, Dn.dg_mod hB1]
        rw [e1] at h1
        exact ⟨h1, (I.out.2.2.trans (Only.of_below hb)).trans (Only.set _ _)⟩
      have EM : Hid (M = V / B ^ (W - u)) := by
        show _ = _
        rw [← hM, I.out.1, show W - u = W - (u + 1) + 1 by omega, Int.pow_succ, Int.ediv_ediv_of_nonneg (Int.le_of_lt (Int.pow_pos hB1))]
      obtain ⟨y, hy⟩ : ∃ y, wr.cell? ⟨g, o + u, none⟩ = some (.int .u8 y) := ⟨_, I.out.2.1.cell (o + u) (by rw [hlen]; have := HOL.out; omega)⟩
      have hfr := I.out.2.1.free (o + u)
      clear I hlen
      go_wp2_with fail
      go_region
      all_goals
        go_wp2
        go_roundw
        case rel => exact ⟨u, M, by first | rfl | rw [hM], by go_num, by omega, hM0, hM1, EM.out, ST.out _ (below_drewN (Below.refl _ _) _)⟩
        case measure => simp [intOf]
end Go.Proofs.YtbdilikdenhnkaaDoor
