/-
  abacuslaw24: marked, roomy.
-/
import Derived.Test.YthachcidfnjbaaaTrR
namespace Go.Proofs.Ythachcidfnjbaaa
open Go Go.RowKit Go.Deep

namespace Tr
def mk (i : Nat) : Nd := ⟨901, 0, (i : Int), 0, 0, ⟨#[]⟩⟩
def zn : Nd := ⟨0, 0, 0, 0, 0, ⟨#[]⟩⟩
/-- What stands at place i of a roomy list. -/
def at9 (l : List Nd) (i : Nat) : Nd := (l[i]?).getD (mk i)
/-- A roomy list of which i places are laid. -/
def rmy (l : List Nd) (i : Nat) : List Nd := (List.range i).map (at9 l) ++ List.replicate (l.length + 9 - i) zn
theorem rmy_len (l : List Nd) (i : Nat) (h : i ≤ l.length + 9) : (rmy l i).length = l.length + 9 := by simp [rmy]; omega
theorem rmy_at (l : List Nd) (i : Nat) (h : i < l.length + 9) : (rmy l i)[i]? = some zn := by
  obtain ⟨m, hm⟩ : ∃ m, l.length + 9 - i = m + 1 := ⟨l.length + 9 - i - 1, by omega⟩
  rw [rmy, hm, List.getElem?_append_right (by simp)]
  simp [List.replicate_succ]
theorem rmy_set (l : List Nd) (i : Nat) (h : i < l.length + 9) : (rmy l i).set i (at9 l i) = rmy l (i + 1) := by
  obtain ⟨m, hm⟩ : ∃ m, l.length + 9 - i = m + 1 := ⟨l.length + 9 - i - 1, by omega⟩
  rw [rmy, rmy, hm, List.set_append_right _ _ (by simp), List.range_succ, List.map_append, show l.length + 9 - (i + 1) = m by omega]
  simp [List.replicate_succ]
theorem rmy_full (l : List Nd) {i : Nat} (h : i < l.length + 9) : (rmy l (l.length + 9))[i]? = some (at9 l i) := by
  rw [rmy, List.getElem?_append_left (by simp; omega)]
  simp [h]
theorem en_one (x : Nd) : ∀ v ∈ en x, v.oneCell' = true := fun v hv => by
  simp only [en, List.mem_cons, List.not_mem_nil, or_false] at hv
  rcases hv with rfl | rfl | rfl | rfl | rfl | rfl <;> rfl
theorem infoN : (Try.prog.info? 34).map (fun i => (i.zero, i.size, i.bytes)) = some (some (.agg #[.int .i64 0, .int .i64 0, .int .i64 0, .int .i64 0, .int .u64 0, .string ⟨#[]⟩]), 6, 56) := by kernel_rfl
theorem make_n (n : Nat) (hn : n ≤ 2097152) (W : World) : (Instr.makeSlice 22 (.int .i64 (n : Int)) (.int .i64 (n : Int))).run Try.prog W = .ok (.slice (some ⟨W.heap.size, 0, none⟩) n n) (W.alloc (.cells (Re.fl en (List.replicate n zn)).toArray 34)) := by
  obtain ⟨i, hi, hz⟩ := Option.map_eq_some_iff.1 infoN
  simp only [Prod.mk.injEq] at hz
  obtain ⟨z1, z2, z3⟩ := hz
  have := run_make (P := Try.prog) W 22 34 i _ Try.underlying22 hi z1 .i64 .i64 (n : Int) (n : Int) (by omega) (by omega) (by rw [z3]; omega) (by omega)
  rw [this, z2, Int.toNat_natCast]
  have e := Re.made_fl en_len zn (by omega) n
  rw [← e]
  rfl
end Tr

theorem lmark_any (i : Nat) (w : World) : Calls Try.prog 12 #[.int .i64 (i : Int)] w fun e w' => e = .returned (.agg #[.int .i64 901, .int .i64 0, .int .i64 (i : Int), .int .i64 0, .int .u64 0, .string ⟨#[]⟩]) ∧ Below w.heap.size w w' := by
  go_enter Try.func12, Try.ntmps12
  go_wp2_with fail
  refine bodyPost_ret (results_cell_row rfl _ _ w.heap.size 34 _ (0, 0) _ rfl (heap_alloc_new _ _) Try.underlying34 rfl (by kernel_rfl)) rfl ?_
  exact ⟨rfl, alloc_b _ _⟩

/-- A node written at place i of a block. -/
theorem bxn_put {g i : Nat} {D : List Tr.Nd} {w : World} (h : Bx w g 34 (Re.fl Tr.en D).toArray) (x : Tr.Nd) (hi : i < D.length) :
    Bx ((((((w.setCell ⟨g, i * 6, none⟩ (.int .i64 x.kind)).setCell ⟨g, i * 6 + 1, none⟩ (.int .i64 x.op)).setCell ⟨g, i * 6 + 2, none⟩ (.int .i64 x.ref)).setCell ⟨g, i * 6 + 3, none⟩ (.int .i64 x.n)).setCell ⟨g, i * 6 + 4, none⟩ (.int .u64 x.num)).setCell ⟨g, i * 6 + 5, none⟩ (.string x.str)) g 34 (Re.fl Tr.en (D.set i x)).toArray :=
  Re.bx_put Tr.en_len h x hi
theorem bxn_below {B g o : Nat} {w w' : World} {v0 v1 v2 v3 v4 v5 : Value} (h : Below B w w') (hb : B ≤ g) :
    Below B w ((((((w'.setCell ⟨g, o, none⟩ v0).setCell ⟨g, o + 1, none⟩ v1).setCell ⟨g, o + 2, none⟩ v2).setCell ⟨g, o + 3, none⟩ v3).setCell ⟨g, o + 4, none⟩ v4).setCell ⟨g, o + 5, none⟩ v5) := by
  refine Below.setCell ?_ hb _
  refine Below.setCell ?_ hb _
  refine Below.setCell ?_ hb _
  refine Below.setCell ?_ hb _
  refine Below.setCell ?_ hb _
  refine Below.setCell ?_ hb _
  exact h
theorem bxn_cells {g i : Nat} {D : List Tr.Nd} {w : World} {x : Tr.Nd} (h : Bx w g 34 (Re.fl Tr.en D).toArray) (hi : D[i]? = some x) :
    (w.cell? ⟨g, i * 6, none⟩ = some (.int .i64 x.kind) ∧ w.cell? ⟨g, i * 6 + 1, none⟩ = some (.int .i64 x.op) ∧ w.cell? ⟨g, i * 6 + 2, none⟩ = some (.int .i64 x.ref) ∧ w.cell? ⟨g, i * 6 + 3, none⟩ = some (.int .i64 x.n) ∧ w.cell? ⟨g, i * 6 + 4, none⟩ = some (.int .u64 x.num) ∧ w.cell? ⟨g, i * 6 + 5, none⟩ = some (.string x.str)) ∧
    (w.frozen? ⟨g, i * 6, none⟩ = false ∧ w.frozen? ⟨g, i * 6 + 1, none⟩ = false ∧ w.frozen? ⟨g, i * 6 + 2, none⟩ = false ∧ w.frozen? ⟨g, i * 6 + 3, none⟩ = false ∧ w.frozen? ⟨g, i * 6 + 4, none⟩ = false ∧ w.frozen? ⟨g, i * 6 + 5, none⟩ = false) :=
  ⟨⟨Re.bx_cell Tr.en_len h hi 0 (by omega) _ rfl, Re.bx_cell Tr.en_len h hi 1 (by omega) _ rfl, Re.bx_cell Tr.en_len h hi 2 (by omega) _ rfl, Re.bx_cell Tr.en_len h hi 3 (by omega) _ rfl, Re.bx_cell Tr.en_len h hi 4 (by omega) _ rfl, Re.bx_cell Tr.en_len h hi 5 (by omega) _ rfl⟩, h.free _, h.free _, h.free _, h.free _, h.free _, h.free _⟩

set_option maxRecDepth 100000 in
set_option maxHeartbeats 2000000 in
theorem lroomy_any (p : Option Addr) (cap : Nat) (l : List Tr.Nd) (w : World) (h : Tr.LN w p l) (hl : l.length ≤ 1048576) :
    Calls Try.prog 8 #[.slice p l.length cap] w fun e w' => e = .returned (.slice (some ⟨w.heap.size, 0, none⟩) l.length (l.length + 9)) ∧ Bx w' w.heap.size 34 (Re.fl Tr.en (Tr.rmy l (l.length + 9))).toArray ∧ Below w.heap.size w w' := by
  obtain ⟨N, hN⟩ : ∃ N, l.length = N := ⟨_, rfl⟩
  obtain ⟨M, hM⟩ : ∃ M, N + 9 = M := ⟨_, rfl⟩
  have H := hid h
  have MK := Tr.make_n M (by omega)
  have hb : (N : Int) ≤ 1048576 := by omega
  have hmi : (N : Int) + 9 = (M : Int) := by omega
  have S0 : Hid (Bx (w.alloc (.cells (Re.fl Tr.en (List.replicate M Tr.zn)).toArray 34)) w.heap.size 34 (Re.fl Tr.en (Tr.rmy l 0)).toArray ∧ Below w.heap.size w (w.alloc (.cells (Re.fl Tr.en (List.replicate M Tr.zn)).toArray 34))) := by
    refine ⟨?_, alloc_b _ _⟩
    have e : Tr.rmy l 0 = List.replicate M Tr.zn := by simp [Tr.rmy, hN, hM]
    rw [e]
    exact Bx.new _ _ _
  clear h hl
  rw [hN, hM]
  go_enter Try.func8, Try.ntmps8
  go_wp2_with fail
  go_loopg [4] M (fun m iv wr => ∃ i : Nat, i + m = M ∧ iv = .int .i64 (i : Int) ∧ Hid (Bx wr w.heap.size 34 (Re.fl Tr.en (Tr.rmy l i)).toArray ∧ Below w.heap.size w wr))
  case atStart => exact ⟨0, by omega, rfl, S0⟩
  case round =>
    obtain ⟨i, hi, rfl, I⟩ := hrel
    by_cases il : i < M
    · have ili : (i : Int) < (M : Int) := by omega
      have mb : (M : Int) ≤ 1048585 := by omega
      have MA := hid (lmark_any i)
      have ln := Tr.rmy_len l i (by omega)
      have za := Tr.rmy_at l i (by omega)
      have zs := Tr.rmy_set l i (by omega)
      have gl : w.heap.size < wr.heap.size := I.out.1.lt
      go_upto_region 5 with fail
      go_cut [] (fun wx => Hid (Bx wx w.heap.size 34 (Re.fl Tr.en ((Tr.rmy l i).set i (Tr.mk i))).toArray ∧ Below w.heap.size w wx))
      case first =>
        go_wp2_with (go_at_call 12; refine (MA.out _).mono ?_; rintro e w2 ⟨rfl, hB⟩; have B2 := hid (And.intro (I.out.1.on hB) (below_on I.out.2 hB)); obtain ⟨⟨a0, a1, a2, a3, a4, a5⟩, ⟨f0, f1, f2, f3, f4, f5⟩⟩ := bxn_cells B2.out.1 za; clear hB)
        go_meet
        exact ⟨bxn_put B2.out.1 (Tr.mk i) (by omega), bxn_below B2.out.2 (Nat.le_refl _)⟩
      case rest =>
        clear I za
        have I := hid hcut.out
        by_cases iN : i < N
        · have iNi : (i : Int) < (N : Int) := by omega
          obtain ⟨x, hx⟩ : ∃ x, l[i]? = some x := ⟨_, List.getElem?_eq_getElem (by omega)⟩
          have ex : Tr.at9 l i = x := by rw [Tr.at9, hx]; rfl
          rw [ex] at zs
          obtain ⟨b, off, hp, c0, c1, c2, c3, c4, c5⟩ := (H.out.on I.out.2) i x hx
          subst hp
          have zm : ((Tr.rmy l i).set i (Tr.mk i))[i]? = some (Tr.mk i) := List.getElem?_set_self (by omega)
          obtain ⟨⟨a0, a1, a2, a3, a4, a5⟩, ⟨f0, f1, f2, f3, f4, f5⟩⟩ := bxn_cells I.out.1 zm
          have R := hid (bxn_put (i := i) I.out.1 x (by rw [List.length_set]; omega))
          have Q := hid I.out.2
          rw [List.set_set, zs] at R
          clear H S0 MK I hcut zm zs ln MA
          go_wp2_with fail
          go_roundg (M - (i + 1))
          case measure => omega
          case rel => exact ⟨i + 1, by omega, by go_num, R.out, bxn_below Q.out (Nat.le_refl _)⟩
        · have iNi : ¬ (i : Int) < (N : Int) := by omega
          have ex : Tr.at9 l i = Tr.mk i := by rw [Tr.at9, List.getElem?_eq_none (by omega)]; rfl
          rw [ex] at zs
          have R := I
          rw [zs] at R
          clear H S0 MK I hcut zs ln MA
          go_wp2_with fail
          go_roundg (M - (i + 1))
          case measure => omega
          case rel => exact ⟨i + 1, by omega, by go_num, R⟩
    · obtain rfl : i = M := by omega
      have ili : ¬ (i : Int) < (i : Int) := by omega
      have nc : (N : Int) ≤ (i : Int) := by omega
      clear S0 H MK
      go_wp2_with fail
      go_ret
      exact ⟨rfl, I.out⟩
end Go.Proofs.Ythachcidfnjbaaa
