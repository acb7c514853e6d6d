/-
  Texts put together: NKpA, NKpB, NKpC.
-/
import Derived.Test.YtbdilikdenhnkaaDoorRA
import Derived.Test.YtbdilikdenhnkaaDoorShA
import Derived.BigQuiet
import Derived.Deep.RegionHeld3
import Derived.Deep.CutRange
import Derived.Deep.CutBlock
import Derived.Lib.AppendZerosOnto
namespace Go.Proofs.YtbdilikdenhnkaaDoor
open Go Go.RowKit Go.Deep

set_option maxRecDepth 100000 in
set_option maxHeartbeats 4000000 in
theorem holds_any (g gf n c cf : Nat) (vs : List Sl) (fs : List Int) (s : Int) (w : World) (hv : Bx w g 22 (Kp.LC vs)) (hf : Bx w gf 3 (Kp.IC fs)) (hn : vs.length = n) (nb : n ≤ 1000) (s0 : 0 ≤ s) (s1 : s ≤ 1000000000) (H : Kp.HO w vs fs s) :
    Calls Tryd.prog 19 #[.slice (some ⟨g, 0, none⟩) n c, .slice (some ⟨gf, 0, none⟩) n cf, .int .u64 s] w fun e w' => e = .returned (.bool true) ∧ Below w.heap.size w w' := by
  have W0 := hid (And.intro hv (And.intro hf H))
  have HN := hid hn
  have nbi : (n : Int) ≤ 1000 := by omega
  clear hv hf H hn
  go_enter Tryd.func19, Tryd.ntmps19
  go_wp2_with fail
  go_loopg [7] n (fun m iv wr => ∃ i : Nat, i + m = n ∧ iv = .int .i64 (i : Int) ∧ Hid (Below w.heap.size w wr))
  case atStart => exact ⟨0, by omega, rfl, Below.refl _ _⟩
  case round =>
    obtain ⟨i, hi, rfl, I⟩ := hrel
    by_cases il : i < n
    · have ili : (i : Int) < (n : Int) := by omega
      obtain ⟨⟨p, m, c9⟩, hx⟩ : ∃ x, vs[i]? = some x := ⟨_, List.getElem?_eq_getElem (by have := HN.out; omega)⟩
      obtain ⟨f, zs, e1, e2, e3, e4, e5, e6⟩ := W0.out.2.2.2 i _ hx
      simp only at e2 e3 e4 e5 e6
      have mb : (m : Int) ≤ 1048576 := by omega
      have CV := hid (fun W (hB : Below w.heap.size w W) => Kp.lc_cell (W0.out.1.on hB) hx)
      have d1 := Kp.ic_cell (W0.out.2.1.on I.out) e1
      have E6 := hid e6
      have E2 := hid e2
      have E5 := hid e5
      have E4 := hid e4
      have fmi : (f : Int) ≤ (m : Int) := by omega
      clear e1 e2 e3 e4 e5 e6 hx
      go_upto_region 5 with fail
      clear d1
      go_wp2_with fail
      go_loopg [8] (m - f) (fun q kv wr => ∃ k : Nat, k + q = m ∧ f ≤ k ∧ kv = .int .i64 (k : Int) ∧ Hid (Below w.heap.size w wr))
      case atStart => exact ⟨f, by have := E4.out; omega, Nat.le_refl _, rfl, I.out⟩
      case round =>
        obtain ⟨k, hk, fk, rfl, J⟩ := hrel
        have cv := CV.out _ J.out
        by_cases kl : k < m
        · have kli : (k : Int) < (m : Int) := by omega
          obtain ⟨x, hx⟩ : ∃ x, zs.getD k 0 = x := ⟨_, rfl⟩
          have ex : x = s * ((i : Int) + 1) + (k : Int) := by rw [← hx]; exact E6.out k fk kl
          have cx : ∃ b off, p = some ⟨b, off, none⟩ ∧ wr.cell? ⟨b, off + k, none⟩ = some (.int .u64 x) := by
            rcases E5.out with z | ⟨b, off, hp, hc⟩
            · have := E2.out; rw [z] at this; simp at this; omega
            · have := hc k (by rw [E2.out]; exact kl)
              rw [hx] at this
              exact ⟨b, off, hp, by rw [J.out.cell (p := ⟨b, off + k, none⟩) (cell_lt this)]; exact this⟩
          obtain ⟨b, off, rfl, cx⟩ := cx
          have a1 : (0 : Int) ≤ s * ((i : Int) + 1) := Int.mul_nonneg s0 (by omega)
          have a2 : s * ((i : Int) + 1) ≤ 1000000000 * 1001 := Int.mul_le_mul s1 (by omega) (by omega) (by omega)
          obtain ⟨M, hM⟩ : ∃ M, s * ((i : Int) + 1) = M := ⟨_, rfl⟩
          rw [hM] at a1 a2 ex
          have w1 : IntKind.i64.wrap ((i : Int) + 1) = (i : Int) + 1 := by rw [IntKind.wrap_i64]; omega
          have w2 : IntKind.u64.wrap ((i : Int) + 1) = (i : Int) + 1 := by rw [Sh.wrap_mod]; omega
          have w3 : IntKind.u64.wrap (s * ((i : Int) + 1)) = M := by rw [hM, Sh.wrap_mod]; omega
          have w4 : IntKind.u64.wrap (k : Int) = (k : Int) := by rw [Sh.wrap_mod]; omega
          have w5 : IntKind.u64.wrap (M + (k : Int)) = x := by rw [ex, Sh.wrap_mod]; omega
          have U0 := hid J.out
          clear ex hx a1 a2 hM J
          go_wp2_with fail
          go_roundg (m - (k + 1))
          case measure => omega
          case rel => exact ⟨k + 1, by omega, by omega, by go_num, U0⟩
        · obtain rfl : k = m := by omega
          have kli : ¬ (k : Int) < (k : Int) := by omega
          go_wp2_with fail
          go_roundg (n - (i + 1))
          case measure => omega
          case rel => exact ⟨i + 1, by omega, by go_num, J⟩
    · obtain rfl : i = n := by omega
      have ili : ¬ (i : Int) < (i : Int) := by omega
      go_wp2_with fail
      go_ret
      exact ⟨rfl, I.out⟩
end Go.Proofs.YtbdilikdenhnkaaDoor

namespace Go.Proofs.YtbdilikdenhnkaaDoor
open Go Go.RowKit Go.Deep

namespace Kp
def ee (L : List Ke) (n i : Nat) : List Int := (L.take i).map (fun e => (e.n : Int)) ++ List.replicate (n - i) 0
theorem ee_zero (L : List Ke) (n : Nat) : ee L n 0 = List.replicate n 0 := by simp [ee]
theorem ee_full {L : List Ke} {n : Nat} (h : L.length = n) : ee L n n = L.map (fun e => (e.n : Int)) := by simp [ee, ← h]
theorem ee_at {L : List Ke} {n i : Nat} (h : L.length = n) (hi : i < n) : (ee L n i)[i]? = some 0 := by
  obtain ⟨m, hm⟩ : ∃ m, n - i = m + 1 := ⟨n - i - 1, by omega⟩
  have l : ((L.take i).map (fun e => (e.n : Int))).length = i := by simp; omega
  rw [ee, hm, List.getElem?_append_right (by omega), l, Nat.sub_self]
  rfl
theorem ee_set {L : List Ke} {n i : Nat} {e : Ke} (h : L.length = n) (he : L[i]? = some e) : (ee L n i).set i (e.n : Int) = ee L n (i + 1) := by
  have hi := (List.getElem?_eq_some_iff.1 he).1
  obtain ⟨m, hm⟩ : ∃ m, n - i = m + 1 := ⟨n - i - 1, by omega⟩
  have l : ((L.take i).map (fun e => (e.n : Int))).length = i := by simp; omega
  rw [ee, ee, hm, show n - (i + 1) = m by omega, List.set_append_right _ _ (by omega), l, Nat.sub_self, List.take_add_one, he, List.map_append, List.append_assoc]
  rfl
def zs0 : Sl := ⟨none, 0, 0⟩
theorem make_i (n : Nat) (hn : n ≤ 1000) (W : World) : (Instr.makeSlice 46 (.int .i64 (n : Int)) (.int .i64 (n : Int))).run Tryd.prog W = .ok (.slice (some ⟨W.heap.size, 0, none⟩) n n) (W.alloc (.cells (IC (List.replicate n 0)) 3)) := by
  obtain ⟨i, hi, hz⟩ := Option.map_eq_some_iff.1 info_int
  simp only [Prod.mk.injEq] at hz
  obtain ⟨z1, z2, z3⟩ := hz
  have := run_make (P := Tryd.prog) W 46 3 i _ Tryd.underlying46 hi z1 .i64 .i64 (n : Int) (n : Int) (by omega) (by omega) (by rw [z3]; omega) (by omega)
  rw [this, z2, Int.toNat_natCast]
  have e : (madeCells #[Value.int .i64 0] (n * 1)) = IC (List.replicate n 0) := by
    rw [Nat.mul_one]
    apply Array.ext'
    rw [toList_madeCells_one]
    simp [IC]
  rw [← e]
  rfl
theorem make_s (n : Nat) (hn : n ≤ 1000) (W : World) : (Instr.makeSlice 38 (.int .i64 (n : Int)) (.int .i64 (n : Int))).run Tryd.prog W = .ok (.slice (some ⟨W.heap.size, 0, none⟩) n n) (W.alloc (.cells (LC (List.replicate n zs0)) 22)) := by
  obtain ⟨i, hi, hz⟩ := Option.map_eq_some_iff.1 info_u64s
  simp only [Prod.mk.injEq] at hz
  obtain ⟨z1, z2, z3⟩ := hz
  have := run_make (P := Tryd.prog) W 38 22 i _ Tryd.underlying38 hi z1 .i64 .i64 (n : Int) (n : Int) (by omega) (by omega) (by rw [z3]; omega) (by omega)
  rw [this, z2, Int.toNat_natCast]
  have e : (madeCells #[Value.slice none 0 0] (n * 1)) = LC (List.replicate n zs0) := by
    rw [Nat.mul_one]
    apply Array.ext'
    rw [toList_madeCells_one]
    simp [LC, zs0]
  rw [← e]
  rfl
end Kp
theorem ow_lowK {B B' : Nat} {w : World} {mv : Value} {D : List Int} (h : Re.Ow u1 32 1 B w mv D) (hb : B' ≤ B) : Re.Ow u1 32 1 B' w mv D := by
  refine ⟨h.1, ?_⟩
  rcases h.2 with q | ⟨g, c, cur, e1, e2, e3⟩
  · exact .inl q
  · exact .inr ⟨g, c, cur, e1, Nat.le_trans hb e2, e3⟩
/-- One more limb, to a list that has no room or to our own. -/
theorem app_lK {H n t : Nat} {p : Option Addr} {x : Int} {lv : Value} {wx : World} {zs ys : List Int} (hz : zs.length = n) (hy : ys.length = t) (hn : n ≤ 1048000) (ht : t < 16) (hL : Lies wx p zs) (hB : H ≤ wx.heap.size) (h : (t = 0 ∧ lv = .slice p n n) ∨ (0 < t ∧ Re.Ow u1 32 1 H wx lv (zs ++ ys))) :
    ∃ lv' w', (Builtin.append_ #[22, 22] 22 #[lv, .slice (some ⟨wx.heap.size, 0, none⟩) 1 1]).run Tryd.prog (wx.alloc (.cells #[.int .u64 x] 32)) = .ok lv' w' ∧ Re.Ow u1 32 1 H w' lv' (zs ++ (ys ++ [x])) ∧ Below H wx w' := by
  rcases h with ⟨rfl, rfl⟩ | ⟨t0, ho⟩
  · obtain rfl : ys = [] := List.eq_nil_of_length_eq_zero hy
    obtain ⟨cap, w', e1, e2, e3⟩ := first_app p n zs x wx hz (by omega) hL
    exact ⟨_, w', e1, ow_lowK e2 hB, e3.mono hB⟩
  · have l : (zs ++ ys).length ≤ 4000000000000 := by simp; omega
    obtain ⟨mv', w', e1, e2, e3, e4, _⟩ := ho.push u1_len u1_one (by omega) (P := Tryd.prog) 22 Tryd.underlying22 info_u64 (by omega) rfl x l hB
    refine ⟨mv', w', e1, ?_, e4⟩
    rw [← List.append_assoc]
    exact e2
/-- Seventy zeros put behind a list that has no room. -/
theorem zeros_app (p : Option Addr) (n : Nat) (zs : List Int) (w : World) (hz : zs.length = n) (hn : n ≤ 1048000) (hl : Lies w p zs) :
    ∃ cap w', (Builtin.append_ #[22, 3] 22 #[.slice p n n, .int .i64 70]).run Tryd.prog w = .ok (.slice (some ⟨w.heap.size, 0, none⟩) (n + 70) cap) w' ∧ Own w' w.heap.size (zs ++ List.replicate (70 + (cap - (n + 70))) 0) ∧ Below w.heap.size w w' := by
  obtain ⟨i, hi, hzz⟩ := Option.map_eq_some_iff.1 info_u64
  simp only [Prod.mk.injEq] at hzz
  obtain ⟨z1, z2, z3⟩ := hzz
  have hold : (Builtin.firstCells i.size n (.slice p n n)).run Tryd.prog w.drew = .ok (zs.map (Value.int .u64)).toArray w.drew := by
    rcases p with _ | a
    · have z0 : zs = [] := by
        rcases hl with c | ⟨b, off, hp, _⟩
        · exact c
        · cases hp
      subst z0
      exact run_firstCells_none _ _ _ _ _
    · refine run_firstCells_some _ _ _ a n n _ (by rw [z2, List.length_map]; omega) (fun j v hv => ?_)
      rcases hl with c | ⟨b, off, hp, hc⟩
      · rw [c] at hv; simp at hv
      · cases hp
        have jl : j < zs.length := by have := (List.getElem?_eq_some_iff.1 hv).1; simpa using this
        have := hc j jl
        rw [Go.WideShapes.add_plain]
        rw [List.getElem?_map, List.getElem?_eq_getElem jl] at hv
        rw [List.getD, List.getElem?_eq_getElem jl] at this
        show w.cell? _ = _
        rw [this]
        exact hv
  have hr := Go.Lib.run_append_grow_zeros (P := Tryd.prog) w 22 3 22 32 i (.int .u64 0) .i64 .i64 Tryd.underlying22 Tryd.underlying3 hi z1 p n n (zs.map (Value.int .u64)) hold 70 (by omega) (by omega) (by omega) (by omega) (by rw [z3]; omega) (growslice_fits (by omega) (by rw [z3]; omega))
  have hge := grownCap_ge w (n + 70) n 32
  obtain ⟨cap, hcap⟩ : ∃ c, grownCap w (n + 70) n 32 = c := ⟨_, rfl⟩
  rw [hcap] at hr hge
  refine ⟨cap, _, hr, ?_, (Below.refl w.heap.size w).drew.alloc (Nat.le_refl _) _⟩
  have e : (zs.map (Value.int .u64)).toArray ++ Builtin.zeroCells (Value.cells (Value.int .u64 0)) 70 ++ Builtin.zeroCells (Value.cells (Value.int .u64 0)) (cap - (n + 70)) = ((zs ++ List.replicate (70 + (cap - (n + 70))) 0).map (Value.int .u64)).toArray := by
    rw [show Value.cells (Value.int .u64 0) = #[Value.int .u64 0] from rfl, zero_u, zero_u, List.map_append, List.map_replicate, ← List.replicate_append_replicate]
    simp
  rw [e]
  exact Own.alloc w.drew _
end Go.Proofs.YtbdilikdenhnkaaDoor

namespace Go.Proofs.YtbdilikdenhnkaaDoor
open Go Go.RowKit Go.Deep

namespace Kp
/-- What holds all along. -/
structure Fc (B gl gn ge n : Nat) (L : List Ke) : Prop where
  ap : Apart L
  ne : gl < gn ∧ gn < ge
  hB : B ≤ gl
  far : ∀ e ∈ L, ∀ b, e.blk = some b → b < gl
  small : ∀ e ∈ L, e.n ≤ 1048000
  len : L.length = n
structure F1 (B : Nat) (w0 : World) (gl gn ge n : Nat) (L : List Ke) (ends : List Int) (C : Nat → List Int → Prop) (w : World) : Prop where
  bel : Below B w0 w
  bl : Bx w gl 22 (LC (L.map Ke.v))
  bn : Bx w gn 3 (IC (List.replicate n 0))
  be : Bx w ge 3 (IC ends)
  ea : Each C B w L
section
variable {B : Nat} {w0 w w' : World} {gl gn ge n : Nat} {L : List Ke} {ends : List Int} {C C' : Nat → List Int → Prop}
theorem F1.size (h : F1 B w0 gl gn ge n L ends C w) (c : Fc B gl gn ge n L) : B ≤ w.heap.size := by have := h.bl.lt; have := c.hB; omega
theorem F1.on (h : F1 B w0 gl gn ge n L ends C w) (c : Fc B gl gn ge n L) (hB : Below w.heap.size w w') : F1 B w0 gl gn ge n L ends C w' :=
  ⟨h.bel.trans (hB.mono (h.size c)), h.bl.on hB, h.bn.on hB, h.be.on hB, h.ea.on hB⟩
theorem F1.mono (h : F1 B w0 gl gn ge n L ends C w) (q : ∀ i e, L[i]? = some e → ∀ zs, zs.length = e.n → C i zs → C' i zs) : F1 B w0 gl gn ge n L ends C' w := ⟨h.bel, h.bl, h.bn, h.be, h.ea.mono q⟩
theorem F1.end_ {i : Nat} {e : Ke} (h : F1 B w0 gl gn ge n L (ee L n i) C w) (c : Fc B gl gn ge n L) (he : L[i]? = some e) : F1 B w0 gl gn ge n L (ee L n (i + 1)) C (w.setCell ⟨ge, i, none⟩ (.int .i64 (e.n : Int))) := by
  have n1 := c.ne
  have n2 := c.hB
  refine ⟨h.bel.setCell (p := ⟨ge, i, none⟩) (show B ≤ ge by omega) _, h.bl.far (by omega) _, h.bn.far (by omega) _, ?_, h.ea.keep (Keep.set w ge i _) (fun e he b hb q => by have := c.far e he b hb; omega)⟩
  have := ic_set h.be (i := i) (e.n : Int)
  rwa [ee_set c.len he] at this
theorem F1.mark {j k : Nat} {e : Ke} (h : F1 B w0 gl gn ge n L ends C w) (c : Fc B gl gn ge n L) (hj : L[j]? = some e) (hk : k < e.n) (x : Int) (C' : Nat → List Int → Prop)
    (hC : ∀ t zs, t ≠ j → C t zs → C' t zs) (hC2 : ∀ zs, zs.length = e.n → C j zs → C' j (zs.set k x)) :
    ∃ b off y, e.p = some ⟨b, off, none⟩ ∧ w.cell? ⟨b, off + k, none⟩ = some (.int .u64 y) ∧ w.frozen? ⟨b, off + k, none⟩ = false ∧ F1 B w0 gl gn ge n L ends C' (w.setCell ⟨b, off + k, none⟩ (.int .u64 x)) := by
  obtain ⟨b, off, y, h1, h2, h3, h4, h5⟩ := h.ea.put c.ap hj hk x C' hC hC2
  have m := List.mem_of_getElem? hj
  have q := c.far e m b h4
  have q2 := (h.ea.blk m h4).1
  have n1 := c.ne
  exact ⟨b, off, y, h1, h2, h3, h.bel.setCell (p := ⟨b, off + k, none⟩) q2 _, h.bl.far (by omega) _, h.bn.far (by omega) _, h.be.far (by omega) _, h5⟩
theorem F1.far {g o : Nat} (h : F1 B w0 gl gn ge n L ends C w) (c : Fc B gl gn ge n L) (hg : ge < g) (v : Value) : F1 B w0 gl gn ge n L ends C (w.setCell ⟨g, o, none⟩ v) := by
  have n1 := c.ne
  have n2 := c.hB
  exact ⟨h.bel.setCell (p := ⟨g, o, none⟩) (show B ≤ g by omega) _, h.bl.far (by omega) _, h.bn.far (by omega) _, h.be.far (by omega) _, h.ea.keep (Keep.set w g o _) (fun e he b hb q => by have := c.far e he b hb; omega)⟩
theorem F1.ho {s : Int} (h : F1 B w0 gl gn ge n L ends (CM s n 0) w) (c : Fc B gl gn ge n L) : HO w (L.map Ke.v) (List.replicate n 0) s := by
  refine ⟨by simp [c.len], fun i x hi => ?_⟩
  rw [List.getElem?_map] at hi
  obtain ⟨e, he, rfl⟩ := Option.map_eq_some_iff.1 hi
  have il : i < n := by have := (List.getElem?_eq_some_iff.1 he).1; have := c.len; omega
  have sm := c.small e (List.mem_of_getElem? he)
  obtain ⟨zs, z1, z2, z3⟩ := h.ea i e he
  refine ⟨0, zs, by rw [List.getElem?_replicate, if_pos il]; rfl, z1, by show e.n ≤ _; omega, Nat.zero_le _, z3.1, fun k _ hk => ?_⟩
  have hk' : k < zs.length := by rw [z1]; exact hk
  rw [z2.1 il, List.getD, ms_at hk', Nat.zero_add]
  rfl
end
/-- The lists that are grown. -/
structure Rw (s : Int) (t gf : Nat) (L : List Ke) (vs : List Sl) (i : Nat) (w : World) : Prop where
  row : Bx w gf 22 (LC vs)
  len : vs.length = L.length
  new : ∀ j e, j < i → L[j]? = some e → ∃ (g cap : Nat) (zs : List Int), vs[j]? = some ⟨some ⟨g, 0, none⟩, e.n + t, cap⟩ ∧ zs.length = e.n + t ∧ Lies w (some ⟨g, 0, none⟩) zs ∧ gf < g ∧ ∀ k, e.n ≤ k → k < e.n + t → zs.getD k 0 = s * ((j : Int) + 1) + (k : Int)
section
variable {s : Int} {t gf : Nat} {L : List Ke} {vs : List Sl} {i : Nat} {w w' : World}
theorem Rw.on (h : Rw s t gf L vs i w) (hB : Below w.heap.size w w') : Rw s t gf L vs i w' := ⟨h.row.on hB, h.len, fun j e hj he => by
  obtain ⟨g, cap, zs, a, b, c, d, f⟩ := h.new j e hj he
  exact ⟨g, cap, zs, a, b, c.below hB (Nat.le_refl _), d, f⟩⟩
theorem Rw.put {e : Ke} {g cap : Nat} {zs : List Int} (h : Rw s t gf L vs i w) (he : L[i]? = some e) (hz : zs.length = e.n + t) (hl : Lies w (some ⟨g, 0, none⟩) zs) (hg : gf < g) (hm : ∀ k, e.n ≤ k → k < e.n + t → zs.getD k 0 = s * ((i : Int) + 1) + (k : Int)) :
    Rw s t gf L (vs.set i ⟨some ⟨g, 0, none⟩, e.n + t, cap⟩) (i + 1) (w.setCell ⟨gf, i, none⟩ (.slice (some ⟨g, 0, none⟩) (e.n + t) cap)) := by
  have il := (List.getElem?_eq_some_iff.1 he).1
  have K := Keep.set w gf i (.slice (some ⟨g, 0, none⟩) (e.n + t) cap)
  refine ⟨lc_set h.row ⟨some ⟨g, 0, none⟩, e.n + t, cap⟩, by rw [List.length_set]; exact h.len, fun j f hj hf => ?_⟩
  by_cases q : j = i
  · subst q
    rw [he] at hf
    cases hf
    exact ⟨g, cap, zs, by rw [List.getElem?_set_self (by rw [h.len]; exact il)], hz, hl.keep K (fun a ha q => by cases ha; exact absurd q (Nat.ne_of_gt hg)), hg, hm⟩
  · obtain ⟨g', cap', zs', a, b, c, d, f⟩ := h.new j f (by omega) hf
    exact ⟨g', cap', zs', by rw [List.getElem?_set_ne (fun e => q e.symm)]; exact a, b, c.keep K (fun a ha q => by cases ha; exact absurd q (Nat.ne_of_gt d)), d, f⟩
theorem Rw.ho (h : Rw s t gf L vs L.length w) (small : ∀ e ∈ L, e.n ≤ 1048000) (ht : t ≤ 70) : HO w vs (L.map (fun e => (e.n : Int))) s := by
  refine ⟨by rw [List.length_map]; exact h.len, fun i x hi => ?_⟩
  have il : i < L.length := by have := (List.getElem?_eq_some_iff.1 hi).1; rw [h.len] at this; exact this
  obtain ⟨e, he⟩ : ∃ e, L[i]? = some e := ⟨_, List.getElem?_eq_getElem il⟩
  have sm := small e (List.mem_of_getElem? he)
  obtain ⟨g, cap, zs, a, b, c, d, f⟩ := h.new i e il he
  rw [a] at hi
  cases hi
  exact ⟨e.n, zs, by rw [List.getElem?_map, he]; rfl, b, by show e.n + t ≤ _; omega, by show e.n ≤ e.n + t; omega, c, f⟩
theorem Rw.start (W : World) (s : Int) (t : Nat) (L : List Ke) (n : Nat) (h : L.length = n) : Rw s t W.heap.size L (List.replicate n zs0) 0 (W.alloc (.cells (LC (List.replicate n zs0)) 22)) :=
  ⟨heap_alloc_new W _, by rw [List.length_replicate]; exact h.symm, fun j e hj _ => absurd hj (by omega)⟩
end
/-- The first two rows. -/
theorem two (B gl n : Nat) (L : List Ke) (w : World) (h : Bx w gl 22 (LC (L.map Ke.v))) (hn : L.length = n) (nb : n ≤ 1000) (E : Each (fun _ _ => True) B w L) (ap : Apart L) (hB : B ≤ gl) (far : ∀ e ∈ L, ∀ b, e.blk = some b → b < gl) (small : ∀ e ∈ L, e.n ≤ 1048000) :
    ∃ gn ge w1 w2, (Instr.makeSlice 46 (.int .i64 (n : Int)) (.int .i64 (n : Int))).run Tryd.prog w = .ok (.slice (some ⟨gn, 0, none⟩) n n) w1 ∧ (Instr.makeSlice 46 (.int .i64 (n : Int)) (.int .i64 (n : Int))).run Tryd.prog w1 = .ok (.slice (some ⟨ge, 0, none⟩) n n) w2 ∧
      Hid (Fc B gl gn ge n L ∧ F1 B w gl gn ge n L (ee L n 0) (CM 1000003 0 0) w2) := by
  have q := h.lt
  have b1 := alloc_b2 w (.cells (IC (List.replicate n 0)) 3)
  have b2 := alloc_b2 (w.alloc (.cells (IC (List.replicate n 0)) 3)) (.cells (IC (List.replicate n 0)) 3)
  have z1 : (w.alloc (.cells (IC (List.replicate n 0)) 3)).heap.size = w.heap.size + 1 := World.size_alloc _ _
  refine ⟨_, _, _, _, make_i n nb w, make_i n nb _, ⟨ap, ⟨q, by omega⟩, hB, far, small, hn⟩, ?_⟩
  have e : Each (CM 1000003 0 0) B w L := E.mono (fun i e _ zs _ _ => cm_zero _ i zs)
  exact ⟨(b1.mono (by omega)).trans (b2.mono (by omega)), (h.on b1).on b2, Bx.on (heap_alloc_new w _) b2, by rw [ee_zero]; exact heap_alloc_new _ _, (e.on b1).on b2⟩
/-- One row more. -/
theorem more {B : Nat} {w0 w : World} {gl gn ge n : Nat} {L : List Ke} {ends : List Int} {C : Nat → List Int → Prop} (h : F1 B w0 gl gn ge n L ends C w) (c : Fc B gl gn ge n L) (nb : n ≤ 1000) (s : Int) (t : Nat) :
    ∃ gf w1, (Instr.makeSlice 38 (.int .i64 (n : Int)) (.int .i64 (n : Int))).run Tryd.prog w = .ok (.slice (some ⟨gf, 0, none⟩) n n) w1 ∧ Hid (ge < gf ∧ F1 B w0 gl gn ge n L ends C w1 ∧ Rw s t gf L (List.replicate n zs0) 0 w1) :=
  ⟨_, _, make_s n nb w, h.be.lt, h.on c (alloc_b2 w _), Rw.start w s t L n c.len⟩
end Kp
end Go.Proofs.YtbdilikdenhnkaaDoor
