/-
  A Parts AS IT COMES IN: its nine fields, read.
-/
import Derived.Test.YtjghlpkjbfaoiaaDoorVParts0
import Derived.Test.YtjghlpkjbfaoiaaDoorOpenDec
import Derived.ChangeSlices
namespace Go.Proofs.YtjghlpkjbfaoiaaDoor
open Go.RowKit Go.Deep Go.ChangeShapes Go.WideShapes Go.ChangeAt

theorem array9 {α : Type} {cs : Array α} (h : cs.size = 9) : ∃ c0 c1 c2 c3 c4 c5 c6 c7 c8, cs = #[c0, c1, c2, c3, c4, c5, c6, c7, c8] := by
  obtain ⟨l⟩ := cs
  match l, h with
  | [c0, c1, c2, c3, c4, c5, c6, c7, c8], _ => exact ⟨c0, c1, c2, c3, c4, c5, c6, c7, c8, rfl⟩
theorem list9 {α : Type} {l : List α} (h : l.length = 9) : ∃ c0 c1 c2 c3 c4 c5 c6 c7 c8, l = [c0, c1, c2, c3, c4, c5, c6, c7, c8] := by
  match l, h with
  | [c0, c1, c2, c3, c4, c5, c6, c7, c8], _ => exact ⟨c0, c1, c2, c3, c4, c5, c6, c7, c8, rfl⟩

/-- Bytes that come in. -/
theorem open_bys {H : Type} {enc : TypeId × Value → H} {W : World} {fuel : Nat} {v : Value} {y : DataW H × List MemPlace} (hf : DataW.trod enc Tryd.prog W 0 (fun _ => true) true fuel 37 [v] = some y) (hsz : ∀ n ∈ y.1.weights Tryd.prog 37, n ≤ reachBytes) :
    ∃ (a : Option Addr) (len cap : Nat) (zs : List Int), v = .slice a len cap ∧ zs.length = len ∧ len ≤ 140737488351232 ∧ Bys W a zs ∧ ∀ z ∈ zs, 0 ≤ z ∧ z < 256 := by
  rcases open_ints Tryd.underlying37 Tryd.underlying5 (by kernel_rfl) hf with ⟨hcs, _⟩ | ⟨x, l, c, zs, hcs, _, hl, hm, hz, hx, hcell, hwz⟩
  · exact ⟨none, 0, 0, [], (List.cons.inj hcs).1, rfl, by omega, .inl rfl, by simp⟩
  · have hz' : zs.length = c := by simpa using hz
    have hd : y.1 = _ := (congrArg Prod.fst hx)
    have hc : c ≤ 140737488351232 := by
      have h1 : ∀ n ∈ y.1.weights Tryd.prog 37, n ≤ reachBytes := hsz
      rw [hd] at h1
      simp only [DataW.weights, Tryd.underlying37] at h1
      have hr := h1 _ List.mem_cons_self
      rw [show Tryd.prog.bytesOf 5 = 1 by kernel_rfl] at hr
      simp only [lits, List.length_map, List.length_take, List.length_drop, reachBytes] at hr
      omega
    refine ⟨some x, l, c, zs.take l, (List.cons.inj hcs).1, by simp; omega, by omega, ?_, fun z hzz => ?_⟩
    · rcases Nat.eq_zero_or_pos l with h0 | h0
      · left; rw [h0]; rfl
      · obtain ⟨b, off, spot⟩ := x
        have hspot : spot = none := by simpa [Addr.add] using World.cell?_spot (hcell 0 (by omega))
        subst hspot
        refine .inr ⟨b, off, rfl, fun i hi => ?_⟩
        have hi' : i < l := by simp at hi; omega
        have := hcell i (by omega)
        rw [Go.WideShapes.add_plain] at this
        rw [this]
        simp [List.getD, hi']
    · have := hwz z (List.mem_of_mem_take hzz)
      have := bounds_u8 this
      omega

set_option maxRecDepth 100000 in
theorem open_parts {H : Type} {enc : TypeId × Value → H} {W : World} {base : Nat} {v : Value} {d : DataW H} {p : List MemPlace} (hv : Value.okWide Tryd.prog W .any base 39 v) (h : DataW.Trod enc Tryd.prog W 0 (fun _ => true) true 39 v d p)
    (hsz : ∀ n ∈ d.weights Tryd.prog 39, n ≤ reachBytes) :
    ∃ (Bk sn : Int) (p1 : Option Addr) (l1 c1 : Nat) (pt : Bool) (p2 : Option Addr) (l2 c2 : Nat) (L m E : Int) (s : ByteArray) (za zb : List Int), v = .agg #[.int .i64 Bk, .int .i64 sn, .slice p1 l1 c1, .bool pt, .slice p2 l2 c2, .int .i64 L, .int .i64 m, .int .i64 E, .string s] ∧
      za.length = l1 ∧ l1 ≤ 140737488351232 ∧ Bys W p1 za ∧ (∀ z ∈ za, 0 ≤ z ∧ z < 256) ∧ zb.length = l2 ∧ l2 ≤ 140737488351232 ∧ Bys W p2 zb ∧ (∀ z ∈ zb, 0 ≤ z ∧ z < 256) ∧ s.size ≤ 140737488351232 ∧ E ≤ 9223372036854775807 := by
  obtain ⟨cs0, rfl, hs9⟩ := okWide_struct Tryd.underlying39 hv
  obtain ⟨a0, a1, a2, a3, a4, a5, a6, a7, a8, rfl⟩ := array9 (hs9.trans (show Tryd.prog.cellsOf 39 = 9 by kernel_rfl))
  obtain ⟨fuel, hf⟩ := h
  have hf' : DataW.trod enc Tryd.prog W 0 (fun _ => true) true fuel 39 [a0, a1, a2, a3, a4, a5, a6, a7, a8] = some (d, p) := by simpa [Value.cells] using hf
  obtain ⟨xs, n, _, hx, _, hlen, hfs⟩ := DataW.trod_struct Tryd.underlying39 hf'
  obtain ⟨y0, y1, y2, y3, y4, y5, y6, y7, y8, rfl⟩ := list9 hlen
  have ci : Tryd.prog.cellsOf 3 = 1 := by kernel_rfl
  have cs : Tryd.prog.cellsOf 9 = 1 := by kernel_rfl
  have cb : Tryd.prog.cellsOf 4 = 1 := by kernel_rfl
  have cu : Tryd.prog.cellsOf 37 = 1 := by kernel_rfl
  have f0 : DataW.trod enc Tryd.prog W 0 (fun _ => true) true n 3 [a0] = some y0 := by simpa [ci, cs, cb, cu] using hfs 0 _ rfl
  have f1 : DataW.trod enc Tryd.prog W 0 (fun _ => true) true n 3 [a1] = some y1 := by simpa [ci, cs, cb, cu] using hfs 1 _ rfl
  have f2 : DataW.trod enc Tryd.prog W 0 (fun _ => true) true n 37 [a2] = some y2 := by simpa [ci, cs, cb, cu] using hfs 2 _ rfl
  have f3 : DataW.trod enc Tryd.prog W 0 (fun _ => true) true n 4 [a3] = some y3 := by simpa [ci, cs, cb, cu] using hfs 3 _ rfl
  have f4 : DataW.trod enc Tryd.prog W 0 (fun _ => true) true n 37 [a4] = some y4 := by simpa [ci, cs, cb, cu] using hfs 4 _ rfl
  have f5 : DataW.trod enc Tryd.prog W 0 (fun _ => true) true n 3 [a5] = some y5 := by simpa [ci, cs, cb, cu] using hfs 5 _ rfl
  have f6 : DataW.trod enc Tryd.prog W 0 (fun _ => true) true n 3 [a6] = some y6 := by simpa [ci, cs, cb, cu] using hfs 6 _ rfl
  have f7 : DataW.trod enc Tryd.prog W 0 (fun _ => true) true n 3 [a7] = some y7 := by simpa [ci, cs, cb, cu] using hfs 7 _ rfl
  have f8 : DataW.trod enc Tryd.prog W 0 (fun _ => true) true n 9 [a8] = some y8 := by simpa [ci, cs, cb, cu] using hfs 8 _ rfl
  have hd : d = .agg [y0.1, y1.1, y2.1, y3.1, y4.1, y5.1, y6.1, y7.1, y8.1] := (Prod.mk.inj hx).1
  have hw : ∀ (j : Nat) (t : TypeId) (e : DataW H), [3, 3, 37, 4, 37, 3, 3, 3, 9][j]? = some t → [y0.1, y1.1, y2.1, y3.1, y4.1, y5.1, y6.1, y7.1, y8.1][j]? = some e → ∀ k ∈ e.weights Tryd.prog t, k ≤ reachBytes := fun j t e h1 h2 k hk => by
    refine hsz k ?_
    rw [hd]
    simp only [DataW.weights, Tryd.underlying39]
    exact DataW.weights_mem_each (ts := [3, 3, 37, 4, 37, 3, 3, 3, 9]) (ds := [y0.1, y1.1, y2.1, y3.1, y4.1, y5.1, y6.1, y7.1, y8.1]) (j := j) (t := t) (d := e) h1 h2 k hk
  obtain ⟨Bk, e0, _, _⟩ := DataW.trod_int Tryd.underlying3 f0
  obtain ⟨sn, e1, _, _⟩ := DataW.trod_int Tryd.underlying3 f1
  obtain ⟨p1, l1, c1, za, e2, g1, g2, g3, g4⟩ := open_bys f2 (hw 2 _ _ rfl rfl)
  obtain ⟨pt, e3, _⟩ := DataW.trod_bool Tryd.underlying4 f3
  obtain ⟨p2, l2, c2, zb, e4, k1, k2, k3, k4⟩ := open_bys f4 (hw 4 _ _ rfl rfl)
  obtain ⟨L, e5, _, _⟩ := DataW.trod_int Tryd.underlying3 f5
  obtain ⟨m, e6, _, _⟩ := DataW.trod_int Tryd.underlying3 f6
  obtain ⟨E, e7, _, w7⟩ := DataW.trod_int Tryd.underlying3 f7
  obtain ⟨s, e8, q8, _⟩ := DataW.trod_string Tryd.underlying9 f8
  have hs : s.data.toList.length ≤ reachBytes := by
    refine hw 8 _ _ rfl rfl _ ?_
    rw [q8]
    simp [DataW.weights]
  have b7 := bounds_i64 w7
  rw [Array.length_toList] at hs
  rw [(List.cons.inj e0).1, (List.cons.inj e1).1, e2, (List.cons.inj e3).1, e4, (List.cons.inj e5).1, (List.cons.inj e6).1, (List.cons.inj e7).1, (List.cons.inj e8).1]
  exact ⟨Bk, sn, p1, l1, c1, pt, p2, l2, c2, L, m, E, s, za, zb, rfl, g1, g2, g3, g4, k1, k2, k3, k4, Nat.le_trans (show s.size ≤ reachBytes from hs) (by decide), b7.2⟩
end Go.Proofs.YtjghlpkjbfaoiaaDoor
