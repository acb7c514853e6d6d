/-
  relate's queue: pop of the heap.
-/
import Derived.Test.YtpmmbaahoegmlaaGreatDoorReH
namespace Go.Proofs.YtpmmbaahoegmlaaGreatDoor
open Go Go.RowKit Go.Deep Go.Shelf

namespace Re
/-- An entry of zeros. -/
def ze : En := ⟨⟨.nu 0, 0⟩, 0, 0, ⟨#[]⟩⟩
theorem ee_ze : ee ze = [.bool false, .int .i64 0, .string ⟨#[]⟩, .int .i64 0, .int .i64 0, .int .u64 0, .string ⟨#[]⟩] := rfl
theorem RowE.take {base : Nat} {w : World} {g cap : Nat} {A : List En} (h : RowE base w (.slice (some ⟨g, 0, none⟩) A.length cap) A) (k : Nat) (hk : k ≤ A.length) : RowE base w (.slice (some ⟨g, 0, none⟩) k cap) (A.take k) := by
  obtain ⟨h1, h2⟩ := h
  have lk : (A.take k).length = k := by rw [List.length_take]; omega
  refine ⟨ees_len _, ?_⟩
  rcases h2 with ⟨e, _⟩ | ⟨g', cap', cur, e1, e2, e3, e4, e5, e6, e7⟩
  · simp at e
  · simp only [Value.slice.injEq, Option.some.injEq, Addr.mk.injEq] at e1
    obtain ⟨⟨e1, _⟩, _, e1'⟩ := e1
    subst e1 e1'
    refine .inr ⟨g, cap, cur, by rw [lk], e2, e3, by rw [lk]; omega, e5, e6, ?_⟩
    have : cur.toList.take (k * 7) = (ees A).take (k * 7) := by rw [← e7, List.take_take]; congr 1; omega
    have q : (ees A).take (k * 7) = ees (A.take k) := by
      have e := ees_app (A.take k) (A.drop k)
      rw [List.take_append_drop] at e
      rw [e, List.take_append_of_le_length (by rw [ees_len, lk]; omega), List.take_of_length_le (by rw [ees_len, lk]; omega)]
    rw [lk, this, q]
/-- What pop's parts share. -/
structure PS (base : Nat) (w : World) (h g rb fb : Nat) (S : Nat → Prop) (mv : Value) (E : List En) (R X : Array Value) (W : World) : Prop where
  hb : Bx W h 92 #[mv, .func (.func 40) #[] #[]]
  row : RowE base W mv E
  rb : Bx W rb 87 R
  fb : Bx W fb 87 X
  kp : Kp S w W
theorem PS.on {base : Nat} {w : World} {h g rb fb : Nat} {S : Nat → Prop} {mv : Value} {E : List En} {R X : Array Value} {W W' : World} (p : PS base w h g rb fb S mv E R X W) (b : Below W.heap.size W W') : PS base w h g rb fb S mv E R X W' :=
  ⟨p.hb.on b, p.row.below b, p.rb.on b, p.fb.on b, p.kp.trans (Kp.of b)⟩
theorem setCells_all (g : Nat) : ∀ (vs : List Value) (o : Nat) (w : World), (w.setCells g o vs).os = w.os ∧ (w.setCells g o vs).tape = w.tape ∧ (w.setCells g o vs).output = w.output ∧ (w.setCells g o vs).heap.size = w.heap.size ∧ ∀ i, i ≠ g → (w.setCells g o vs).heap[i]? = w.heap[i]?
  | [], _, w => ⟨rfl, rfl, rfl, rfl, fun _ _ => rfl⟩
  | v :: r, o, w => by
    obtain ⟨a, b, c, d, e⟩ := setCells_all g r (o + 1) (w.setCell ⟨g, o, none⟩ v)
    exact ⟨a, b, c, d.trans (by simp [World.setCell]), fun i hi => (e i hi).trans (Below.heap_setCell _ _ _ _ hi)⟩
theorem Kp.setcs {S : Nat → Prop} {w W : World} (h : Kp S w W) {g : Nat} (hg : S g ∨ w.heap.size ≤ g) (o : Nat) (vs : List Value) : Kp S w (W.setCells g o vs) := by
  obtain ⟨a, b, c, d, e⟩ := setCells_all g vs o W
  refine ⟨a.trans h.os, b.trans h.tape, c.trans h.output, by rw [d]; exact h.size, fun i hi hs => ?_⟩
  rw [e i (fun q => by subst q; rcases hg with hg | hg; exact hs hg; omega)]
  exact h.block i hi hs
theorem _root_.Go.Proofs.YtpmmbaahoegmlaaGreatDoor.Bx.setc {w : World} {b t g o : Nat} {c : Array Value} {vs : List Value} (h : Bx w b t c) (hg : b ≠ g) : Bx (w.setCells g o vs) b t c := by
  induction vs generalizing w o with
  | nil => exact h
  | cons v r ih => exact ih (h.far (fun e => hg e.symm))
end Re

set_option maxRecDepth 100000 in
set_option maxHeartbeats 8000000 in
theorem hpop_any (base h g cap : Nat) (E D : List Re.En) (x0 xl : Re.En) (n l : Nat) (w : World) (hh : Bx w h 92 #[.slice (some ⟨g, 0, none⟩) n cap, .func (.func 40) #[] #[]]) (hr : Re.RowE base w (.slice (some ⟨g, 0, none⟩) n cap) E) (hn : E.length = n) (hnl : n = l + 1) (hl : n ≤ 1000000000000) (hc : n ≤ cap) (hcap : cap ≤ 9223372036854775807) (hx0 : E[0]? = some x0) (hxl : E[l]? = some xl)
    (DN : ∀ W, Bx W h 92 #[.slice (some ⟨g, 0, none⟩) l cap, .func (.func 40) #[] #[]] → Re.RowE base W (.slice (some ⟨g, 0, none⟩) l cap) ((E.set 0 xl).take l) →
      Calls Tryz.prog 66 #[.pointer (some ⟨h, 0, none⟩), .int .i64 0] W fun e w' => e = .returned (.tuple #[]) ∧ Re.RowE base w' (.slice (some ⟨g, 0, none⟩) l cap) D ∧ Re.Kp (fun b => b = g) W w') :
    Calls Tryz.prog 44 #[.pointer (some ⟨h, 0, none⟩)] w fun e w' => e = .returned (.agg (Re.ee x0).toArray) ∧ Bx w' h 92 #[.slice (some ⟨g, 0, none⟩) l cap, .func (.func 40) #[] #[]] ∧ Re.RowE base w' (.slice (some ⟨g, 0, none⟩) l cap) D ∧ Re.Kp (fun b => b = h ∨ b = g) w w' := by
  have hgl : g < w.heap.size := (World.ownsRow.lt hr g rfl).2
  have hhl : h < w.heap.size := hh.lt
  have gh : h ≠ g := fun e => hr.apart hh (by decide) (by rw [e]; rfl)
  -- the worlds, one behind the other
  have p0 : Re.PS base w h g w.heap.size w.heap.size (fun b => b = h ∨ b = g) (.slice (some ⟨g, 0, none⟩) n cap) E #[.bool false, .int .i64 0, .string ⟨#[]⟩, .int .i64 0, .int .i64 0, .int .u64 0, .string ⟨#[]⟩] #[.bool false, .int .i64 0, .string ⟨#[]⟩, .int .i64 0, .int .i64 0, .int .u64 0, .string ⟨#[]⟩] (w.alloc (.cells #[.bool false, .int .i64 0, .string ⟨#[]⟩, .int .i64 0, .int .i64 0, .int .u64 0, .string ⟨#[]⟩] 87)) :=
    ⟨hh.on (alloc_b _ _), hr.below (alloc_b _ _), Bx.new _ _ _, Bx.new _ _ _, Re.Kp.of (alloc_b _ _)⟩
  have sz : (w.alloc (.cells #[.bool false, .int .i64 0, .string ⟨#[]⟩, .int .i64 0, .int .i64 0, .int .u64 0, .string ⟨#[]⟩] 87)).heap.size = w.heap.size + 1 := Array.size_push ..
  go_enter Tryz.func44, Tryz.ntmps44
  go_upto_region 1 with fail
  generalize w.alloc (.cells #[.bool false, .int .i64 0, .string ⟨#[]⟩, .int .i64 0, .int .i64 0, .int .u64 0, .string ⟨#[]⟩] 87) = wa at *
  subst hnl
  have iE : (Tryz.prog.info? 87).map (·.size) = some 7 := by kernel_rfl
  have d0 : Below wa.heap.size wa wa.drew := Below.drew (Below.refl _ _)
  have p1 := p0.on d0
  have b1 := alloc_b wa.drew (.cells #[.bool false, .int .i64 0, .string ⟨#[]⟩, .int .i64 0, .int .i64 0, .int .u64 0, .string ⟨#[]⟩] 87)
  obtain ⟨W1, hW1⟩ : ∃ W1, (wa.alloc (.cells #[.bool false, .int .i64 0, .string ⟨#[]⟩, .int .i64 0, .int .i64 0, .int .u64 0, .string ⟨#[]⟩] 87)).drew = W1 := ⟨_, rfl⟩
  have p2 : Re.PS base w h g w.heap.size w.heap.size (fun b => b = h ∨ b = g) (.slice (some ⟨g, 0, none⟩) (l + 1) cap) E #[.bool false, .int .i64 0, .string ⟨#[]⟩, .int .i64 0, .int .i64 0, .int .u64 0, .string ⟨#[]⟩] #[.bool false, .int .i64 0, .string ⟨#[]⟩, .int .i64 0, .int .i64 0, .int .u64 0, .string ⟨#[]⟩] W1 := hW1 ▸ p1.on b1
  have f2 : Bx W1 wa.heap.size 87 #[.bool false, .int .i64 0, .string ⟨#[]⟩, .int .i64 0, .int .i64 0, .int .u64 0, .string ⟨#[]⟩] := hW1 ▸ Bx.new wa.drew _ _
  have c1 : (wa.drew.cell? ⟨h, 0, none⟩ = some (.slice (some ⟨g, 0, none⟩) (l + 1) cap)) := p1.hb.cell 0 _ rfl
  have rowr : ∀ W, Re.RowE base W (.slice (some ⟨g, 0, none⟩) (l + 1) cap) E → W.rangeAt g 0 (Re.ee x0) := fun W r => by
    rw [← hn] at r
    have := r.range hx0
    rwa [Nat.zero_mul] at this
  have rowl : ∀ W, Re.RowE base W (.slice (some ⟨g, 0, none⟩) (l + 1) cap) E → W.rangeAt g (l * 7) (Re.ee xl) := fun W r => by
    rw [← hn] at r
    exact r.range hxl
  have S0 : Hid (wa.drew.cell? ⟨h, 0, none⟩ = some (.slice (some ⟨g, 0, none⟩) (l + 1) cap) ∧ wa.drew.rangeAt g 0 (Re.ee x0)) := ⟨c1, rowr _ p1.row⟩
  have S1 : Hid (W1.cell? ⟨h, 0, none⟩ = some (.slice (some ⟨g, 0, none⟩) (l + 1) cap) ∧ W1.rangeAt g 0 (Re.ee x0)) := ⟨p2.hb.cell 0 _ rfl, rowr _ p2.row⟩
  have hw : wa.heap.size = w.heap.size + 1 := sz
  have fg : wa.heap.size ≠ g := by omega
  have fh : h ≠ wa.heap.size := by omega
  have th2 : W1.there wa.heap.size 0 7 := fun c hc => by
    refine ⟨?_, f2.free _⟩
    rw [Nat.zero_add]
    rcases (show c = 0 ∨ c = 1 ∨ c = 2 ∨ c = 3 ∨ c = 4 ∨ c = 5 ∨ c = 6 by omega) with rfl | rfl | rfl | rfl | rfl | rfl | rfl <;> rw [f2.cell _ _ rfl] <;> rfl
  have s7 : ∀ e : Re.En, (Re.ee e).toArray.size = 7 := fun e => by rw [List.size_toArray]; exact Re.ee_len e
  have tF : Hid (W1.there wa.heap.size 0 (Re.ee x0).toArray.size) := by rw [s7]; exact th2
  obtain ⟨W2, hW2⟩ : ∃ W2, W1.setCells wa.heap.size 0 (Re.ee x0) = W2 := ⟨_, rfl⟩
  have p3 : Re.PS base w h g w.heap.size wa.heap.size (fun b => b = h ∨ b = g) (.slice (some ⟨g, 0, none⟩) (l + 1) cap) E #[.bool false, .int .i64 0, .string ⟨#[]⟩, .int .i64 0, .int .i64 0, .int .u64 0, .string ⟨#[]⟩] (Re.ee x0).toArray W2 := by
    rw [← hW2]
    refine ⟨p2.hb.setc fh, p2.row.same (fun g' e => ?_), p2.rb.setc (by omega), ?_, p2.kp.setcs (.inr (by omega)) _ _⟩
    · cases e
      exact (Re.setCells_all _ _ _ _).2.2.2.2 g (fun q => fg q.symm)
    · obtain ⟨t, p, u, ex, -⟩ := Re.ee_ex x0
      rw [ex]
      exact ((((((f2.set 0 _).set 1 _).set 2 _).set 3 _).set 4 _).set 5 _).set 6 _
  have S2 : Hid (W2.cell? ⟨h, 0, none⟩ = some (.slice (some ⟨g, 0, none⟩) (l + 1) cap) ∧ W2.rangeAt g 0 (Re.ee x0)) := ⟨p3.hb.cell 0 _ rfl, rowr _ p3.row⟩
  have p4 := p3.on (Below.drew (Below.refl _ _))
  have h2 : Hid (W2.drew.cell? ⟨h, 0, none⟩ = some (.slice (some ⟨g, 0, none⟩) (l + 1) cap)) := p4.hb.cell 0 _ rfl
  have rL := hid (rowl _ p4.row)
  have r4 : Re.RowE base W2.drew (.slice (some ⟨g, 0, none⟩) E.length cap) E := by rw [hn]; exact p4.row
  have tG : Hid (W2.drew.there g 0 (Re.ee xl).toArray.size) := by
    have := r4.there (o := 0) (by omega)
    rw [s7]; rwa [Nat.zero_mul] at this
  obtain ⟨W3, hW3⟩ : ∃ W3, W2.drew.setCells g 0 (Re.ee xl) = W3 := ⟨_, rfl⟩
  have r5 : Re.RowE base W3 (.slice (some ⟨g, 0, none⟩) E.length cap) (E.set 0 xl) := by
    have := r4.setc 0 xl (by omega)
    rw [Nat.zero_mul, hW3] at this
    exact this
  have p5 : Re.PS base w h g w.heap.size wa.heap.size (fun b => b = h ∨ b = g) (.slice (some ⟨g, 0, none⟩) (l + 1) cap) (E.set 0 xl) #[.bool false, .int .i64 0, .string ⟨#[]⟩, .int .i64 0, .int .i64 0, .int .u64 0, .string ⟨#[]⟩] (Re.ee x0).toArray W3 :=
    ⟨hW3 ▸ p4.hb.setc gh, by rw [← hn]; exact r5, hW3 ▸ p4.rb.setc (by omega), hW3 ▸ p4.fb.setc fg, hW3 ▸ p4.kp.setcs (.inl (.inr rfl)) _ _⟩
  have h3 : Hid (W3.cell? ⟨h, 0, none⟩ = some (.slice (some ⟨g, 0, none⟩) (l + 1) cap)) := p5.hb.cell 0 _ rfl
  have th4 : W3.there g (l * 7) 7 := by
    have e : (E.set 0 xl).length = E.length := List.length_set
    rw [← e] at r5
    exact r5.there (by rw [e]; omega)
  obtain ⟨W4, hW4⟩ : ∃ W4, W3.setCells g (l * 7) [.bool false, .int .i64 0, .string ⟨#[]⟩, .int .i64 0, .int .i64 0, .int .u64 0, .string ⟨#[]⟩] = W4 := ⟨_, rfl⟩
  have stz : (storeCells ⟨g, l * 7, none⟩ [.bool false, .int .i64 0, .string ⟨#[]⟩, .int .i64 0, .int .i64 0, .int .u64 0, .string ⟨#[]⟩] 0).run Tryz.prog W3 = .ok () W4 := by
    have := Re.stores Re.ze th4
    rw [Re.ee_ze, hW4] at this
    exact this
  have CL : (Builtin.clear_ #[90] 0 #[.slice (some ⟨g, l * 7, none⟩) 1 (cap - l)]).run Tryz.prog W3 = .ok (.tuple #[]) W4 := by
    have zc : (Builtin.zeroCells (Value.agg #[.bool false, .int .i64 0, .string ⟨#[]⟩, .int .i64 0, .int .i64 0, .int .u64 0, .string ⟨#[]⟩]).cells 1).toList = [.bool false, .int .i64 0, .string ⟨#[]⟩, .int .i64 0, .int .i64 0, .int .u64 0, .string ⟨#[]⟩] := by kernel_rfl
    simp [Builtin.clear_, run_underlying Tryz.underlying90, Tryz.zeroValue87, zc, stz]
  have p6 : Re.PS base w h g w.heap.size wa.heap.size (fun b => b = h ∨ b = g) (.slice (some ⟨g, 0, none⟩) (l + 1) cap) ((E.set 0 xl).set l Re.ze) #[.bool false, .int .i64 0, .string ⟨#[]⟩, .int .i64 0, .int .i64 0, .int .u64 0, .string ⟨#[]⟩] (Re.ee x0).toArray W4 := by
    refine ⟨hW4 ▸ p5.hb.setc gh, ?_, hW4 ▸ p5.rb.setc (by omega), hW4 ▸ p5.fb.setc fg, hW4 ▸ p5.kp.setcs (.inl (.inr rfl)) _ _⟩
    have e : (E.set 0 xl).length = E.length := List.length_set
    rw [← e] at r5
    have := r5.setc l Re.ze (by rw [e]; omega)
    rw [Re.ee_ze, hW4, e, hn] at this
    exact this
  obtain ⟨W5, hW5⟩ : ∃ W5, W4.setCell ⟨h, 0, none⟩ (.slice (some ⟨g, 0, none⟩) l cap) = W5 := ⟨_, rfl⟩
  have tk : ((E.set 0 xl).set l Re.ze).take l = (E.set 0 xl).take l := by rw [List.take_set, List.set_eq_of_length_le (by rw [List.length_take]; omega)]
  have p7 : Re.PS base w h g w.heap.size wa.heap.size (fun b => b = h ∨ b = g) (.slice (some ⟨g, 0, none⟩) l cap) ((E.set 0 xl).take l) #[.bool false, .int .i64 0, .string ⟨#[]⟩, .int .i64 0, .int .i64 0, .int .u64 0, .string ⟨#[]⟩] (Re.ee x0).toArray W5 := by
    refine ⟨hW5 ▸ p6.hb.set 0 _, ?_, hW5 ▸ p6.rb.far (by omega), hW5 ▸ p6.fb.far (by omega), hW5 ▸ p6.kp.set (.inl rfl) _ _⟩
    have e : ((E.set 0 xl).set l Re.ze).length = l + 1 := by rw [List.length_set, List.length_set]; exact hn
    have r := p6.row
    rw [← e] at r
    have r' := r.take l (by rw [e]; omega)
    rw [tk] at r'
    exact r'.same (fun g' q => by cases q; rw [← hW5]; exact Below.heap_setCell _ _ _ _ (fun q => gh q.symm))
  have DC := hid (DN W5 p7.hb p7.row)
  have FB : Hid (∀ W6, Re.RowE base W6 (.slice (some ⟨g, 0, none⟩) l cap) D → Re.Kp (fun b => b = g) W5 W6 → Re.PS base w h g w.heap.size wa.heap.size (fun b => b = h ∨ b = g) (.slice (some ⟨g, 0, none⟩) l cap) D #[.bool false, .int .i64 0, .string ⟨#[]⟩, .int .i64 0, .int .i64 0, .int .u64 0, .string ⟨#[]⟩] (Re.ee x0).toArray W6) := fun W6 r k =>
    ⟨p7.hb.kp k gh, r, p7.rb.kp k (by omega), p7.fb.kp k fg, p7.kp.trans (k.mono (fun b q => .inr q))⟩
  have h4 : Hid (W4.cell? ⟨h, 0, none⟩ = some (.slice (some ⟨g, 0, none⟩) (l + 1) cap) ∧ W4.frozen? ⟨h, 0, none⟩ = false) := ⟨p6.hb.cell 0 _ rfl, p6.hb.free 0⟩
  have nX : Hid ((Tryz.prog.info? 87).map (·.size) = some (Re.ee x0).length) := by rw [Hid, Re.ee_len]; exact iE
  have nL : Hid ((Tryz.prog.info? 87).map (·.size) = some (Re.ee xl).length) := by rw [Hid, Re.ee_len]; exact iE
  have nX2 : Hid ((Tryz.prog.info? 87).map (·.size) = some (Re.ee x0).toArray.size) := by rw [Hid, s7]; exact iE
  have nL2 : Hid ((Tryz.prog.info? 87).map (·.size) = some (Re.ee xl).toArray.size) := by rw [Hid, s7]; exact iE
  have oX : Hid ((Re.ee x0).toArray.all (·.oneCell') = true) := all_oneCell_toArray (Re.ee_one x0)
  have oL : Hid ((Re.ee xl).toArray.all (·.oneCell') = true) := all_oneCell_toArray (Re.ee_one xl)
  obtain ⟨t, p, u, ex, -⟩ := Re.ee_ex x0
  have EX := hid ex
  have HGL : Hid (g < w.heap.size ∧ h < w.heap.size) := ⟨hgl, hhl⟩
  have rX := hid S0.out.2
  have rX1 := hid S1.out.2
  have li : (l : Int) < (l : Int) + 1 := by omega
  have le1 : (l : Int) ≤ (l : Int) + 1 := by omega
  have lb : (l : Int) ≤ 999999999999 := by omega
  have cb : (cap : Int) ≤ 9223372036854775807 := by omega
  have lc : (l : Int) + 1 ≤ (cap : Int) := by omega
  have w1 : IntKind.i64.wrap (l : Int) = (l : Int) := by rw [IntKind.wrap_i64]; omega
  clear hx0 hxl DN hgl hhl hh hr hl hc hcap p0 d0 p1 b1 p2 f2 c1 rowr rowl fg fh th2 s7 p3 p4 r4 r5 p5 th4 p6 tk p7 iE sz hw ex hn gh
  generalize hcx : Re.ee x0 = cX at *
  have HC := hid hcx
  clear hcx
  generalize Re.ee xl = cL at *
  refine wp_region_held_drew (S := (fun wx : World => wx.cell? ⟨h, 0, none⟩ = some (.slice (some ⟨g, 0, none⟩) (l + 1) cap) ∧ wx.rangeAt g 0 cX)) (by kernel_rfl) S0.out (fun hHeld => ?_)
  refine wpAnyH_take (i := 0) (oi := { dst := some 5, op := Go.Op.move (Go.Operand.tmp 0), type := 89, pos := "heap.go:17", after := #[], guard := none }) (v := ?_) rfl (by kernel_rfl) (by kernel_rfl) (by kernel_rfl) (fun _ _ _ h => h) (Or.inl ⟨by rfl, ?_⟩) (by assumption) ?_
  rotate_left
  · (intro w hSw; (try dsimp only at hSw); go_simp; try with_reducible rfl)
  (try simp only [Act.put]); (try simp only [List.setIfInBounds_toArray]); (try simp only [List.set_cons_succ]); (try simp only [List.set_cons_zero])
  refine wpAnyH_take (i := 1) (oi := { dst := some 6, op := Go.Op.nilCheck (Go.Operand.tmp 5), type := 0, pos := "heap.go:17", after := #[{ on := 0, ground := Go.Ground.data }], guard := none }) (v := ?_) rfl (by kernel_rfl) (by kernel_rfl) (by kernel_rfl) (fun _ _ _ h => h) (Or.inl ⟨by rfl, ?_⟩) (by assumption) ?_
  rotate_left
  · (intro w hSw; (try dsimp only at hSw); go_simp; try with_reducible rfl)
  (try simp only [Act.put]); (try simp only [List.setIfInBounds_toArray]); (try simp only [List.set_cons_succ]); (try simp only [List.set_cons_zero])
  refine wpAnyH_take (i := 2) (oi := { dst := some 7, op := Go.Op.fieldAddr 92 (Go.Operand.tmp 6) 0, type := 0, pos := "heap.go:17", after := #[{ on := 1, ground := Go.Ground.data }], guard := none }) (v := ?_) rfl (by kernel_rfl) (by kernel_rfl) (by kernel_rfl) (fun _ _ _ h => h) (Or.inl ⟨by rfl, ?_⟩) (by assumption) ?_
  rotate_left
  · (intro w hSw; (try dsimp only at hSw); go_simp; try with_reducible rfl)
  (try simp only [Act.put]); (try simp only [List.setIfInBounds_toArray]); (try simp only [List.set_cons_succ]); (try simp only [List.set_cons_zero])
  refine wpAnyH_take (i := 3) (oi := { dst := some 8, op := Go.Op.load 90 (Go.Operand.tmp 7), type := 90, pos := "heap.go:17", after := #[{ on := 2, ground := Go.Ground.data }], guard := none }) (v := ?_) rfl (by kernel_rfl) (by kernel_rfl) (by kernel_rfl) (fun _ _ _ h => h) (Or.inl ⟨by rfl, ?_⟩) (by assumption) ?_
  rotate_left
  · (intro w hSw; (try dsimp only at hSw); go_simp; try with_reducible rfl)
  (try simp only [Act.put]); (try simp only [List.setIfInBounds_toArray]); (try simp only [List.set_cons_succ]); (try simp only [List.set_cons_zero])
  refine wpAnyH_take (i := 4) (oi := { dst := some 9, op := Go.Op.indexAddr 90 (Go.Operand.tmp 8) (Go.Operand.const (Go.Value.int Go.IntKind.i64 0)), type := 0, pos := "heap.go:17", after := #[{ on := 3, ground := Go.Ground.data }], guard := none }) (v := ?_) rfl (by kernel_rfl) (by kernel_rfl) (by kernel_rfl) (fun _ _ _ h => h) (Or.inl ⟨by rfl, ?_⟩) (by assumption) ?_
  rotate_left
  · (intro w hSw; (try dsimp only at hSw); go_simp; try with_reducible rfl)
  (try simp only [Act.put]); (try simp only [List.setIfInBounds_toArray]); (try simp only [List.set_cons_succ]); (try simp only [List.set_cons_zero])
  refine wpAnyH_take (i := 6) (oi := { dst := some 11, op := Go.Op.move (Go.Operand.tmp 0), type := 89, pos := "heap.go:17", after := #[], guard := none }) (v := ?_) rfl (by kernel_rfl) (by kernel_rfl) (by kernel_rfl) (fun _ _ _ h => h) (Or.inl ⟨by rfl, ?_⟩) (by assumption) ?_
  rotate_left
  · (intro w hSw; (try dsimp only at hSw); go_simp; try with_reducible rfl)
  (try simp only [Act.put]); (try simp only [List.setIfInBounds_toArray]); (try simp only [List.set_cons_succ]); (try simp only [List.set_cons_zero])
  refine wpAnyH_take (i := 7) (oi := { dst := some 12, op := Go.Op.nilCheck (Go.Operand.tmp 11), type := 0, pos := "heap.go:17", after := #[{ on := 6, ground := Go.Ground.data }], guard := none }) (v := ?_) rfl (by kernel_rfl) (by kernel_rfl) (by kernel_rfl) (fun _ _ _ h => h) (Or.inl ⟨by rfl, ?_⟩) (by assumption) ?_
  rotate_left
  · (intro w hSw; (try dsimp only at hSw); go_simp; try with_reducible rfl)
  (try simp only [Act.put]); (try simp only [List.setIfInBounds_toArray]); (try simp only [List.set_cons_succ]); (try simp only [List.set_cons_zero])
  refine wpAnyH_take (i := 8) (oi := { dst := some 13, op := Go.Op.fieldAddr 92 (Go.Operand.tmp 12) 0, type := 0, pos := "heap.go:17", after := #[{ on := 7, ground := Go.Ground.data }], guard := none }) (v := ?_) rfl (by kernel_rfl) (by kernel_rfl) (by kernel_rfl) (fun _ _ _ h => h) (Or.inl ⟨by rfl, ?_⟩) (by assumption) ?_
  rotate_left
  · (intro w hSw; (try dsimp only at hSw); go_simp; try with_reducible rfl)
  (try simp only [Act.put]); (try simp only [List.setIfInBounds_toArray]); (try simp only [List.set_cons_succ]); (try simp only [List.set_cons_zero])
  refine wpAnyH_take (i := 9) (oi := { dst := some 14, op := Go.Op.load 90 (Go.Operand.tmp 13), type := 90, pos := "heap.go:17", after := #[{ on := 8, ground := Go.Ground.data }], guard := none }) (v := ?_) rfl (by kernel_rfl) (by kernel_rfl) (by kernel_rfl) (fun _ _ _ h => h) (Or.inl ⟨by rfl, ?_⟩) (by assumption) ?_
  rotate_left
  · (intro w hSw; (try dsimp only at hSw); go_simp; try with_reducible rfl)
  (try simp only [Act.put]); (try simp only [List.setIfInBounds_toArray]); (try simp only [List.set_cons_succ]); (try simp only [List.set_cons_zero])
  refine wpAnyH_take (i := 10) (oi := { dst := some 15, op := Go.Op.call { callee := Go.Callee.builtin Go.Builtin.len, args := #[Go.Operand.tmp 14], argTypes := #[90] }, type := 3, pos := "heap.go:17", after := #[{ on := 9, ground := Go.Ground.data }], guard := none }) (v := ?_) rfl (by kernel_rfl) (by kernel_rfl) (by kernel_rfl) (fun _ _ _ h => h) (Or.inl ⟨by rfl, ?_⟩) (by assumption) ?_
  rotate_left
  · (intro w hSw; (try dsimp only at hSw); go_simp; try with_reducible rfl)
  (try simp only [Act.put]); (try simp only [List.setIfInBounds_toArray]); (try simp only [List.set_cons_succ]); (try simp only [List.set_cons_zero])
  refine wpAnyH_take (i := 11) (oi := { dst := some 16, op := Go.Op.binOp Go.BinOp.sub 3 (Go.Operand.tmp 15) (Go.Operand.const (Go.Value.int Go.IntKind.i64 1)) 3, type := 3, pos := "heap.go:17", after := #[{ on := 10, ground := Go.Ground.data }, { on := 13, ground := Go.Ground.gcOnly Go.Departure.lateStores }], guard := none }) (v := ?_) rfl (by kernel_rfl) (by kernel_rfl) (by kernel_rfl) (fun _ _ _ h => h) (Or.inl ⟨by rfl, ?_⟩) (by assumption) ?_
  rotate_left
  · (intro w hSw; (try dsimp only at hSw); go_simp; try with_reducible rfl)
  (try simp only [Act.put]); (try simp only [List.setIfInBounds_toArray]); (try simp only [List.set_cons_succ]); (try simp only [List.set_cons_zero])
  refine wpAnyH_ready (rs := [5, 12]) (by kernel_rfl) (by simp) ?_
  refine AllReadyH.cons (o := { dst := some 10, op := Go.Op.load 87 (Go.Operand.tmp 9), type := 87, pos := "heap.go:17", after := #[{ on := 4, ground := Go.Ground.data }], guard := none }) rfl (fun K hK => ?_) (AllReadyH.cons (o := { dst := some 3, op := Go.Op.alloc 87, type := 0, pos := "heap.go:17", after := #[], guard := none }) rfl (fun K hK => ?_) (AllReadyH.nil))
  · rw [if_pos (by rfl)]
    first | refine wp_load_mid 87 _ rfl g 0 rfl cX _ rX.out Tryz.underlying87 rfl nX.out ?_ | refine wp_load_mid 87 _ rfl g 0 rfl cX _ rX1.out Tryz.underlying87 rfl nX.out ?_
    (try simp only [Act.put]); (try simp only [List.setIfInBounds_toArray]); (try simp only [List.set_cons_succ]); (try simp only [List.set_cons_zero])
    refine hK.out _ _ (by first | exact S0.out | exact S1.out) (fun hHeld => ?_)
    clear hK K
    refine wpAnyH_ready (rs := [12]) (by kernel_rfl) (by simp) ?_
    refine AllReadyH.cons (o := { dst := some 3, op := Go.Op.alloc 87, type := 0, pos := "heap.go:17", after := #[], guard := none }) rfl (fun K hK => ?_) (AllReadyH.nil)
    · rw [if_pos (by rfl)]
      go_simp
      (try simp only [Act.put]); (try simp only [List.setIfInBounds_toArray]); (try simp only [List.set_cons_succ]); (try simp only [List.set_cons_zero])
      refine hK.out _ _ S1.out (fun hHeld => ?_)
      clear hK K
      refine wpAnyH_ready (rs := [13]) (by kernel_rfl) (by simp) ?_
      refine AllReadyH.cons (o := { dst := none, op := Go.Op.store 87 (Go.Operand.tmp 3) (Go.Operand.tmp 10), type := 0, pos := "heap.go:17", after := #[{ on := 12, ground := Go.Ground.data }, { on := 5, ground := Go.Ground.data }, { on := 0, ground := Go.Ground.phase }, { on := 1, ground := Go.Ground.phase }, { on := 2, ground := Go.Ground.phase }, { on := 3, ground := Go.Ground.phase }, { on := 4, ground := Go.Ground.phase }, { on := 5, ground := Go.Ground.phase }, { on := 6, ground := Go.Ground.textOnly Go.Departure.lateStores }, { on := 7, ground := Go.Ground.textOnly Go.Departure.lateStores }, { on := 8, ground := Go.Ground.textOnly Go.Departure.lateStores }, { on := 9, ground := Go.Ground.textOnly Go.Departure.lateStores }, { on := 10, ground := Go.Ground.textOnly Go.Departure.lateStoresUnsure }, { on := 11, ground := Go.Ground.textOnly Go.Departure.lateStores }, { on := 12, ground := Go.Ground.phase }], guard := none }) rfl (fun K hK => ?_) (AllReadyH.nil)
      · rw [if_pos (by rfl)]
        refine wp_store_mid 87 _ _ rfl wa.heap.size 0 cX.toArray rfl rfl tF.out nX2.out oX.out ?_
        change K _ (W1.setCells wa.heap.size 0 cX)
        rw [hW2]
        (try simp only [Act.put]); (try simp only [List.setIfInBounds_toArray]); (try simp only [List.set_cons_succ]); (try simp only [List.set_cons_zero])
        refine hK.out _ _ S2.out (fun hHeld => ?_)
        clear hK K
        refine wpAnyH_take (i := 14) (oi := { dst := some 4, op := Go.Op.assign (Go.Operand.tmp 16), type := 3, pos := "heap.go:17", after := #[{ on := 11, ground := Go.Ground.data }, { on := 13, ground := Go.Ground.chain }, { on := 0, ground := Go.Ground.phase }, { on := 1, ground := Go.Ground.phase }, { on := 2, ground := Go.Ground.phase }, { on := 3, ground := Go.Ground.phase }, { on := 4, ground := Go.Ground.phase }, { on := 5, ground := Go.Ground.phase }, { on := 6, ground := Go.Ground.phase }, { on := 7, ground := Go.Ground.phase }, { on := 8, ground := Go.Ground.phase }, { on := 9, ground := Go.Ground.phase }, { on := 10, ground := Go.Ground.phase }, { on := 11, ground := Go.Ground.phase }, { on := 12, ground := Go.Ground.phase }, { on := 13, ground := Go.Ground.phase }], guard := none }) (v := ?_) rfl (by kernel_rfl) (by kernel_rfl) (by kernel_rfl) (fun _ _ _ h => h) (Or.inl ⟨by rfl, ?_⟩) (by assumption) ?_
        rotate_left
        · (intro w hSw; (try dsimp only at hSw); go_simp; try with_reducible rfl)
        (try simp only [Act.put]); (try simp only [List.setIfInBounds_toArray]); (try simp only [List.set_cons_succ]); (try simp only [List.set_cons_zero])
        refine wpAnyH_done (by kernel_rfl) ?_ _
        go_upto_region 2 with fail
        refine wp_region_held_drew (S := (fun wx : World => wx.cell? ⟨h, 0, none⟩ = some (.slice (some ⟨g, 0, none⟩) (l + 1) cap))) (by kernel_rfl) h2.out (fun hHeld => ?_)
        refine wpAnyH_take (i := 0) (oi := { dst := some 17, op := Go.Op.move (Go.Operand.tmp 0), type := 89, pos := "heap.go:18", after := #[], guard := none }) (v := ?_) rfl (by kernel_rfl) (by kernel_rfl) (by kernel_rfl) (fun _ _ _ h => h) (Or.inl ⟨by rfl, ?_⟩) (by assumption) ?_
        rotate_left
        · (intro w hSw; (try dsimp only at hSw); go_simp; try with_reducible rfl)
        (try simp only [Act.put]); (try simp only [List.setIfInBounds_toArray]); (try simp only [List.set_cons_succ]); (try simp only [List.set_cons_zero])
        refine wpAnyH_take (i := 1) (oi := { dst := some 18, op := Go.Op.nilCheck (Go.Operand.tmp 17), type := 0, pos := "heap.go:18", after := #[{ on := 0, ground := Go.Ground.data }], guard := none }) (v := ?_) rfl (by kernel_rfl) (by kernel_rfl) (by kernel_rfl) (fun _ _ _ h => h) (Or.inl ⟨by rfl, ?_⟩) (by assumption) ?_
        rotate_left
        · (intro w hSw; (try dsimp only at hSw); go_simp; try with_reducible rfl)
        (try simp only [Act.put]); (try simp only [List.setIfInBounds_toArray]); (try simp only [List.set_cons_succ]); (try simp only [List.set_cons_zero])
        refine wpAnyH_take (i := 2) (oi := { dst := some 19, op := Go.Op.fieldAddr 92 (Go.Operand.tmp 18) 0, type := 0, pos := "heap.go:18", after := #[{ on := 1, ground := Go.Ground.data }], guard := none }) (v := ?_) rfl (by kernel_rfl) (by kernel_rfl) (by kernel_rfl) (fun _ _ _ h => h) (Or.inl ⟨by rfl, ?_⟩) (by assumption) ?_
        rotate_left
        · (intro w hSw; (try dsimp only at hSw); go_simp; try with_reducible rfl)
        (try simp only [Act.put]); (try simp only [List.setIfInBounds_toArray]); (try simp only [List.set_cons_succ]); (try simp only [List.set_cons_zero])
        refine wpAnyH_take (i := 3) (oi := { dst := some 20, op := Go.Op.load 90 (Go.Operand.tmp 19), type := 90, pos := "heap.go:18", after := #[{ on := 2, ground := Go.Ground.data }], guard := none }) (v := ?_) rfl (by kernel_rfl) (by kernel_rfl) (by kernel_rfl) (fun _ _ _ h => h) (Or.inl ⟨by rfl, ?_⟩) (by assumption) ?_
        rotate_left
        · (intro w hSw; (try dsimp only at hSw); go_simp; try with_reducible rfl)
        (try simp only [Act.put]); (try simp only [List.setIfInBounds_toArray]); (try simp only [List.set_cons_succ]); (try simp only [List.set_cons_zero])
        refine wpAnyH_take (i := 4) (oi := { dst := some 21, op := Go.Op.move (Go.Operand.tmp 0), type := 89, pos := "heap.go:18", after := #[], guard := none }) (v := ?_) rfl (by kernel_rfl) (by kernel_rfl) (by kernel_rfl) (fun _ _ _ h => h) (Or.inl ⟨by rfl, ?_⟩) (by assumption) ?_
        rotate_left
        · (intro w hSw; (try dsimp only at hSw); go_simp; try with_reducible rfl)
        (try simp only [Act.put]); (try simp only [List.setIfInBounds_toArray]); (try simp only [List.set_cons_succ]); (try simp only [List.set_cons_zero])
        refine wpAnyH_take (i := 5) (oi := { dst := some 22, op := Go.Op.nilCheck (Go.Operand.tmp 21), type := 0, pos := "heap.go:18", after := #[{ on := 4, ground := Go.Ground.data }], guard := none }) (v := ?_) rfl (by kernel_rfl) (by kernel_rfl) (by kernel_rfl) (fun _ _ _ h => h) (Or.inl ⟨by rfl, ?_⟩) (by assumption) ?_
        rotate_left
        · (intro w hSw; (try dsimp only at hSw); go_simp; try with_reducible rfl)
        (try simp only [Act.put]); (try simp only [List.setIfInBounds_toArray]); (try simp only [List.set_cons_succ]); (try simp only [List.set_cons_zero])
        refine wpAnyH_take (i := 6) (oi := { dst := some 23, op := Go.Op.fieldAddr 92 (Go.Operand.tmp 22) 0, type := 0, pos := "heap.go:18", after := #[{ on := 5, ground := Go.Ground.data }], guard := none }) (v := ?_) rfl (by kernel_rfl) (by kernel_rfl) (by kernel_rfl) (fun _ _ _ h => h) (Or.inl ⟨by rfl, ?_⟩) (by assumption) ?_
        rotate_left
        · (intro w hSw; (try dsimp only at hSw); go_simp; try with_reducible rfl)
        (try simp only [Act.put]); (try simp only [List.setIfInBounds_toArray]); (try simp only [List.set_cons_succ]); (try simp only [List.set_cons_zero])
        refine wpAnyH_take (i := 7) (oi := { dst := some 24, op := Go.Op.load 90 (Go.Operand.tmp 23), type := 90, pos := "heap.go:18", after := #[{ on := 6, ground := Go.Ground.data }], guard := none }) (v := ?_) rfl (by kernel_rfl) (by kernel_rfl) (by kernel_rfl) (fun _ _ _ h => h) (Or.inl ⟨by rfl, ?_⟩) (by assumption) ?_
        rotate_left
        · (intro w hSw; (try dsimp only at hSw); go_simp; try with_reducible rfl)
        (try simp only [Act.put]); (try simp only [List.setIfInBounds_toArray]); (try simp only [List.set_cons_succ]); (try simp only [List.set_cons_zero])
        refine wpAnyH_take (i := 8) (oi := { dst := some 25, op := Go.Op.move (Go.Operand.tmp 4), type := 3, pos := "heap.go:18", after := #[], guard := none }) (v := ?_) rfl (by kernel_rfl) (by kernel_rfl) (by kernel_rfl) (fun _ _ _ h => h) (Or.inl ⟨by rfl, ?_⟩) (by assumption) ?_
        rotate_left
        · (intro w hSw; (try dsimp only at hSw); go_simp; try with_reducible rfl)
        (try simp only [Act.put]); (try simp only [List.setIfInBounds_toArray]); (try simp only [List.set_cons_succ]); (try simp only [List.set_cons_zero])
        refine wpAnyH_take (i := 9) (oi := { dst := some 26, op := Go.Op.indexAddr 90 (Go.Operand.tmp 24) (Go.Operand.tmp 25), type := 0, pos := "heap.go:18", after := #[{ on := 7, ground := Go.Ground.data }, { on := 8, ground := Go.Ground.data }], guard := none }) (v := ?_) rfl (by kernel_rfl) (by kernel_rfl) (by kernel_rfl) (fun _ _ _ h => h) (Or.inl ⟨by rfl, ?_⟩) (by assumption) ?_
        rotate_left
        · (intro w hSw; (try dsimp only at hSw); go_simp; try with_reducible rfl)
        (try simp only [Act.put]); (try simp only [List.setIfInBounds_toArray]); (try simp only [List.set_cons_succ]); (try simp only [List.set_cons_zero])
        refine wpAnyH_ready (rs := [10]) (by kernel_rfl) (by simp) ?_
        refine AllReadyH.cons (o := { dst := some 27, op := Go.Op.load 87 (Go.Operand.tmp 26), type := 87, pos := "heap.go:18", after := #[{ on := 9, ground := Go.Ground.data }], guard := none }) rfl (fun K hK => ?_) (AllReadyH.nil)
        · rw [if_pos (by rfl)]
          refine wp_load_mid 87 _ rfl g (l * 7) rfl cL _ rL.out Tryz.underlying87 rfl nL.out ?_
          (try simp only [Act.put]); (try simp only [List.setIfInBounds_toArray]); (try simp only [List.set_cons_succ]); (try simp only [List.set_cons_zero])
          refine hK.out _ _ h2.out (fun hHeld => ?_)
          clear hK K
          refine wpAnyH_take (i := 11) (oi := { dst := some 28, op := Go.Op.indexAddr 90 (Go.Operand.tmp 20) (Go.Operand.const (Go.Value.int Go.IntKind.i64 0)), type := 0, pos := "heap.go:18", after := #[{ on := 3, ground := Go.Ground.data }, { on := 0, ground := Go.Ground.phase }, { on := 1, ground := Go.Ground.phase }, { on := 2, ground := Go.Ground.phase }, { on := 3, ground := Go.Ground.phase }, { on := 4, ground := Go.Ground.phase }, { on := 5, ground := Go.Ground.phase }, { on := 6, ground := Go.Ground.phase }, { on := 7, ground := Go.Ground.phase }, { on := 8, ground := Go.Ground.phase }, { on := 9, ground := Go.Ground.phase }, { on := 10, ground := Go.Ground.phase }], guard := none }) (v := ?_) rfl (by kernel_rfl) (by kernel_rfl) (by kernel_rfl) (fun _ _ _ h => h) (Or.inl ⟨by rfl, ?_⟩) (by assumption) ?_
          rotate_left
          · (intro w hSw; (try dsimp only at hSw); go_simp; try with_reducible rfl)
          (try simp only [Act.put]); (try simp only [List.setIfInBounds_toArray]); (try simp only [List.set_cons_succ]); (try simp only [List.set_cons_zero])
          refine wpAnyH_ready (rs := [12]) (by kernel_rfl) (by simp) ?_
          refine AllReadyH.cons (o := { dst := none, op := Go.Op.store 87 (Go.Operand.tmp 28) (Go.Operand.tmp 27), type := 0, pos := "heap.go:18", after := #[{ on := 11, ground := Go.Ground.data }, { on := 10, ground := Go.Ground.data }, { on := 0, ground := Go.Ground.phase }, { on := 1, ground := Go.Ground.phase }, { on := 2, ground := Go.Ground.phase }, { on := 3, ground := Go.Ground.phase }, { on := 4, ground := Go.Ground.phase }, { on := 5, ground := Go.Ground.phase }, { on := 6, ground := Go.Ground.phase }, { on := 7, ground := Go.Ground.phase }, { on := 8, ground := Go.Ground.phase }, { on := 9, ground := Go.Ground.phase }, { on := 10, ground := Go.Ground.phase }], guard := none }) rfl (fun K hK => ?_) (AllReadyH.nil)
          · rw [if_pos (by rfl)]
            refine wp_store_mid 87 _ _ rfl g 0 cL.toArray rfl rfl tG.out nL2.out oL.out ?_
            change K _ (W2.drew.setCells g 0 cL)
            rw [hW3]
            (try simp only [Act.put]); (try simp only [List.setIfInBounds_toArray]); (try simp only [List.set_cons_succ]); (try simp only [List.set_cons_zero])
            refine hK.out _ _ h3.out (fun hHeld => ?_)
            clear hK K
            refine wpAnyH_done (by kernel_rfl) ?_ _
            clear S0 S1 S2 h2 rX rX1 rL tF tG nX nL nX2 nL2 oX oL hW1 hW2 hW3 hW4 stz
            have ecX := EX.out
            subst ecX
            clear hHeld
            have h3' := h3.out
            obtain ⟨h4', f4⟩ := h4.out
            clear h3 h4
            go_wp2_with fail
            refine DC.out.mono ?_
            rintro e w6 ⟨rfl, r6, k6⟩
            have P6 := hid (FB.out w6 r6 k6)
            clear r6 k6 DC FB
            have a0 := P6.out.fb.cell 0 _ rfl
            have a1 := P6.out.fb.cell 1 _ rfl
            have a2 := P6.out.fb.cell 2 _ rfl
            have a3 := P6.out.fb.cell 3 _ rfl
            have a4 := P6.out.fb.cell 4 _ rfl
            have a5 := P6.out.fb.cell 5 _ rfl
            have a6 := P6.out.fb.cell 6 _ rfl
            have z0 := P6.out.rb.cell 0 _ rfl
            have z1 := P6.out.rb.cell 1 _ rfl
            have z2 := P6.out.rb.cell 2 _ rfl
            have z3 := P6.out.rb.cell 3 _ rfl
            have z4 := P6.out.rb.cell 4 _ rfl
            have z5 := P6.out.rb.cell 5 _ rfl
            have z6 := P6.out.rb.cell 6 _ rfl
            have f0 := P6.out.rb.free 0
            have f1 := P6.out.rb.free 1
            have f2 := P6.out.rb.free 2
            have f3 := P6.out.rb.free 3
            have f40 := P6.out.rb.free 4
            have f5 := P6.out.rb.free 5
            have f6 := P6.out.rb.free 6
            go_wp2_with fail
            (try simp only [Exit.inBlock, Exit.then])
            refine bodyPost_ret (results_cell_row rfl _ _ w.heap.size 87 _ (0, 0) _ rfl (((((((P6.out.rb.set 0 _).set 1 _).set 2 _).set 3 _).set 4 _).set 5 _).set 6 _) Tryz.underlying87 rfl (by kernel_rfl)) rfl ?_
            refine ⟨by rw [HC.out]; rfl, ?_, ?_, ?_⟩
            · exact Bx.setc (vs := [.bool t, .int .i64 p, .string u, .int .i64 x0.x.i, .int .i64 x0.k, .int .u64 x0.n, .string x0.s]) (o := 0) P6.out.hb (by have := HGL.out; omega)
            · exact P6.out.row.same (fun g' e => by cases e; exact (Re.setCells_all _ [.bool t, .int .i64 p, .string u, .int .i64 x0.x.i, .int .i64 x0.k, .int .u64 x0.n, .string x0.s] 0 _).2.2.2.2 g (by have := HGL.out; omega))
            · exact P6.out.kp.setcs (.inr (Nat.le_refl _)) 0 [.bool t, .int .i64 p, .string u, .int .i64 x0.x.i, .int .i64 x0.k, .int .u64 x0.n, .string x0.s]
  · rw [if_pos (by rfl)]
    go_simp
    (try simp only [Act.put]); (try simp only [List.setIfInBounds_toArray]); (try simp only [List.set_cons_succ]); (try simp only [List.set_cons_zero])
    refine hK.out _ _ S1.out (fun hHeld => ?_)
    clear hK K
    refine wpAnyH_ready (rs := [5]) (by kernel_rfl) (by simp) ?_
    refine AllReadyH.cons (o := { dst := some 10, op := Go.Op.load 87 (Go.Operand.tmp 9), type := 87, pos := "heap.go:17", after := #[{ on := 4, ground := Go.Ground.data }], guard := none }) rfl (fun K hK => ?_) (AllReadyH.nil)
    · rw [if_pos (by rfl)]
      first | refine wp_load_mid 87 _ rfl g 0 rfl cX _ rX.out Tryz.underlying87 rfl nX.out ?_ | refine wp_load_mid 87 _ rfl g 0 rfl cX _ rX1.out Tryz.underlying87 rfl nX.out ?_
      (try simp only [Act.put]); (try simp only [List.setIfInBounds_toArray]); (try simp only [List.set_cons_succ]); (try simp only [List.set_cons_zero])
      refine hK.out _ _ (by first | exact S0.out | exact S1.out) (fun hHeld => ?_)
      clear hK K
      refine wpAnyH_ready (rs := [13]) (by kernel_rfl) (by simp) ?_
      refine AllReadyH.cons (o := { dst := none, op := Go.Op.store 87 (Go.Operand.tmp 3) (Go.Operand.tmp 10), type := 0, pos := "heap.go:17", after := #[{ on := 12, ground := Go.Ground.data }, { on := 5, ground := Go.Ground.data }, { on := 0, ground := Go.Ground.phase }, { on := 1, ground := Go.Ground.phase }, { on := 2, ground := Go.Ground.phase }, { on := 3, ground := Go.Ground.phase }, { on := 4, ground := Go.Ground.phase }, { on := 5, ground := Go.Ground.phase }, { on := 6, ground := Go.Ground.textOnly Go.Departure.lateStores }, { on := 7, ground := Go.Ground.textOnly Go.Departure.lateStores }, { on := 8, ground := Go.Ground.textOnly Go.Departure.lateStores }, { on := 9, ground := Go.Ground.textOnly Go.Departure.lateStores }, { on := 10, ground := Go.Ground.textOnly Go.Departure.lateStoresUnsure }, { on := 11, ground := Go.Ground.textOnly Go.Departure.lateStores }, { on := 12, ground := Go.Ground.phase }], guard := none }) rfl (fun K hK => ?_) (AllReadyH.nil)
      · rw [if_pos (by rfl)]
        refine wp_store_mid 87 _ _ rfl wa.heap.size 0 cX.toArray rfl rfl tF.out nX2.out oX.out ?_
        change K _ (W1.setCells wa.heap.size 0 cX)
        rw [hW2]
        (try simp only [Act.put]); (try simp only [List.setIfInBounds_toArray]); (try simp only [List.set_cons_succ]); (try simp only [List.set_cons_zero])
        refine hK.out _ _ S2.out (fun hHeld => ?_)
        clear hK K
        refine wpAnyH_take (i := 14) (oi := { dst := some 4, op := Go.Op.assign (Go.Operand.tmp 16), type := 3, pos := "heap.go:17", after := #[{ on := 11, ground := Go.Ground.data }, { on := 13, ground := Go.Ground.chain }, { on := 0, ground := Go.Ground.phase }, { on := 1, ground := Go.Ground.phase }, { on := 2, ground := Go.Ground.phase }, { on := 3, ground := Go.Ground.phase }, { on := 4, ground := Go.Ground.phase }, { on := 5, ground := Go.Ground.phase }, { on := 6, ground := Go.Ground.phase }, { on := 7, ground := Go.Ground.phase }, { on := 8, ground := Go.Ground.phase }, { on := 9, ground := Go.Ground.phase }, { on := 10, ground := Go.Ground.phase }, { on := 11, ground := Go.Ground.phase }, { on := 12, ground := Go.Ground.phase }, { on := 13, ground := Go.Ground.phase }], guard := none }) (v := ?_) rfl (by kernel_rfl) (by kernel_rfl) (by kernel_rfl) (fun _ _ _ h => h) (Or.inl ⟨by rfl, ?_⟩) (by assumption) ?_
        rotate_left
        · (intro w hSw; (try dsimp only at hSw); go_simp; try with_reducible rfl)
        (try simp only [Act.put]); (try simp only [List.setIfInBounds_toArray]); (try simp only [List.set_cons_succ]); (try simp only [List.set_cons_zero])
        refine wpAnyH_done (by kernel_rfl) ?_ _
        go_upto_region 2 with fail
        refine wp_region_held_drew (S := (fun wx : World => wx.cell? ⟨h, 0, none⟩ = some (.slice (some ⟨g, 0, none⟩) (l + 1) cap))) (by kernel_rfl) h2.out (fun hHeld => ?_)
        refine wpAnyH_take (i := 0) (oi := { dst := some 17, op := Go.Op.move (Go.Operand.tmp 0), type := 89, pos := "heap.go:18", after := #[], guard := none }) (v := ?_) rfl (by kernel_rfl) (by kernel_rfl) (by kernel_rfl) (fun _ _ _ h => h) (Or.inl ⟨by rfl, ?_⟩) (by assumption) ?_
        rotate_left
        · (intro w hSw; (try dsimp only at hSw); go_simp; try with_reducible rfl)
        (try simp only [Act.put]); (try simp only [List.setIfInBounds_toArray]); (try simp only [List.set_cons_succ]); (try simp only [List.set_cons_zero])
        refine wpAnyH_take (i := 1) (oi := { dst := some 18, op := Go.Op.nilCheck (Go.Operand.tmp 17), type := 0, pos := "heap.go:18", after := #[{ on := 0, ground := Go.Ground.data }], guard := none }) (v := ?_) rfl (by kernel_rfl) (by kernel_rfl) (by kernel_rfl) (fun _ _ _ h => h) (Or.inl ⟨by rfl, ?_⟩) (by assumption) ?_
        rotate_left
        · (intro w hSw; (try dsimp only at hSw); go_simp; try with_reducible rfl)
        (try simp only [Act.put]); (try simp only [List.setIfInBounds_toArray]); (try simp only [List.set_cons_succ]); (try simp only [List.set_cons_zero])
        refine wpAnyH_take (i := 2) (oi := { dst := some 19, op := Go.Op.fieldAddr 92 (Go.Operand.tmp 18) 0, type := 0, pos := "heap.go:18", after := #[{ on := 1, ground := Go.Ground.data }], guard := none }) (v := ?_) rfl (by kernel_rfl) (by kernel_rfl) (by kernel_rfl) (fun _ _ _ h => h) (Or.inl ⟨by rfl, ?_⟩) (by assumption) ?_
        rotate_left
        · (intro w hSw; (try dsimp only at hSw); go_simp; try with_reducible rfl)
        (try simp only [Act.put]); (try simp only [List.setIfInBounds_toArray]); (try simp only [List.set_cons_succ]); (try simp only [List.set_cons_zero])
        refine wpAnyH_take (i := 3) (oi := { dst := some 20, op := Go.Op.load 90 (Go.Operand.tmp 19), type := 90, pos := "heap.go:18", after := #[{ on := 2, ground := Go.Ground.data }], guard := none }) (v := ?_) rfl (by kernel_rfl) (by kernel_rfl) (by kernel_rfl) (fun _ _ _ h => h) (Or.inl ⟨by rfl, ?_⟩) (by assumption) ?_
        rotate_left
        · (intro w hSw; (try dsimp only at hSw); go_simp; try with_reducible rfl)
        (try simp only [Act.put]); (try simp only [List.setIfInBounds_toArray]); (try simp only [List.set_cons_succ]); (try simp only [List.set_cons_zero])
        refine wpAnyH_take (i := 4) (oi := { dst := some 21, op := Go.Op.move (Go.Operand.tmp 0), type := 89, pos := "heap.go:18", after := #[], guard := none }) (v := ?_) rfl (by kernel_rfl) (by kernel_rfl) (by kernel_rfl) (fun _ _ _ h => h) (Or.inl ⟨by rfl, ?_⟩) (by assumption) ?_
        rotate_left
        · (intro w hSw; (try dsimp only at hSw); go_simp; try with_reducible rfl)
        (try simp only [Act.put]); (try simp only [List.setIfInBounds_toArray]); (try simp only [List.set_cons_succ]); (try simp only [List.set_cons_zero])
        refine wpAnyH_take (i := 5) (oi := { dst := some 22, op := Go.Op.nilCheck (Go.Operand.tmp 21), type := 0, pos := "heap.go:18", after := #[{ on := 4, ground := Go.Ground.data }], guard := none }) (v := ?_) rfl (by kernel_rfl) (by kernel_rfl) (by kernel_rfl) (fun _ _ _ h => h) (Or.inl ⟨by rfl, ?_⟩) (by assumption) ?_
        rotate_left
        · (intro w hSw; (try dsimp only at hSw); go_simp; try with_reducible rfl)
        (try simp only [Act.put]); (try simp only [List.setIfInBounds_toArray]); (try simp only [List.set_cons_succ]); (try simp only [List.set_cons_zero])
        refine wpAnyH_take (i := 6) (oi := { dst := some 23, op := Go.Op.fieldAddr 92 (Go.Operand.tmp 22) 0, type := 0, pos := "heap.go:18", after := #[{ on := 5, ground := Go.Ground.data }], guard := none }) (v := ?_) rfl (by kernel_rfl) (by kernel_rfl) (by kernel_rfl) (fun _ _ _ h => h) (Or.inl ⟨by rfl, ?_⟩) (by assumption) ?_
        rotate_left
        · (intro w hSw; (try dsimp only at hSw); go_simp; try with_reducible rfl)
        (try simp only [Act.put]); (try simp only [List.setIfInBounds_toArray]); (try simp only [List.set_cons_succ]); (try simp only [List.set_cons_zero])
        refine wpAnyH_take (i := 7) (oi := { dst := some 24, op := Go.Op.load 90 (Go.Operand.tmp 23), type := 90, pos := "heap.go:18", after := #[{ on := 6, ground := Go.Ground.data }], guard := none }) (v := ?_) rfl (by kernel_rfl) (by kernel_rfl) (by kernel_rfl) (fun _ _ _ h => h) (Or.inl ⟨by rfl, ?_⟩) (by assumption) ?_
        rotate_left
        · (intro w hSw; (try dsimp only at hSw); go_simp; try with_reducible rfl)
        (try simp only [Act.put]); (try simp only [List.setIfInBounds_toArray]); (try simp only [List.set_cons_succ]); (try simp only [List.set_cons_zero])
        refine wpAnyH_take (i := 8) (oi := { dst := some 25, op := Go.Op.move (Go.Operand.tmp 4), type := 3, pos := "heap.go:18", after := #[], guard := none }) (v := ?_) rfl (by kernel_rfl) (by kernel_rfl) (by kernel_rfl) (fun _ _ _ h => h) (Or.inl ⟨by rfl, ?_⟩) (by assumption) ?_
        rotate_left
        · (intro w hSw; (try dsimp only at hSw); go_simp; try with_reducible rfl)
        (try simp only [Act.put]); (try simp only [List.setIfInBounds_toArray]); (try simp only [List.set_cons_succ]); (try simp only [List.set_cons_zero])
        refine wpAnyH_take (i := 9) (oi := { dst := some 26, op := Go.Op.indexAddr 90 (Go.Operand.tmp 24) (Go.Operand.tmp 25), type := 0, pos := "heap.go:18", after := #[{ on := 7, ground := Go.Ground.data }, { on := 8, ground := Go.Ground.data }], guard := none }) (v := ?_) rfl (by kernel_rfl) (by kernel_rfl) (by kernel_rfl) (fun _ _ _ h => h) (Or.inl ⟨by rfl, ?_⟩) (by assumption) ?_
        rotate_left
        · (intro w hSw; (try dsimp only at hSw); go_simp; try with_reducible rfl)
        (try simp only [Act.put]); (try simp only [List.setIfInBounds_toArray]); (try simp only [List.set_cons_succ]); (try simp only [List.set_cons_zero])
        refine wpAnyH_ready (rs := [10]) (by kernel_rfl) (by simp) ?_
        refine AllReadyH.cons (o := { dst := some 27, op := Go.Op.load 87 (Go.Operand.tmp 26), type := 87, pos := "heap.go:18", after := #[{ on := 9, ground := Go.Ground.data }], guard := none }) rfl (fun K hK => ?_) (AllReadyH.nil)
        · rw [if_pos (by rfl)]
          refine wp_load_mid 87 _ rfl g (l * 7) rfl cL _ rL.out Tryz.underlying87 rfl nL.out ?_
          (try simp only [Act.put]); (try simp only [List.setIfInBounds_toArray]); (try simp only [List.set_cons_succ]); (try simp only [List.set_cons_zero])
          refine hK.out _ _ h2.out (fun hHeld => ?_)
          clear hK K
          refine wpAnyH_take (i := 11) (oi := { dst := some 28, op := Go.Op.indexAddr 90 (Go.Operand.tmp 20) (Go.Operand.const (Go.Value.int Go.IntKind.i64 0)), type := 0, pos := "heap.go:18", after := #[{ on := 3, ground := Go.Ground.data }, { on := 0, ground := Go.Ground.phase }, { on := 1, ground := Go.Ground.phase }, { on := 2, ground := Go.Ground.phase }, { on := 3, ground := Go.Ground.phase }, { on := 4, ground := Go.Ground.phase }, { on := 5, ground := Go.Ground.phase }, { on := 6, ground := Go.Ground.phase }, { on := 7, ground := Go.Ground.phase }, { on := 8, ground := Go.Ground.phase }, { on := 9, ground := Go.Ground.phase }, { on := 10, ground := Go.Ground.phase }], guard := none }) (v := ?_) rfl (by kernel_rfl) (by kernel_rfl) (by kernel_rfl) (fun _ _ _ h => h) (Or.inl ⟨by rfl, ?_⟩) (by assumption) ?_
          rotate_left
          · (intro w hSw; (try dsimp only at hSw); go_simp; try with_reducible rfl)
          (try simp only [Act.put]); (try simp only [List.setIfInBounds_toArray]); (try simp only [List.set_cons_succ]); (try simp only [List.set_cons_zero])
          refine wpAnyH_ready (rs := [12]) (by kernel_rfl) (by simp) ?_
          refine AllReadyH.cons (o := { dst := none, op := Go.Op.store 87 (Go.Operand.tmp 28) (Go.Operand.tmp 27), type := 0, pos := "heap.go:18", after := #[{ on := 11, ground := Go.Ground.data }, { on := 10, ground := Go.Ground.data }, { on := 0, ground := Go.Ground.phase }, { on := 1, ground := Go.Ground.phase }, { on := 2, ground := Go.Ground.phase }, { on := 3, ground := Go.Ground.phase }, { on := 4, ground := Go.Ground.phase }, { on := 5, ground := Go.Ground.phase }, { on := 6, ground := Go.Ground.phase }, { on := 7, ground := Go.Ground.phase }, { on := 8, ground := Go.Ground.phase }, { on := 9, ground := Go.Ground.phase }, { on := 10, ground := Go.Ground.phase }], guard := none }) rfl (fun K hK => ?_) (AllReadyH.nil)
          · rw [if_pos (by rfl)]
            refine wp_store_mid 87 _ _ rfl g 0 cL.toArray rfl rfl tG.out nL2.out oL.out ?_
            change K _ (W2.drew.setCells g 0 cL)
            rw [hW3]
            (try simp only [Act.put]); (try simp only [List.setIfInBounds_toArray]); (try simp only [List.set_cons_succ]); (try simp only [List.set_cons_zero])
            refine hK.out _ _ h3.out (fun hHeld => ?_)
            clear hK K
            refine wpAnyH_done (by kernel_rfl) ?_ _
            clear S0 S1 S2 h2 rX rX1 rL tF tG nX nL nX2 nL2 oX oL hW1 hW2 hW3 hW4 stz
            have ecX := EX.out
            subst ecX
            clear hHeld
            have h3' := h3.out
            obtain ⟨h4', f4⟩ := h4.out
            clear h3 h4
            go_wp2_with fail
            refine DC.out.mono ?_
            rintro e w6 ⟨rfl, r6, k6⟩
            have P6 := hid (FB.out w6 r6 k6)
            clear r6 k6 DC FB
            have a0 := P6.out.fb.cell 0 _ rfl
            have a1 := P6.out.fb.cell 1 _ rfl
            have a2 := P6.out.fb.cell 2 _ rfl
            have a3 := P6.out.fb.cell 3 _ rfl
            have a4 := P6.out.fb.cell 4 _ rfl
            have a5 := P6.out.fb.cell 5 _ rfl
            have a6 := P6.out.fb.cell 6 _ rfl
            have z0 := P6.out.rb.cell 0 _ rfl
            have z1 := P6.out.rb.cell 1 _ rfl
            have z2 := P6.out.rb.cell 2 _ rfl
            have z3 := P6.out.rb.cell 3 _ rfl
            have z4 := P6.out.rb.cell 4 _ rfl
            have z5 := P6.out.rb.cell 5 _ rfl
            have z6 := P6.out.rb.cell 6 _ rfl
            have f0 := P6.out.rb.free 0
            have f1 := P6.out.rb.free 1
            have f2 := P6.out.rb.free 2
            have f3 := P6.out.rb.free 3
            have f40 := P6.out.rb.free 4
            have f5 := P6.out.rb.free 5
            have f6 := P6.out.rb.free 6
            go_wp2_with fail
            (try simp only [Exit.inBlock, Exit.then])
            refine bodyPost_ret (results_cell_row rfl _ _ w.heap.size 87 _ (0, 0) _ rfl (((((((P6.out.rb.set 0 _).set 1 _).set 2 _).set 3 _).set 4 _).set 5 _).set 6 _) Tryz.underlying87 rfl (by kernel_rfl)) rfl ?_
            refine ⟨by rw [HC.out]; rfl, ?_, ?_, ?_⟩
            · exact Bx.setc (vs := [.bool t, .int .i64 p, .string u, .int .i64 x0.x.i, .int .i64 x0.k, .int .u64 x0.n, .string x0.s]) (o := 0) P6.out.hb (by have := HGL.out; omega)
            · exact P6.out.row.same (fun g' e => by cases e; exact (Re.setCells_all _ [.bool t, .int .i64 p, .string u, .int .i64 x0.x.i, .int .i64 x0.k, .int .u64 x0.n, .string x0.s] 0 _).2.2.2.2 g (by have := HGL.out; omega))
            · exact P6.out.kp.setcs (.inr (Nat.le_refl _)) 0 [.bool t, .int .i64 p, .string u, .int .i64 x0.x.i, .int .i64 x0.k, .int .u64 x0.n, .string x0.s]
end Go.Proofs.YtpmmbaahoegmlaaGreatDoor
