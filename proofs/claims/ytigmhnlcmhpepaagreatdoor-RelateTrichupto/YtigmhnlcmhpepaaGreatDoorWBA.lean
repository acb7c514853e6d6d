/-
  Texts put together: ReI, ReJ, ReK, ReL.
-/
import Derived.Test.YtigmhnlcmhpepaaGreatDoorWAW
import Derived.Test.YtigmhnlcmhpepaaGreatDoorReC
namespace Go.Proofs.YtigmhnlcmhpepaaGreatDoor
open Go Go.RowKit Go.Deep Go.Shelf

namespace Re
/-- An entry of zeros. -/
def ze : En := ⟨⟨.nu 0, 0⟩, 0, 0, ⟨#[]⟩⟩
theorem ee_ze : ee ze = [.bool false, .int .i64 0, .string ⟨#[]⟩, .int .i64 0, .int .i64 0, .int .u64 0, .string ⟨#[]⟩] := rfl
theorem RowE.take {base : Nat} {w : World} {g cap : Nat} {A : List En} (h : RowE base w (.slice (some ⟨g, 0, none⟩) A.length cap) A) (k : Nat) (hk : k ≤ A.length) : RowE base w (.slice (some ⟨g, 0, none⟩) k cap) (A.take k) := by
  obtain ⟨h1, h2⟩ := h
  have lk : (A.take k).length = k := by rw [List.length_take]; omega
  refine ⟨ees_len _, ?_⟩
  rcases h2 with ⟨e, _⟩ | ⟨g', cap', cur, e1, e2, e3, e4, e5, e6, e7⟩
  · simp at e
  · simp only [Value.slice.injEq, Option.some.injEq, Addr.mk.injEq] at e1
    obtain ⟨⟨e1, _⟩, _, e1'⟩ := e1
    subst e1 e1'
    refine .inr ⟨g, cap, cur, by rw [lk], e2, e3, by rw [lk]; omega, e5, e6, ?_⟩
    have : cur.toList.take (k * 7) = (ees A).take (k * 7) := by rw [← e7, List.take_take]; congr 1; omega
    have q : (ees A).take (k * 7) = ees (A.take k) := by
      have e := ees_app (A.take k) (A.drop k)
      rw [List.take_append_drop] at e
      rw [e, List.take_append_of_le_length (by rw [ees_len, lk]; omega), List.take_of_length_le (by rw [ees_len, lk]; omega)]
    rw [lk, this, q]
/-- What pop's parts share. -/
structure PS (base : Nat) (w : World) (h g rb fb : Nat) (S : Nat → Prop) (mv : Value) (E : List En) (R X : Array Value) (W : World) : Prop where
  hb : Bx W h 74 #[mv, .func (.func 27) #[] #[]]
  row : RowE base W mv E
  rb : Bx W rb 68 R
  fb : Bx W fb 68 X
  kp : Kp S w W
theorem PS.on {base : Nat} {w : World} {h g rb fb : Nat} {S : Nat → Prop} {mv : Value} {E : List En} {R X : Array Value} {W W' : World} (p : PS base w h g rb fb S mv E R X W) (b : Below W.heap.size W W') : PS base w h g rb fb S mv E R X W' :=
  ⟨p.hb.on b, p.row.below b, p.rb.on b, p.fb.on b, p.kp.trans (Kp.of b)⟩
theorem setCells_all (g : Nat) : ∀ (vs : List Value) (o : Nat) (w : World), (w.setCells g o vs).os = w.os ∧ (w.setCells g o vs).tape = w.tape ∧ (w.setCells g o vs).output = w.output ∧ (w.setCells g o vs).heap.size = w.heap.size ∧ ∀ i, i ≠ g → (w.setCells g o vs).heap[i]? = w.heap[i]?
  | [], _, w => ⟨rfl, rfl, rfl, rfl, fun _ _ => rfl⟩
  | v :: r, o, w => by
    obtain ⟨a, b, c, d, e⟩ := setCells_all g r (o + 1) (w.setCell ⟨g, o, none⟩ v)
    exact ⟨a, b, c, d.trans (by simp [World.setCell]), fun i hi => (e i hi).trans (Below.heap_setCell _ _ _ _ hi)⟩
theorem Kp.setcs {S : Nat → Prop} {w W : World} (h : Kp S w W) {g : Nat} (hg : S g ∨ w.heap.size ≤ g) (o : Nat) (vs : List Value) : Kp S w (W.setCells g o vs) := by
  obtain ⟨a, b, c, d, e⟩ := setCells_all g vs o W
  refine ⟨a.trans h.os, b.trans h.tape, c.trans h.output, by rw [d]; exact h.size, fun i hi hs => ?_⟩
  rw [e i (fun q => by subst q; rcases hg with hg | hg; exact hs hg; omega)]
  exact h.block i hi hs
theorem _root_.Go.Proofs.YtigmhnlcmhpepaaGreatDoor.Bx.setc {w : World} {b t g o : Nat} {c : Array Value} {vs : List Value} (h : Bx w b t c) (hg : b ≠ g) : Bx (w.setCells g o vs) b t c := by
  induction vs generalizing w o with
  | nil => exact h
  | cons v r ih => exact ih (h.far (fun e => hg e.symm))
end Re

set_option maxRecDepth 100000 in
set_option maxHeartbeats 8000000 in
theorem hpop_any (base h g cap : Nat) (E D : List Re.En) (x0 xl : Re.En) (n l : Nat) (w : World) (hh : Bx w h 74 #[.slice (some ⟨g, 0, none⟩) n cap, .func (.func 27) #[] #[]]) (hr : Re.RowE base w (.slice (some ⟨g, 0, none⟩) n cap) E) (hn : E.length = n) (hnl : n = l + 1) (hl : n ≤ 1000000000000) (hc : n ≤ cap) (hcap : cap ≤ 9223372036854775807) (hx0 : E[0]? = some x0) (hxl : E[l]? = some xl)
    (DN : ∀ W, Bx W h 74 #[.slice (some ⟨g, 0, none⟩) l cap, .func (.func 27) #[] #[]] → Re.RowE base W (.slice (some ⟨g, 0, none⟩) l cap) ((E.set 0 xl).take l) →
      Calls Tryz.prog 42 #[.pointer (some ⟨h, 0, none⟩), .int .i64 0] W fun e w' => e = .returned (.tuple #[]) ∧ Re.RowE base w' (.slice (some ⟨g, 0, none⟩) l cap) D ∧ Re.Kp (fun b => b = g) W w') :
    Calls Tryz.prog 32 #[.pointer (some ⟨h, 0, none⟩)] w fun e w' => e = .returned (.agg (Re.ee x0).toArray) ∧ Bx w' h 74 #[.slice (some ⟨g, 0, none⟩) l cap, .func (.func 27) #[] #[]] ∧ Re.RowE base w' (.slice (some ⟨g, 0, none⟩) l cap) D ∧ Re.Kp (fun b => b = h ∨ b = g) w w' := by
  have hgl : g < w.heap.size := (World.ownsRow.lt hr g rfl).2
  have hhl : h < w.heap.size := hh.lt
  have gh : h ≠ g := fun e => hr.apart hh (by decide) (by rw [e]; rfl)
  -- the worlds, one behind the other
  have p0 : Re.PS base w h g w.heap.size w.heap.size (fun b => b = h ∨ b = g) (.slice (some ⟨g, 0, none⟩) n cap) E #[.bool false, .int .i64 0, .string ⟨#[]⟩, .int .i64 0, .int .i64 0, .int .u64 0, .string ⟨#[]⟩] #[.bool false, .int .i64 0, .string ⟨#[]⟩, .int .i64 0, .int .i64 0, .int .u64 0, .string ⟨#[]⟩] (w.alloc (.cells #[.bool false, .int .i64 0, .string ⟨#[]⟩, .int .i64 0, .int .i64 0, .int .u64 0, .string ⟨#[]⟩] 68)) :=
    ⟨hh.on (alloc_b _ _), hr.below (alloc_b _ _), Bx.new _ _ _, Bx.new _ _ _, Re.Kp.of (alloc_b _ _)⟩
  have sz : (w.alloc (.cells #[.bool false, .int .i64 0, .string ⟨#[]⟩, .int .i64 0, .int .i64 0, .int .u64 0, .string ⟨#[]⟩] 68)).heap.size = w.heap.size + 1 := Array.size_push ..
  go_enter Tryz.func32, Tryz.ntmps32
  go_upto_region 1 with fail
  generalize w.alloc (.cells #[.bool false, .int .i64 0, .string ⟨#[]⟩, .int .i64 0, .int .i64 0, .int .u64 0, .string ⟨#[]⟩] 68) = wa at *
  subst hnl
  have iE : (Tryz.prog.info? 68).map (·.size) = some 7 := by kernel_rfl
  have d0 : Below wa.heap.size wa wa.drew := Below.drew (Below.refl _ _)
  have p1 := p0.on d0
  have b1 := alloc_b wa.drew (.cells #[.bool false, .int .i64 0, .string ⟨#[]⟩, .int .i64 0, .int .i64 0, .int .u64 0, .string ⟨#[]⟩] 68)
  obtain ⟨W1, hW1⟩ : ∃ W1, (wa.alloc (.cells #[.bool false, .int .i64 0, .string ⟨#[]⟩, .int .i64 0, .int .i64 0, .int .u64 0, .string ⟨#[]⟩] 68)).drew = W1 := ⟨_, rfl⟩
  have p2 : Re.PS base w h g w.heap.size w.heap.size (fun b => b = h ∨ b = g) (.slice (some ⟨g, 0, none⟩) (l + 1) cap) E #[.bool false, .int .i64 0, .string ⟨#[]⟩, .int .i64 0, .int .i64 0, .int .u64 0, .string ⟨#[]⟩] #[.bool false, .int .i64 0, .string ⟨#[]⟩, .int .i64 0, .int .i64 0, .int .u64 0, .string ⟨#[]⟩] W1 := hW1 ▸ p1.on b1
  have f2 : Bx W1 wa.heap.size 68 #[.bool false, .int .i64 0, .string ⟨#[]⟩, .int .i64 0, .int .i64 0, .int .u64 0, .string ⟨#[]⟩] := hW1 ▸ Bx.new wa.drew _ _
  have c1 : (wa.drew.cell? ⟨h, 0, none⟩ = some (.slice (some ⟨g, 0, none⟩) (l + 1) cap)) := p1.hb.cell 0 _ rfl
  have rowr : ∀ W, Re.RowE base W (.slice (some ⟨g, 0, none⟩) (l + 1) cap) E → W.rangeAt g 0 (Re.ee x0) := fun W r => by
    rw [← hn] at r
    have := r.range hx0
    rwa [Nat.zero_mul] at this
  have rowl : ∀ W, Re.RowE base W (.slice (some ⟨g, 0, none⟩) (l + 1) cap) E → W.rangeAt g (l * 7) (Re.ee xl) := fun W r => by
    rw [← hn] at r
    exact r.range hxl
  have S0 : Hid (wa.drew.cell? ⟨h, 0, none⟩ = some (.slice (some ⟨g, 0, none⟩) (l + 1) cap) ∧ wa.drew.rangeAt g 0 (Re.ee x0)) := ⟨c1, rowr _ p1.row⟩
  have S1 : Hid (W1.cell? ⟨h, 0, none⟩ = some (.slice (some ⟨g, 0, none⟩) (l + 1) cap) ∧ W1.rangeAt g 0 (Re.ee x0)) := ⟨p2.hb.cell 0 _ rfl, rowr _ p2.row⟩
  have hw : wa.heap.size = w.heap.size + 1 := sz
  have fg : wa.heap.size ≠ g := by omega
  have fh : h ≠ wa.heap.size := by omega
  have th2 : W1.there wa.heap.size 0 7 := fun c hc => by
    refine ⟨?_, f2.free _⟩
    rw [Nat.zero_add]
    rcases (show c = 0 ∨ c = 1 ∨ c = 2 ∨ c = 3 ∨ c = 4 ∨ c = 5 ∨ c = 6 by omega) with rfl | rfl | rfl | rfl | rfl | rfl | rfl <;> rw [f2.cell _ _ rfl] <;> rfl
  have s7 : ∀ e : Re.En, (Re.ee e).toArray.size = 7 := fun e => by rw [List.size_toArray]; exact Re.ee_len e
  have tF : Hid (W1.there wa.heap.size 0 (Re.ee x0).toArray.size) := by rw [s7]; exact th2
  obtain ⟨W2, hW2⟩ : ∃ W2, W1.setCells wa.heap.size 0 (Re.ee x0) = W2 := ⟨_, rfl⟩
  have p3 : Re.PS base w h g w.heap.size wa.heap.size (fun b => b = h ∨ b = g) (.slice (some ⟨g, 0, none⟩) (l + 1) cap) E #[.bool false, .int .i64 0, .string ⟨#[]⟩, .int .i64 0, .int .i64 0, .int .u64 0, .string ⟨#[]⟩] (Re.ee x0).toArray W2 := by
    rw [← hW2]
    refine ⟨p2.hb.setc fh, p2.row.same (fun g' e => ?_), p2.rb.setc (by omega), ?_, p2.kp.setcs (.inr (by omega)) _ _⟩
    · cases e
      exact (Re.setCells_all _ _ _ _).2.2.2.2 g (fun q => fg q.symm)
    · obtain ⟨t, p, u, ex, -⟩ := Re.ee_ex x0
      rw [ex]
      exact ((((((f2.set 0 _).set 1 _).set 2 _).set 3 _).set 4 _).set 5 _).set 6 _
  have S2 : Hid (W2.cell? ⟨h, 0, none⟩ = some (.slice (some ⟨g, 0, none⟩) (l + 1) cap) ∧ W2.rangeAt g 0 (Re.ee x0)) := ⟨p3.hb.cell 0 _ rfl, rowr _ p3.row⟩
  have p4 := p3.on (Below.drew (Below.refl _ _))
  have h2 : Hid (W2.drew.cell? ⟨h, 0, none⟩ = some (.slice (some ⟨g, 0, none⟩) (l + 1) cap)) := p4.hb.cell 0 _ rfl
  have rL := hid (rowl _ p4.row)
  have r4 : Re.RowE base W2.drew (.slice (some ⟨g, 0, none⟩) E.length cap) E := by rw [hn]; exact p4.row
  have tG : Hid (W2.drew.there g 0 (Re.ee xl).toArray.size) := by
    have := r4.there (o := 0) (by omega)
    rw [s7]; rwa [Nat.zero_mul] at this
  obtain ⟨W3, hW3⟩ : ∃ W3, W2.drew.setCells g 0 (Re.ee xl) = W3 := ⟨_, rfl⟩
  have r5 : Re.RowE base W3 (.slice (some ⟨g, 0, none⟩) E.length cap) (E.set 0 xl) := by
    have := r4.setc 0 xl (by omega)
    rw [Nat.zero_mul, hW3] at this
    exact this
  have p5 : Re.PS base w h g w.heap.size wa.heap.size (fun b => b = h ∨ b = g) (.slice (some ⟨g, 0, none⟩) (l + 1) cap) (E.set 0 xl) #[.bool false, .int .i64 0, .string ⟨#[]⟩, .int .i64 0, .int .i64 0, .int .u64 0, .string ⟨#[]⟩] (Re.ee x0).toArray W3 :=
    ⟨hW3 ▸ p4.hb.setc gh, by rw [← hn]; exact r5, hW3 ▸ p4.rb.setc (by omega), hW3 ▸ p4.fb.setc fg, hW3 ▸ p4.kp.setcs (.inl (.inr rfl)) _ _⟩
  have h3 : Hid (W3.cell? ⟨h, 0, none⟩ = some (.slice (some ⟨g, 0, none⟩) (l + 1) cap)) := p5.hb.cell 0 _ rfl
  have th4 : W3.there g (l * 7) 7 := by
    have e : (E.set 0 xl).length = E.length := List.length_set
    rw [← e] at r5
    exact r5.there (by rw [e]; omega)
  obtain ⟨W4, hW4⟩ : ∃ W4, W3.setCells g (l * 7) [.bool false, .int .i64 0, .string ⟨#[]⟩, .int .i64 0, .int .i64 0, .int .u64 0, .string ⟨#[]⟩] = W4 := ⟨_, rfl⟩
  have stz : (storeCells ⟨g, l * 7, none⟩ [.bool false, .int .i64 0, .string ⟨#[]⟩, .int .i64 0, .int .i64 0, .int .u64 0, .string ⟨#[]⟩] 0).run Tryz.prog W3 = .ok () W4 := by
    have := Re.stores Re.ze th4
    rw [Re.ee_ze, hW4] at this
    exact this
  have CL : (Builtin.clear_ #[72] 0 #[.slice (some ⟨g, l * 7, none⟩) 1 (cap - l)]).run Tryz.prog W3 = .ok (.tuple #[]) W4 := by
    have zc : (Builtin.zeroCells (Value.agg #[.bool false, .int .i64 0, .string ⟨#[]⟩, .int .i64 0, .int .i64 0, .int .u64 0, .string ⟨#[]⟩]).cells 1).toList = [.bool false, .int .i64 0, .string ⟨#[]⟩, .int .i64 0, .int .i64 0, .int .u64 0, .string ⟨#[]⟩] := by kernel_rfl
    simp [Builtin.clear_, run_underlying Tryz.underlying72, Tryz.zeroValue68, zc, stz]
  have p6 : Re.PS base w h g w.heap.size wa.heap.size (fun b => b = h ∨ b = g) (.slice (some ⟨g, 0, none⟩) (l + 1) cap) ((E.set 0 xl).set l Re.ze) #[.bool false, .int .i64 0, .string ⟨#[]⟩, .int .i64 0, .int .i64 0, .int .u64 0, .string ⟨#[]⟩] (Re.ee x0).toArray W4 := by
    refine ⟨hW4 ▸ p5.hb.setc gh, ?_, hW4 ▸ p5.rb.setc (by omega), hW4 ▸ p5.fb.setc fg, hW4 ▸ p5.kp.setcs (.inl (.inr rfl)) _ _⟩
    have e : (E.set 0 xl).length = E.length := List.length_set
    rw [← e] at r5
    have := r5.setc l Re.ze (by rw [e]; omega)
    rw [Re.ee_ze, hW4, e, hn] at this
    exact this
  obtain ⟨W5, hW5⟩ : ∃ W5, W4.setCell ⟨h, 0, none⟩ (.slice (some ⟨g, 0, none⟩) l cap) = W5 := ⟨_, rfl⟩
  have tk : ((E.set 0 xl).set l Re.ze).take l = (E.set 0 xl).take l := by rw [List.take_set, List.set_eq_of_length_le (by rw [List.length_take]; omega)]
  have p7 : Re.PS base w h g w.heap.size wa.heap.size (fun b => b = h ∨ b = g) (.slice (some ⟨g, 0, none⟩) l cap) ((E.set 0 xl).take l) #[.bool false, .int .i64 0, .string ⟨#[]⟩, .int .i64 0, .int .i64 0, .int .u64 0, .string ⟨#[]⟩] (Re.ee x0).toArray W5 := by
    refine ⟨hW5 ▸ p6.hb.set 0 _, ?_, hW5 ▸ p6.rb.far (by omega), hW5 ▸ p6.fb.far (by omega), hW5 ▸ p6.kp.set (.inl rfl) _ _⟩
    have e : ((E.set 0 xl).set l Re.ze).length = l + 1 := by rw [List.length_set, List.length_set]; exact hn
    have r := p6.row
    rw [← e] at r
    have r' := r.take l (by rw [e]; omega)
    rw [tk] at r'
    exact r'.same (fun g' q => by cases q; rw [← hW5]; exact Below.heap_setCell _ _ _ _ (fun q => gh q.symm))
  have DC := hid (DN W5 p7.hb p7.row)
  have FB : Hid (∀ W6, Re.RowE base W6 (.slice (some ⟨g, 0, none⟩) l cap) D → Re.Kp (fun b => b = g) W5 W6 → Re.PS base w h g w.heap.size wa.heap.size (fun b => b = h ∨ b = g) (.slice (some ⟨g, 0, none⟩) l cap) D #[.bool false, .int .i64 0, .string ⟨#[]⟩, .int .i64 0, .int .i64 0, .int .u64 0, .string ⟨#[]⟩] (Re.ee x0).toArray W6) := fun W6 r k =>
    ⟨p7.hb.kp k gh, r, p7.rb.kp k (by omega), p7.fb.kp k fg, p7.kp.trans (k.mono (fun b q => .inr q))⟩
  have h4 : Hid (W4.cell? ⟨h, 0, none⟩ = some (.slice (some ⟨g, 0, none⟩) (l + 1) cap) ∧ W4.frozen? ⟨h, 0, none⟩ = false) := ⟨p6.hb.cell 0 _ rfl, p6.hb.free 0⟩
  have nX : Hid ((Tryz.prog.info? 68).map (·.size) = some (Re.ee x0).length) := by rw [Hid, Re.ee_len]; exact iE
  have nL : Hid ((Tryz.prog.info? 68).map (·.size) = some (Re.ee xl).length) := by rw [Hid, Re.ee_len]; exact iE
  have nX2 : Hid ((Tryz.prog.info? 68).map (·.size) = some (Re.ee x0).toArray.size) := by rw [Hid, s7]; exact iE
  have nL2 : Hid ((Tryz.prog.info? 68).map (·.size) = some (Re.ee xl).toArray.size) := by rw [Hid, s7]; exact iE
  have oX : Hid ((Re.ee x0).toArray.all (·.oneCell') = true) := all_oneCell_toArray (Re.ee_one x0)
  have oL : Hid ((Re.ee xl).toArray.all (·.oneCell') = true) := all_oneCell_toArray (Re.ee_one xl)
  obtain ⟨t, p, u, ex, -⟩ := Re.ee_ex x0
  have EX := hid ex
  have HGL : Hid (g < w.heap.size ∧ h < w.heap.size) := ⟨hgl, hhl⟩
  have rX := hid S0.out.2
  have rX1 := hid S1.out.2
  have li : (l : Int) < (l : Int) + 1 := by omega
  have le1 : (l : Int) ≤ (l : Int) + 1 := by omega
  have lb : (l : Int) ≤ 999999999999 := by omega
  have cb : (cap : Int) ≤ 9223372036854775807 := by omega
  have lc : (l : Int) + 1 ≤ (cap : Int) := by omega
  have w1 : IntKind.i64.wrap (l : Int) = (l : Int) := by rw [IntKind.wrap_i64]; omega
  clear hx0 hxl DN hgl hhl hh hr hl hc hcap p0 d0 p1 b1 p2 f2 c1 rowr rowl fg fh th2 s7 p3 p4 r4 r5 p5 th4 p6 tk p7 iE sz hw ex hn gh
  generalize hcx : Re.ee x0 = cX at *
  have HC := hid hcx
  clear hcx
  generalize Re.ee xl = cL at *
  refine wp_region_held_drew (S := (fun wx : World => wx.cell? ⟨h, 0, none⟩ = some (.slice (some ⟨g, 0, none⟩) (l + 1) cap) ∧ wx.rangeAt g 0 cX)) (by kernel_rfl) S0.out (fun hHeld => ?_)
  refine wpAnyH_take (i := 0) (oi := { dst := some 5, op := Go.Op.move (Go.Operand.tmp 0), type := 71, pos := "heap.go:17", after := #[], guard := none }) (v := ?_) rfl (by kernel_rfl) (by kernel_rfl) (by kernel_rfl) (fun _ _ _ h => h) (Or.inl ⟨by rfl, ?_⟩) (by assumption) ?_
  rotate_left
  · (intro w hSw; (try dsimp only at hSw); go_simp; try with_reducible rfl)
  (try simp only [Act.put]); (try simp only [List.setIfInBounds_toArray]); (try simp only [List.set_cons_succ]); (try simp only [List.set_cons_zero])
  refine wpAnyH_take (i := 1) (oi := { dst := some 6, op := Go.Op.nilCheck (Go.Operand.tmp 5), type := 0, pos := "heap.go:17", after := #[{ on := 0, ground := Go.Ground.data }], guard := none }) (v := ?_) rfl (by kernel_rfl) (by kernel_rfl) (by kernel_rfl) (fun _ _ _ h => h) (Or.inl ⟨by rfl, ?_⟩) (by assumption) ?_
  rotate_left
  · (intro w hSw; (try dsimp only at hSw); go_simp; try with_reducible rfl)
  (try simp only [Act.put]); (try simp only [List.setIfInBounds_toArray]); (try simp only [List.set_cons_succ]); (try simp only [List.set_cons_zero])
  refine wpAnyH_take (i := 2) (oi := { dst := some 7, op := Go.Op.fieldAddr 74 (Go.Operand.tmp 6) 0, type := 0, pos := "heap.go:17", after := #[{ on := 1, ground := Go.Ground.data }], guard := none }) (v := ?_) rfl (by kernel_rfl) (by kernel_rfl) (by kernel_rfl) (fun _ _ _ h => h) (Or.inl ⟨by rfl, ?_⟩) (by assumption) ?_
  rotate_left
  · (intro w hSw; (try dsimp only at hSw); go_simp; try with_reducible rfl)
  (try simp only [Act.put]); (try simp only [List.setIfInBounds_toArray]); (try simp only [List.set_cons_succ]); (try simp only [List.set_cons_zero])
  refine wpAnyH_take (i := 3) (oi := { dst := some 8, op := Go.Op.load 72 (Go.Operand.tmp 7), type := 72, pos := "heap.go:17", after := #[{ on := 2, ground := Go.Ground.data }], guard := none }) (v := ?_) rfl (by kernel_rfl) (by kernel_rfl) (by kernel_rfl) (fun _ _ _ h => h) (Or.inl ⟨by rfl, ?_⟩) (by assumption) ?_
  rotate_left
  · (intro w hSw; (try dsimp only at hSw); go_simp; try with_reducible rfl)
  (try simp only [Act.put]); (try simp only [List.setIfInBounds_toArray]); (try simp only [List.set_cons_succ]); (try simp only [List.set_cons_zero])
  refine wpAnyH_take (i := 4) (oi := { dst := some 9, op := Go.Op.indexAddr 72 (Go.Operand.tmp 8) (Go.Operand.const (Go.Value.int Go.IntKind.i64 0)), type := 0, pos := "heap.go:17", after := #[{ on := 3, ground := Go.Ground.data }], guard := none }) (v := ?_) rfl (by kernel_rfl) (by kernel_rfl) (by kernel_rfl) (fun _ _ _ h => h) (Or.inl ⟨by rfl, ?_⟩) (by assumption) ?_
  rotate_left
  · (intro w hSw; (try dsimp only at hSw); go_simp; try with_reducible rfl)
  (try simp only [Act.put]); (try simp only [List.setIfInBounds_toArray]); (try simp only [List.set_cons_succ]); (try simp only [List.set_cons_zero])
  refine wpAnyH_take (i := 6) (oi := { dst := some 11, op := Go.Op.move (Go.Operand.tmp 0), type := 71, pos := "heap.go:17", after := #[], guard := none }) (v := ?_) rfl (by kernel_rfl) (by kernel_rfl) (by kernel_rfl) (fun _ _ _ h => h) (Or.inl ⟨by rfl, ?_⟩) (by assumption) ?_
  rotate_left
  · (intro w hSw; (try dsimp only at hSw); go_simp; try with_reducible rfl)
  (try simp only [Act.put]); (try simp only [List.setIfInBounds_toArray]); (try simp only [List.set_cons_succ]); (try simp only [List.set_cons_zero])
  refine wpAnyH_take (i := 7) (oi := { dst := some 12, op := Go.Op.nilCheck (Go.Operand.tmp 11), type := 0, pos := "heap.go:17", after := #[{ on := 6, ground := Go.Ground.data }], guard := none }) (v := ?_) rfl (by kernel_rfl) (by kernel_rfl) (by kernel_rfl) (fun _ _ _ h => h) (Or.inl ⟨by rfl, ?_⟩) (by assumption) ?_
  rotate_left
  · (intro w hSw; (try dsimp only at hSw); go_simp; try with_reducible rfl)
  (try simp only [Act.put]); (try simp only [List.setIfInBounds_toArray]); (try simp only [List.set_cons_succ]); (try simp only [List.set_cons_zero])
  refine wpAnyH_take (i := 8) (oi := { dst := some 13, op := Go.Op.fieldAddr 74 (Go.Operand.tmp 12) 0, type := 0, pos := "heap.go:17", after := #[{ on := 7, ground := Go.Ground.data }], guard := none }) (v := ?_) rfl (by kernel_rfl) (by kernel_rfl) (by kernel_rfl) (fun _ _ _ h => h) (Or.inl ⟨by rfl, ?_⟩) (by assumption) ?_
  rotate_left
  · (intro w hSw; (try dsimp only at hSw); go_simp; try with_reducible rfl)
  (try simp only [Act.put]); (try simp only [List.setIfInBounds_toArray]); (try simp only [List.set_cons_succ]); (try simp only [List.set_cons_zero])
  refine wpAnyH_take (i := 9) (oi := { dst := some 14, op := Go.Op.load 72 (Go.Operand.tmp 13), type := 72, pos := "heap.go:17", after := #[{ on := 8, ground := Go.Ground.data }], guard := none }) (v := ?_) rfl (by kernel_rfl) (by kernel_rfl) (by kernel_rfl) (fun _ _ _ h => h) (Or.inl ⟨by rfl, ?_⟩) (by assumption) ?_
  rotate_left
  · (intro w hSw; (try dsimp only at hSw); go_simp; try with_reducible rfl)
  (try simp only [Act.put]); (try simp only [List.setIfInBounds_toArray]); (try simp only [List.set_cons_succ]); (try simp only [List.set_cons_zero])
  refine wpAnyH_take (i := 10) (oi := { dst := some 15, op := Go.Op.call { callee := Go.Callee.builtin Go.Builtin.len, args := #[Go.Operand.tmp 14], argTypes := #[72] }, type := 3, pos := "heap.go:17", after := #[{ on := 9, ground := Go.Ground.data }], guard := none }) (v := ?_) rfl (by kernel_rfl) (by kernel_rfl) (by kernel_rfl) (fun _ _ _ h => h) (Or.inl ⟨by rfl, ?_⟩) (by assumption) ?_
  rotate_left
  · (intro w hSw; (try dsimp only at hSw); go_simp; try with_reducible rfl)
  (try simp only [Act.put]); (try simp only [List.setIfInBounds_toArray]); (try simp only [List.set_cons_succ]); (try simp only [List.set_cons_zero])
  refine wpAnyH_take (i := 11) (oi := { dst := some 16, op := Go.Op.binOp Go.BinOp.sub 3 (Go.Operand.tmp 15) (Go.Operand.const (Go.Value.int Go.IntKind.i64 1)) 3, type := 3, pos := "heap.go:17", after := #[{ on := 10, ground := Go.Ground.data }, { on := 13, ground := Go.Ground.gcOnly Go.Departure.lateStores }], guard := none }) (v := ?_) rfl (by kernel_rfl) (by kernel_rfl) (by kernel_rfl) (fun _ _ _ h => h) (Or.inl ⟨by rfl, ?_⟩) (by assumption) ?_
  rotate_left
  · (intro w hSw; (try dsimp only at hSw); go_simp; try with_reducible rfl)
  (try simp only [Act.put]); (try simp only [List.setIfInBounds_toArray]); (try simp only [List.set_cons_succ]); (try simp only [List.set_cons_zero])
  refine wpAnyH_ready (rs := [5, 12]) (by kernel_rfl) (by simp) ?_
  refine AllReadyH.cons (o := { dst := some 10, op := Go.Op.load 68 (Go.Operand.tmp 9), type := 68, pos := "heap.go:17", after := #[{ on := 4, ground := Go.Ground.data }], guard := none }) rfl (fun K hK => ?_) (AllReadyH.cons (o := { dst := some 3, op := Go.Op.alloc 68, type := 0, pos := "heap.go:17", after := #[], guard := none }) rfl (fun K hK => ?_) (AllReadyH.nil))
  · rw [if_pos (by rfl)]
    first | refine wp_load_mid 68 _ rfl g 0 rfl cX _ rX.out Tryz.underlying68 rfl nX.out ?_ | refine wp_load_mid 68 _ rfl g 0 rfl cX _ rX1.out Tryz.underlying68 rfl nX.out ?_
    (try simp only [Act.put]); (try simp only [List.setIfInBounds_toArray]); (try simp only [List.set_cons_succ]); (try simp only [List.set_cons_zero])
    refine hK.out _ _ (by first | exact S0.out | exact S1.out) (fun hHeld => ?_)
    clear hK K
    refine wpAnyH_ready (rs := [12]) (by kernel_rfl) (by simp) ?_
    refine AllReadyH.cons (o := { dst := some 3, op := Go.Op.alloc 68, type := 0, pos := "heap.go:17", after := #[], guard := none }) rfl (fun K hK => ?_) (AllReadyH.nil)
    · rw [if_pos (by rfl)]
      go_simp
      (try simp only [Act.put]); (try simp only [List.setIfInBounds_toArray]); (try simp only [List.set_cons_succ]); (try simp only [List.set_cons_zero])
      refine hK.out _ _ S1.out (fun hHeld => ?_)
      clear hK K
      refine wpAnyH_ready (rs := [13]) (by kernel_rfl) (by simp) ?_
      refine AllReadyH.cons (o := { dst := none, op := Go.Op.store 68 (Go.Operand.tmp 3) (Go.Operand.tmp 10), type := 0, pos := "heap.go:17", after := #[{ on := 12, ground := Go.Ground.data }, { on := 5, ground := Go.Ground.data }, { on := 0, ground := Go.Ground.phase }, { on := 1, ground := Go.Ground.phase }, { on := 2, ground := Go.Ground.phase }, { on := 3, ground := Go.Ground.phase }, { on := 4, ground := Go.Ground.phase }, { on := 5, ground := Go.Ground.phase }, { on := 6, ground := Go.Ground.textOnly Go.Departure.lateStores }, { on := 7, ground := Go.Ground.textOnly Go.Departure.lateStores }, { on := 8, ground := Go.Ground.textOnly Go.Departure.lateStores }, { on := 9, ground := Go.Ground.textOnly Go.Departure.lateStores }, { on := 10, ground := Go.Ground.textOnly Go.Departure.lateStoresUnsure }, { on := 11, ground := Go.Ground.textOnly Go.Departure.lateStores }, { on := 12, ground := Go.Ground.phase }], guard := none }) rfl (fun K hK => ?_) (AllReadyH.nil)
      · rw [if_pos (by rfl)]
        refine wp_store_mid 68 _ _ rfl wa.heap.size 0 cX.toArray rfl rfl tF.out nX2.out oX.out ?_
        change K _ (W1.setCells wa.heap.size 0 cX)
        rw [hW2]
        (try simp only [Act.put]); (try simp only [List.setIfInBounds_toArray]); (try simp only [List.set_cons_succ]); (try simp only [List.set_cons_zero])
        refine hK.out _ _ S2.out (fun hHeld => ?_)
        clear hK K
        refine wpAnyH_take (i := 14) (oi := { dst := some 4, op := Go.Op.assign (Go.Operand.tmp 16), type := 3, pos := "heap.go:17", after := #[{ on := 11, ground := Go.Ground.data }, { on := 13, ground := Go.Ground.chain }, { on := 0, ground := Go.Ground.phase }, { on := 1, ground := Go.Ground.phase }, { on := 2, ground := Go.Ground.phase }, { on := 3, ground := Go.Ground.phase }, { on := 4, ground := Go.Ground.phase }, { on := 5, ground := Go.Ground.phase }, { on := 6, ground := Go.Ground.phase }, { on := 7, ground := Go.Ground.phase }, { on := 8, ground := Go.Ground.phase }, { on := 9, ground := Go.Ground.phase }, { on := 10, ground := Go.Ground.phase }, { on := 11, ground := Go.Ground.phase }, { on := 12, ground := Go.Ground.phase }, { on := 13, ground := Go.Ground.phase }], guard := none }) (v := ?_) rfl (by kernel_rfl) (by kernel_rfl) (by kernel_rfl) (fun _ _ _ h => h) (Or.inl ⟨by rfl, ?_⟩) (by assumption) ?_
        rotate_left
        · (intro w hSw; (try dsimp only at hSw); go_simp; try with_reducible rfl)
        (try simp only [Act.put]); (try simp only [List.setIfInBounds_toArray]); (try simp only [List.set_cons_succ]); (try simp only [List.set_cons_zero])
        refine wpAnyH_done (by kernel_rfl) ?_ _
        go_upto_region 2 with fail
        refine wp_region_held_drew (S := (fun wx : World => wx.cell? ⟨h, 0, none⟩ = some (.slice (some ⟨g, 0, none⟩) (l + 1) cap))) (by kernel_rfl) h2.out (fun hHeld => ?_)
        refine wpAnyH_take (i := 0) (oi := { dst := some 17, op := Go.Op.move (Go.Operand.tmp 0), type := 71, pos := "heap.go:18", after := #[], guard := none }) (v := ?_) rfl (by kernel_rfl) (by kernel_rfl) (by kernel_rfl) (fun _ _ _ h => h) (Or.inl ⟨by rfl, ?_⟩) (by assumption) ?_
        rotate_left
        · (intro w hSw; (try dsimp only at hSw); go_simp; try with_reducible rfl)
        (try simp only [Act.put]); (try simp only [List.setIfInBounds_toArray]); (try simp only [List.set_cons_succ]); (try simp only [List.set_cons_zero])
        refine wpAnyH_take (i := 1) (oi := { dst := some 18, op := Go.Op.nilCheck (Go.Operand.tmp 17), type := 0, pos := "heap.go:18", after := #[{ on := 0, ground := Go.Ground.data }], guard := none }) (v := ?_) rfl (by kernel_rfl) (by kernel_rfl) (by kernel_rfl) (fun _ _ _ h => h) (Or.inl ⟨by rfl, ?_⟩) (by assumption) ?_
        rotate_left
        · (intro w hSw; (try dsimp only at hSw); go_simp; try with_reducible rfl)
        (try simp only [Act.put]); (try simp only [List.setIfInBounds_toArray]); (try simp only [List.set_cons_succ]); (try simp only [List.set_cons_zero])
        refine wpAnyH_take (i := 2) (oi := { dst := some 19, op := Go.Op.fieldAddr 74 (Go.Operand.tmp 18) 0, type := 0, pos := "heap.go:18", after := #[{ on := 1, ground := Go.Ground.data }], guard := none }) (v := ?_) rfl (by kernel_rfl) (by kernel_rfl) (by kernel_rfl) (fun _ _ _ h => h) (Or.inl ⟨by rfl, ?_⟩) (by assumption) ?_
        rotate_left
        · (intro w hSw; (try dsimp only at hSw); go_simp; try with_reducible rfl)
        (try simp only [Act.put]); (try simp only [List.setIfInBounds_toArray]); (try simp only [List.set_cons_succ]); (try simp only [List.set_cons_zero])
        refine wpAnyH_take (i := 3) (oi := { dst := some 20, op := Go.Op.load 72 (Go.Operand.tmp 19), type := 72, pos := "heap.go:18", after := #[{ on := 2, ground := Go.Ground.data }], guard := none }) (v := ?_) rfl (by kernel_rfl) (by kernel_rfl) (by kernel_rfl) (fun _ _ _ h => h) (Or.inl ⟨by rfl, ?_⟩) (by assumption) ?_
        rotate_left
        · (intro w hSw; (try dsimp only at hSw); go_simp; try with_reducible rfl)
        (try simp only [Act.put]); (try simp only [List.setIfInBounds_toArray]); (try simp only [List.set_cons_succ]); (try simp only [List.set_cons_zero])
        refine wpAnyH_take (i := 4) (oi := { dst := some 21, op := Go.Op.move (Go.Operand.tmp 0), type := 71, pos := "heap.go:18", after := #[], guard := none }) (v := ?_) rfl (by kernel_rfl) (by kernel_rfl) (by kernel_rfl) (fun _ _ _ h => h) (Or.inl ⟨by rfl, ?_⟩) (by assumption) ?_
        rotate_left
        · (intro w hSw; (try dsimp only at hSw); go_simp; try with_reducible rfl)
        (try simp only [Act.put]); (try simp only [List.setIfInBounds_toArray]); (try simp only [List.set_cons_succ]); (try simp only [List.set_cons_zero])
        refine wpAnyH_take (i := 5) (oi := { dst := some 22, op := Go.Op.nilCheck (Go.Operand.tmp 21), type := 0, pos := "heap.go:18", after := #[{ on := 4, ground := Go.Ground.data }], guard := none }) (v := ?_) rfl (by kernel_rfl) (by kernel_rfl) (by kernel_rfl) (fun _ _ _ h => h) (Or.inl ⟨by rfl, ?_⟩) (by assumption) ?_
        rotate_left
        · (intro w hSw; (try dsimp only at hSw); go_simp; try with_reducible rfl)
        (try simp only [Act.put]); (try simp only [List.setIfInBounds_toArray]); (try simp only [List.set_cons_succ]); (try simp only [List.set_cons_zero])
        refine wpAnyH_take (i := 6) (oi := { dst := some 23, op := Go.Op.fieldAddr 74 (Go.Operand.tmp 22) 0, type := 0, pos := "heap.go:18", after := #[{ on := 5, ground := Go.Ground.data }], guard := none }) (v := ?_) rfl (by kernel_rfl) (by kernel_rfl) (by kernel_rfl) (fun _ _ _ h => h) (Or.inl ⟨by rfl, ?_⟩) (by assumption) ?_
        rotate_left
        · (intro w hSw; (try dsimp only at hSw); go_simp; try with_reducible rfl)
        (try simp only [Act.put]); (try simp only [List.setIfInBounds_toArray]); (try simp only [List.set_cons_succ]); (try simp only [List.set_cons_zero])
        refine wpAnyH_take (i := 7) (oi := { dst := some 24, op := Go.Op.load 72 (Go.Operand.tmp 23), type := 72, pos := "heap.go:18", after := #[{ on := 6, ground := Go.Ground.data }], guard := none }) (v := ?_) rfl (by kernel_rfl) (by kernel_rfl) (by kernel_rfl) (fun _ _ _ h => h) (Or.inl ⟨by rfl, ?_⟩) (by assumption) ?_
        rotate_left
        · (intro w hSw; (try dsimp only at hSw); go_simp; try with_reducible rfl)
        (try simp only [Act.put]); (try simp only [List.setIfInBounds_toArray]); (try simp only [List.set_cons_succ]); (try simp only [List.set_cons_zero])
        refine wpAnyH_take (i := 8) (oi := { dst := some 25, op := Go.Op.move (Go.Operand.tmp 4), type := 3, pos := "heap.go:18", after := #[], guard := none }) (v := ?_) rfl (by kernel_rfl) (by kernel_rfl) (by kernel_rfl) (fun _ _ _ h => h) (Or.inl ⟨by rfl, ?_⟩) (by assumption) ?_
        rotate_left
        · (intro w hSw; (try dsimp only at hSw); go_simp; try with_reducible rfl)
        (try simp only [Act.put]); (try simp only [List.setIfInBounds_toArray]); (try simp only [List.set_cons_succ]); (try simp only [List.set_cons_zero])
        refine wpAnyH_take (i := 9) (oi := { dst := some 26, op := Go.Op.indexAddr 72 (Go.Operand.tmp 24) (Go.Operand.tmp 25), type := 0, pos := "heap.go:18", after := #[{ on := 7, ground := Go.Ground.data }, { on := 8, ground := Go.Ground.data }], guard := none }) (v := ?_) rfl (by kernel_rfl) (by kernel_rfl) (by kernel_rfl) (fun _ _ _ h => h) (Or.inl ⟨by rfl, ?_⟩) (by assumption) ?_
        rotate_left
        · (intro w hSw; (try dsimp only at hSw); go_simp; try with_reducible rfl)
        (try simp only [Act.put]); (try simp only [List.setIfInBounds_toArray]); (try simp only [List.set_cons_succ]); (try simp only [List.set_cons_zero])
        refine wpAnyH_ready (rs := [10]) (by kernel_rfl) (by simp) ?_
        refine AllReadyH.cons (o := { dst := some 27, op := Go.Op.load 68 (Go.Operand.tmp 26), type := 68, pos := "heap.go:18", after := #[{ on := 9, ground := Go.Ground.data }], guard := none }) rfl (fun K hK => ?_) (AllReadyH.nil)
        · rw [if_pos (by rfl)]
          refine wp_load_mid 68 _ rfl g (l * 7) rfl cL _ rL.out Tryz.underlying68 rfl nL.out ?_
          (try simp only [Act.put]); (try simp only [List.setIfInBounds_toArray]); (try simp only [List.set_cons_succ]); (try simp only [List.set_cons_zero])
          refine hK.out _ _ h2.out (fun hHeld => ?_)
          clear hK K
          refine wpAnyH_take (i := 11) (oi := { dst := some 28, op := Go.Op.indexAddr 72 (Go.Operand.tmp 20) (Go.Operand.const (Go.Value.int Go.IntKind.i64 0)), type := 0, pos := "heap.go:18", after := #[{ on := 3, ground := Go.Ground.data }, { on := 0, ground := Go.Ground.phase }, { on := 1, ground := Go.Ground.phase }, { on := 2, ground := Go.Ground.phase }, { on := 3, ground := Go.Ground.phase }, { on := 4, ground := Go.Ground.phase }, { on := 5, ground := Go.Ground.phase }, { on := 6, ground := Go.Ground.phase }, { on := 7, ground := Go.Ground.phase }, { on := 8, ground := Go.Ground.phase }, { on := 9, ground := Go.Ground.phase }, { on := 10, ground := Go.Ground.phase }], guard := none }) (v := ?_) rfl (by kernel_rfl) (by kernel_rfl) (by kernel_rfl) (fun _ _ _ h => h) (Or.inl ⟨by rfl, ?_⟩) (by assumption) ?_
          rotate_left
          · (intro w hSw; (try dsimp only at hSw); go_simp; try with_reducible rfl)
          (try simp only [Act.put]); (try simp only [List.setIfInBounds_toArray]); (try simp only [List.set_cons_succ]); (try simp only [List.set_cons_zero])
          refine wpAnyH_ready (rs := [12]) (by kernel_rfl) (by simp) ?_
          refine AllReadyH.cons (o := { dst := none, op := Go.Op.store 68 (Go.Operand.tmp 28) (Go.Operand.tmp 27), type := 0, pos := "heap.go:18", after := #[{ on := 11, ground := Go.Ground.data }, { on := 10, ground := Go.Ground.data }, { on := 0, ground := Go.Ground.phase }, { on := 1, ground := Go.Ground.phase }, { on := 2, ground := Go.Ground.phase }, { on := 3, ground := Go.Ground.phase }, { on := 4, ground := Go.Ground.phase }, { on := 5, ground := Go.Ground.phase }, { on := 6, ground := Go.Ground.phase }, { on := 7, ground := Go.Ground.phase }, { on := 8, ground := Go.Ground.phase }, { on := 9, ground := Go.Ground.phase }, { on := 10, ground := Go.Ground.phase }], guard := none }) rfl (fun K hK => ?_) (AllReadyH.nil)
          · rw [if_pos (by rfl)]
            refine wp_store_mid 68 _ _ rfl g 0 cL.toArray rfl rfl tG.out nL2.out oL.out ?_
            change K _ (W2.drew.setCells g 0 cL)
            rw [hW3]
            (try simp only [Act.put]); (try simp only [List.setIfInBounds_toArray]); (try simp only [List.set_cons_succ]); (try simp only [List.set_cons_zero])
            refine hK.out _ _ h3.out (fun hHeld => ?_)
            clear hK K
            refine wpAnyH_done (by kernel_rfl) ?_ _
            clear S0 S1 S2 h2 rX rX1 rL tF tG nX nL nX2 nL2 oX oL hW1 hW2 hW3 hW4 stz
            have ecX := EX.out
            subst ecX
            clear hHeld
            have h3' := h3.out
            obtain ⟨h4', f4⟩ := h4.out
            clear h3 h4
            go_wp2_with fail
            refine DC.out.mono ?_
            rintro e w6 ⟨rfl, r6, k6⟩
            have P6 := hid (FB.out w6 r6 k6)
            clear r6 k6 DC FB
            have a0 := P6.out.fb.cell 0 _ rfl
            have a1 := P6.out.fb.cell 1 _ rfl
            have a2 := P6.out.fb.cell 2 _ rfl
            have a3 := P6.out.fb.cell 3 _ rfl
            have a4 := P6.out.fb.cell 4 _ rfl
            have a5 := P6.out.fb.cell 5 _ rfl
            have a6 := P6.out.fb.cell 6 _ rfl
            have z0 := P6.out.rb.cell 0 _ rfl
            have z1 := P6.out.rb.cell 1 _ rfl
            have z2 := P6.out.rb.cell 2 _ rfl
            have z3 := P6.out.rb.cell 3 _ rfl
            have z4 := P6.out.rb.cell 4 _ rfl
            have z5 := P6.out.rb.cell 5 _ rfl
            have z6 := P6.out.rb.cell 6 _ rfl
            have f0 := P6.out.rb.free 0
            have f1 := P6.out.rb.free 1
            have f2 := P6.out.rb.free 2
            have f3 := P6.out.rb.free 3
            have f40 := P6.out.rb.free 4
            have f5 := P6.out.rb.free 5
            have f6 := P6.out.rb.free 6
            go_wp2_with fail
            (try simp only [Exit.inBlock, Exit.then])
            refine bodyPost_ret (results_cell_row rfl _ _ w.heap.size 68 _ (0, 0) _ rfl (((((((P6.out.rb.set 0 _).set 1 _).set 2 _).set 3 _).set 4 _).set 5 _).set 6 _) Tryz.underlying68 rfl (by kernel_rfl)) rfl ?_
            refine ⟨by rw [HC.out]; rfl, ?_, ?_, ?_⟩
            · exact Bx.setc (vs := [.bool t, .int .i64 p, .string u, .int .i64 x0.x.i, .int .i64 x0.k, .int .u64 x0.n, .string x0.s]) (o := 0) P6.out.hb (by have := HGL.out; omega)
            · exact P6.out.row.same (fun g' e => by cases e; exact (Re.setCells_all _ [.bool t, .int .i64 p, .string u, .int .i64 x0.x.i, .int .i64 x0.k, .int .u64 x0.n, .string x0.s] 0 _).2.2.2.2 g (by have := HGL.out; omega))
            · exact P6.out.kp.setcs (.inr (Nat.le_refl _)) 0 [.bool t, .int .i64 p, .string u, .int .i64 x0.x.i, .int .i64 x0.k, .int .u64 x0.n, .string x0.s]
  · rw [if_pos (by rfl)]
    go_simp
    (try simp only [Act.put]); (try simp only [List.setIfInBounds_toArray]); (try simp only [List.set_cons_succ]); (try simp only [List.set_cons_zero])
    refine hK.out _ _ S1.out (fun hHeld => ?_)
    clear hK K
    refine wpAnyH_ready (rs := [5]) (by kernel_rfl) (by simp) ?_
    refine AllReadyH.cons (o := { dst := some 10, op := Go.Op.load 68 (Go.Operand.tmp 9), type := 68, pos := "heap.go:17", after := #[{ on := 4, ground := Go.Ground.data }], guard := none }) rfl (fun K hK => ?_) (AllReadyH.nil)
    · rw [if_pos (by rfl)]
      first | refine wp_load_mid 68 _ rfl g 0 rfl cX _ rX.out Tryz.underlying68 rfl nX.out ?_ | refine wp_load_mid 68 _ rfl g 0 rfl cX _ rX1.out Tryz.underlying68 rfl nX.out ?_
      (try simp only [Act.put]); (try simp only [List.setIfInBounds_toArray]); (try simp only [List.set_cons_succ]); (try simp only [List.set_cons_zero])
      refine hK.out _ _ (by first | exact S0.out | exact S1.out) (fun hHeld => ?_)
      clear hK K
      refine wpAnyH_ready (rs := [13]) (by kernel_rfl) (by simp) ?_
      refine AllReadyH.cons (o := { dst := none, op := Go.Op.store 68 (Go.Operand.tmp 3) (Go.Operand.tmp 10), type := 0, pos := "heap.go:17", after := #[{ on := 12, ground := Go.Ground.data }, { on := 5, ground := Go.Ground.data }, { on := 0, ground := Go.Ground.phase }, { on := 1, ground := Go.Ground.phase }, { on := 2, ground := Go.Ground.phase }, { on := 3, ground := Go.Ground.phase }, { on := 4, ground := Go.Ground.phase }, { on := 5, ground := Go.Ground.phase }, { on := 6, ground := Go.Ground.textOnly Go.Departure.lateStores }, { on := 7, ground := Go.Ground.textOnly Go.Departure.lateStores }, { on := 8, ground := Go.Ground.textOnly Go.Departure.lateStores }, { on := 9, ground := Go.Ground.textOnly Go.Departure.lateStores }, { on := 10, ground := Go.Ground.textOnly Go.Departure.lateStoresUnsure }, { on := 11, ground := Go.Ground.textOnly Go.Departure.lateStores }, { on := 12, ground := Go.Ground.phase }], guard := none }) rfl (fun K hK => ?_) (AllReadyH.nil)
      · rw [if_pos (by rfl)]
        refine wp_store_mid 68 _ _ rfl wa.heap.size 0 cX.toArray rfl rfl tF.out nX2.out oX.out ?_
        change K _ (W1.setCells wa.heap.size 0 cX)
        rw [hW2]
        (try simp only [Act.put]); (try simp only [List.setIfInBounds_toArray]); (try simp only [List.set_cons_succ]); (try simp only [List.set_cons_zero])
        refine hK.out _ _ S2.out (fun hHeld => ?_)
        clear hK K
        refine wpAnyH_take (i := 14) (oi := { dst := some 4, op := Go.Op.assign (Go.Operand.tmp 16), type := 3, pos := "heap.go:17", after := #[{ on := 11, ground := Go.Ground.data }, { on := 13, ground := Go.Ground.chain }, { on := 0, ground := Go.Ground.phase }, { on := 1, ground := Go.Ground.phase }, { on := 2, ground := Go.Ground.phase }, { on := 3, ground := Go.Ground.phase }, { on := 4, ground := Go.Ground.phase }, { on := 5, ground := Go.Ground.phase }, { on := 6, ground := Go.Ground.phase }, { on := 7, ground := Go.Ground.phase }, { on := 8, ground := Go.Ground.phase }, { on := 9, ground := Go.Ground.phase }, { on := 10, ground := Go.Ground.phase }, { on := 11, ground := Go.Ground.phase }, { on := 12, ground := Go.Ground.phase }, { on := 13, ground := Go.Ground.phase }], guard := none }) (v := ?_) rfl (by kernel_rfl) (by kernel_rfl) (by kernel_rfl) (fun _ _ _ h => h) (Or.inl ⟨by rfl, ?_⟩) (by assumption) ?_
        rotate_left
        · (intro w hSw; (try dsimp only at hSw); go_simp; try with_reducible rfl)
        (try simp only [Act.put]); (try simp only [List.setIfInBounds_toArray]); (try simp only [List.set_cons_succ]); (try simp only [List.set_cons_zero])
        refine wpAnyH_done (by kernel_rfl) ?_ _
        go_upto_region 2 with fail
        refine wp_region_held_drew (S := (fun wx : World => wx.cell? ⟨h, 0, none⟩ = some (.slice (some ⟨g, 0, none⟩) (l + 1) cap))) (by kernel_rfl) h2.out (fun hHeld => ?_)
        refine wpAnyH_take (i := 0) (oi := { dst := some 17, op := Go.Op.move (Go.Operand.tmp 0), type := 71, pos := "heap.go:18", after := #[], guard := none }) (v := ?_) rfl (by kernel_rfl) (by kernel_rfl) (by kernel_rfl) (fun _ _ _ h => h) (Or.inl ⟨by rfl, ?_⟩) (by assumption) ?_
        rotate_left
        · (intro w hSw; (try dsimp only at hSw); go_simp; try with_reducible rfl)
        (try simp only [Act.put]); (try simp only [List.setIfInBounds_toArray]); (try simp only [List.set_cons_succ]); (try simp only [List.set_cons_zero])
        refine wpAnyH_take (i := 1) (oi := { dst := some 18, op := Go.Op.nilCheck (Go.Operand.tmp 17), type := 0, pos := "heap.go:18", after := #[{ on := 0, ground := Go.Ground.data }], guard := none }) (v := ?_) rfl (by kernel_rfl) (by kernel_rfl) (by kernel_rfl) (fun _ _ _ h => h) (Or.inl ⟨by rfl, ?_⟩) (by assumption) ?_
        rotate_left
        · (intro w hSw; (try dsimp only at hSw); go_simp; try with_reducible rfl)
        (try simp only [Act.put]); (try simp only [List.setIfInBounds_toArray]); (try simp only [List.set_cons_succ]); (try simp only [List.set_cons_zero])
        refine wpAnyH_take (i := 2) (oi := { dst := some 19, op := Go.Op.fieldAddr 74 (Go.Operand.tmp 18) 0, type := 0, pos := "heap.go:18", after := #[{ on := 1, ground := Go.Ground.data }], guard := none }) (v := ?_) rfl (by kernel_rfl) (by kernel_rfl) (by kernel_rfl) (fun _ _ _ h => h) (Or.inl ⟨by rfl, ?_⟩) (by assumption) ?_
        rotate_left
        · (intro w hSw; (try dsimp only at hSw); go_simp; try with_reducible rfl)
        (try simp only [Act.put]); (try simp only [List.setIfInBounds_toArray]); (try simp only [List.set_cons_succ]); (try simp only [List.set_cons_zero])
        refine wpAnyH_take (i := 3) (oi := { dst := some 20, op := Go.Op.load 72 (Go.Operand.tmp 19), type := 72, pos := "heap.go:18", after := #[{ on := 2, ground := Go.Ground.data }], guard := none }) (v := ?_) rfl (by kernel_rfl) (by kernel_rfl) (by kernel_rfl) (fun _ _ _ h => h) (Or.inl ⟨by rfl, ?_⟩) (by assumption) ?_
        rotate_left
        · (intro w hSw; (try dsimp only at hSw); go_simp; try with_reducible rfl)
        (try simp only [Act.put]); (try simp only [List.setIfInBounds_toArray]); (try simp only [List.set_cons_succ]); (try simp only [List.set_cons_zero])
        refine wpAnyH_take (i := 4) (oi := { dst := some 21, op := Go.Op.move (Go.Operand.tmp 0), type := 71, pos := "heap.go:18", after := #[], guard := none }) (v := ?_) rfl (by kernel_rfl) (by kernel_rfl) (by kernel_rfl) (fun _ _ _ h => h) (Or.inl ⟨by rfl, ?_⟩) (by assumption) ?_
        rotate_left
        · (intro w hSw; (try dsimp only at hSw); go_simp; try with_reducible rfl)
        (try simp only [Act.put]); (try simp only [List.setIfInBounds_toArray]); (try simp only [List.set_cons_succ]); (try simp only [List.set_cons_zero])
        refine wpAnyH_take (i := 5) (oi := { dst := some 22, op := Go.Op.nilCheck (Go.Operand.tmp 21), type := 0, pos := "heap.go:18", after := #[{ on := 4, ground := Go.Ground.data }], guard := none }) (v := ?_) rfl (by kernel_rfl) (by kernel_rfl) (by kernel_rfl) (fun _ _ _ h => h) (Or.inl ⟨by rfl, ?_⟩) (by assumption) ?_
        rotate_left
        · (intro w hSw; (try dsimp only at hSw); go_simp; try with_reducible rfl)
        (try simp only [Act.put]); (try simp only [List.setIfInBounds_toArray]); (try simp only [List.set_cons_succ]); (try simp only [List.set_cons_zero])
        refine wpAnyH_take (i := 6) (oi := { dst := some 23, op := Go.Op.fieldAddr 74 (Go.Operand.tmp 22) 0, type := 0, pos := "heap.go:18", after := #[{ on := 5, ground := Go.Ground.data }], guard := none }) (v := ?_) rfl (by kernel_rfl) (by kernel_rfl) (by kernel_rfl) (fun _ _ _ h => h) (Or.inl ⟨by rfl, ?_⟩) (by assumption) ?_
        rotate_left
        · (intro w hSw; (try dsimp only at hSw); go_simp; try with_reducible rfl)
        (try simp only [Act.put]); (try simp only [List.setIfInBounds_toArray]); (try simp only [List.set_cons_succ]); (try simp only [List.set_cons_zero])
        refine wpAnyH_take (i := 7) (oi := { dst := some 24, op := Go.Op.load 72 (Go.Operand.tmp 23), type := 72, pos := "heap.go:18", after := #[{ on := 6, ground := Go.Ground.data }], guard := none }) (v := ?_) rfl (by kernel_rfl) (by kernel_rfl) (by kernel_rfl) (fun _ _ _ h => h) (Or.inl ⟨by rfl, ?_⟩) (by assumption) ?_
        rotate_left
        · (intro w hSw; (try dsimp only at hSw); go_simp; try with_reducible rfl)
        (try simp only [Act.put]); (try simp only [List.setIfInBounds_toArray]); (try simp only [List.set_cons_succ]); (try simp only [List.set_cons_zero])
        refine wpAnyH_take (i := 8) (oi := { dst := some 25, op := Go.Op.move (Go.Operand.tmp 4), type := 3, pos := "heap.go:18", after := #[], guard := none }) (v := ?_) rfl (by kernel_rfl) (by kernel_rfl) (by kernel_rfl) (fun _ _ _ h => h) (Or.inl ⟨by rfl, ?_⟩) (by assumption) ?_
        rotate_left
        · (intro w hSw; (try dsimp only at hSw); go_simp; try with_reducible rfl)
        (try simp only [Act.put]); (try simp only [List.setIfInBounds_toArray]); (try simp only [List.set_cons_succ]); (try simp only [List.set_cons_zero])
        refine wpAnyH_take (i := 9) (oi := { dst := some 26, op := Go.Op.indexAddr 72 (Go.Operand.tmp 24) (Go.Operand.tmp 25), type := 0, pos := "heap.go:18", after := #[{ on := 7, ground := Go.Ground.data }, { on := 8, ground := Go.Ground.data }], guard := none }) (v := ?_) rfl (by kernel_rfl) (by kernel_rfl) (by kernel_rfl) (fun _ _ _ h => h) (Or.inl ⟨by rfl, ?_⟩) (by assumption) ?_
        rotate_left
        · (intro w hSw; (try dsimp only at hSw); go_simp; try with_reducible rfl)
        (try simp only [Act.put]); (try simp only [List.setIfInBounds_toArray]); (try simp only [List.set_cons_succ]); (try simp only [List.set_cons_zero])
        refine wpAnyH_ready (rs := [10]) (by kernel_rfl) (by simp) ?_
        refine AllReadyH.cons (o := { dst := some 27, op := Go.Op.load 68 (Go.Operand.tmp 26), type := 68, pos := "heap.go:18", after := #[{ on := 9, ground := Go.Ground.data }], guard := none }) rfl (fun K hK => ?_) (AllReadyH.nil)
        · rw [if_pos (by rfl)]
          refine wp_load_mid 68 _ rfl g (l * 7) rfl cL _ rL.out Tryz.underlying68 rfl nL.out ?_
          (try simp only [Act.put]); (try simp only [List.setIfInBounds_toArray]); (try simp only [List.set_cons_succ]); (try simp only [List.set_cons_zero])
          refine hK.out _ _ h2.out (fun hHeld => ?_)
          clear hK K
          refine wpAnyH_take (i := 11) (oi := { dst := some 28, op := Go.Op.indexAddr 72 (Go.Operand.tmp 20) (Go.Operand.const (Go.Value.int Go.IntKind.i64 0)), type := 0, pos := "heap.go:18", after := #[{ on := 3, ground := Go.Ground.data }, { on := 0, ground := Go.Ground.phase }, { on := 1, ground := Go.Ground.phase }, { on := 2, ground := Go.Ground.phase }, { on := 3, ground := Go.Ground.phase }, { on := 4, ground := Go.Ground.phase }, { on := 5, ground := Go.Ground.phase }, { on := 6, ground := Go.Ground.phase }, { on := 7, ground := Go.Ground.phase }, { on := 8, ground := Go.Ground.phase }, { on := 9, ground := Go.Ground.phase }, { on := 10, ground := Go.Ground.phase }], guard := none }) (v := ?_) rfl (by kernel_rfl) (by kernel_rfl) (by kernel_rfl) (fun _ _ _ h => h) (Or.inl ⟨by rfl, ?_⟩) (by assumption) ?_
          rotate_left
          · (intro w hSw; (try dsimp only at hSw); go_simp; try with_reducible rfl)
          (try simp only [Act.put]); (try simp only [List.setIfInBounds_toArray]); (try simp only [List.set_cons_succ]); (try simp only [List.set_cons_zero])
          refine wpAnyH_ready (rs := [12]) (by kernel_rfl) (by simp) ?_
          refine AllReadyH.cons (o := { dst := none, op := Go.Op.store 68 (Go.Operand.tmp 28) (Go.Operand.tmp 27), type := 0, pos := "heap.go:18", after := #[{ on := 11, ground := Go.Ground.data }, { on := 10, ground := Go.Ground.data }, { on := 0, ground := Go.Ground.phase }, { on := 1, ground := Go.Ground.phase }, { on := 2, ground := Go.Ground.phase }, { on := 3, ground := Go.Ground.phase }, { on := 4, ground := Go.Ground.phase }, { on := 5, ground := Go.Ground.phase }, { on := 6, ground := Go.Ground.phase }, { on := 7, ground := Go.Ground.phase }, { on := 8, ground := Go.Ground.phase }, { on := 9, ground := Go.Ground.phase }, { on := 10, ground := Go.Ground.phase }], guard := none }) rfl (fun K hK => ?_) (AllReadyH.nil)
          · rw [if_pos (by rfl)]
            refine wp_store_mid 68 _ _ rfl g 0 cL.toArray rfl rfl tG.out nL2.out oL.out ?_
            change K _ (W2.drew.setCells g 0 cL)
            rw [hW3]
            (try simp only [Act.put]); (try simp only [List.setIfInBounds_toArray]); (try simp only [List.set_cons_succ]); (try simp only [List.set_cons_zero])
            refine hK.out _ _ h3.out (fun hHeld => ?_)
            clear hK K
            refine wpAnyH_done (by kernel_rfl) ?_ _
            clear S0 S1 S2 h2 rX rX1 rL tF tG nX nL nX2 nL2 oX oL hW1 hW2 hW3 hW4 stz
            have ecX := EX.out
            subst ecX
            clear hHeld
            have h3' := h3.out
            obtain ⟨h4', f4⟩ := h4.out
            clear h3 h4
            go_wp2_with fail
            refine DC.out.mono ?_
            rintro e w6 ⟨rfl, r6, k6⟩
            have P6 := hid (FB.out w6 r6 k6)
            clear r6 k6 DC FB
            have a0 := P6.out.fb.cell 0 _ rfl
            have a1 := P6.out.fb.cell 1 _ rfl
            have a2 := P6.out.fb.cell 2 _ rfl
            have a3 := P6.out.fb.cell 3 _ rfl
            have a4 := P6.out.fb.cell 4 _ rfl
            have a5 := P6.out.fb.cell 5 _ rfl
            have a6 := P6.out.fb.cell 6 _ rfl
            have z0 := P6.out.rb.cell 0 _ rfl
            have z1 := P6.out.rb.cell 1 _ rfl
            have z2 := P6.out.rb.cell 2 _ rfl
            have z3 := P6.out.rb.cell 3 _ rfl
            have z4 := P6.out.rb.cell 4 _ rfl
            have z5 := P6.out.rb.cell 5 _ rfl
            have z6 := P6.out.rb.cell 6 _ rfl
            have f0 := P6.out.rb.free 0
            have f1 := P6.out.rb.free 1
            have f2 := P6.out.rb.free 2
            have f3 := P6.out.rb.free 3
            have f40 := P6.out.rb.free 4
            have f5 := P6.out.rb.free 5
            have f6 := P6.out.rb.free 6
            go_wp2_with fail
            (try simp only [Exit.inBlock, Exit.then])
            refine bodyPost_ret (results_cell_row rfl _ _ w.heap.size 68 _ (0, 0) _ rfl (((((((P6.out.rb.set 0 _).set 1 _).set 2 _).set 3 _).set 4 _).set 5 _).set 6 _) Tryz.underlying68 rfl (by kernel_rfl)) rfl ?_
            refine ⟨by rw [HC.out]; rfl, ?_, ?_, ?_⟩
            · exact Bx.setc (vs := [.bool t, .int .i64 p, .string u, .int .i64 x0.x.i, .int .i64 x0.k, .int .u64 x0.n, .string x0.s]) (o := 0) P6.out.hb (by have := HGL.out; omega)
            · exact P6.out.row.same (fun g' e => by cases e; exact (Re.setCells_all _ [.bool t, .int .i64 p, .string u, .int .i64 x0.x.i, .int .i64 x0.k, .int .u64 x0.n, .string x0.s] 0 _).2.2.2.2 g (by have := HGL.out; omega))
            · exact P6.out.kp.setcs (.inr (Nat.le_refl _)) 0 [.bool t, .int .i64 p, .string u, .int .i64 x0.x.i, .int .i64 x0.k, .int .u64 x0.n, .string x0.s]
end Go.Proofs.YtigmhnlcmhpepaaGreatDoor

namespace Go.Proofs.YtigmhnlcmhpepaaGreatDoor
open Go Go.RowKit Go.Deep Go.Shelf

set_option maxRecDepth 100000 in
set_option maxHeartbeats 1000000 in
theorem down_small (h g cap l : Nat) (fn : Value) (w : World) (hh : Bx w h 74 #[.slice (some ⟨g, 0, none⟩) l cap, fn]) (hl : l ≤ 1) :
    Calls Tryz.prog 42 #[.pointer (some ⟨h, 0, none⟩), .int .i64 0] w fun e w' => e = .returned (.tuple #[]) ∧ w' = w := by
  have h0 := hh.cell 0 _ rfl
  have l1 : ¬ (1 : Int) < (l : Int) := by omega
  clear hh hl
  go_enter Tryz.func42, Tryz.ntmps42
  go_wp2_with fail
  go_loopg [1, 4, 5] 1 (fun _ iv _ _ wr => iv = .int .i64 0 ∧ wr = w)
  case atStart => exact ⟨rfl, rfl⟩
  case round =>
    obtain ⟨rfl, rfl⟩ := hrel
    go_wp2_with fail
    go_loopg [4, 5] 1 (fun _ a b wr2 => a = .int .i64 0 ∧ b = .int .i64 1 ∧ wr2 = wr)
    case atStart => exact ⟨rfl, rfl, rfl⟩
    case round =>
      obtain ⟨rfl, rfl, rfl⟩ := hrel
      go_wp2_with fail
      (try simp only [Exit.inBlock, Exit.then])
      refine bodyPost_ret (results_none rfl _ _ _) rfl ?_
      exact ⟨rfl, rfl⟩

/-- A queue: its block, its heap's, the row. -/
structure Re.QS (base : Nat) (q h : Nat) (mv : Value) (E : List Re.En) (c : Int) (w : World) : Prop where
  qb : Bx w q 76 #[.pointer (some ⟨h, 0, none⟩), .int .i64 c]
  hb : Bx w h 74 #[mv, .func (.func 27) #[] #[]]
  row : Re.RowE base w mv E
  bq : base ≤ q
  bh : base ≤ h
theorem Re.QS.on {base q h : Nat} {mv : Value} {E : List Re.En} {c : Int} {w w' : World} (s : Re.QS base q h mv E c w) (b : Below w.heap.size w w') : Re.QS base q h mv E c w' := ⟨s.qb.on b, s.hb.on b, s.row.below b, s.bq, s.bh⟩

set_option maxRecDepth 100000 in
theorem made_any (q h : Nat) (c : Int) (w : World) (qb : Bx w q 76 #[.pointer (some ⟨h, 0, none⟩), .int .i64 c]) :
    Calls Tryz.prog 29 #[.pointer (some ⟨q, 0, none⟩)] w fun e w' => e = .returned (.bool true) ∧ w' = w := by
  have c0 := qb.cell 0 _ rfl
  clear qb
  go_enter Tryz.func29, Tryz.ntmps29
  go_wp2_with fail
  go_ret
  exact ⟨rfl, rfl⟩

set_option maxRecDepth 100000 in
theorem qlen_any (base q h : Nat) (mv : Value) (E : List Re.En) (c : Int) (w : World) (s : Re.QS base q h mv E c w) :
    Calls Tryz.prog 16 #[.pointer (some ⟨q, 0, none⟩)] w fun e w' => e = .returned (.int .i64 (E.length : Int)) ∧ w' = w := by
  have MA := hid (made_any q h c w s.qb)
  obtain ⟨p, cap, rfl⟩ := s.row.shape
  have c0 := s.qb.cell 0 _ rfl
  have d0 := s.hb.cell 0 _ rfl
  clear s
  go_enter Tryz.func16, Tryz.ntmps16
  go_wp2_with fail
  refine MA.out.mono ?_
  rintro e w1 ⟨rfl, rfl⟩
  clear MA
  go_wp2_with fail
  go_ret
  exact ⟨rfl, rfl⟩

set_option maxRecDepth 100000 in
theorem newq_any (w : World) :
    Calls Tryz.prog 11 #[] w fun e w' => e = .returned (.pointer (some ⟨w.heap.size + 1, 0, none⟩)) ∧ Re.QS w.heap.size (w.heap.size + 1) w.heap.size (.slice none 0 0) [] 0 w' ∧ Below w.heap.size w w' := by
  have F : Hid (Re.QS w.heap.size (w.heap.size + 1) w.heap.size (.slice none 0 0) [] 0 ((w.alloc (.cells #[.slice none 0 0, .func (.func 27) #[] #[]] 74)).alloc (.cells #[.pointer (some ⟨w.heap.size, 0, none⟩), .int .i64 0] 76)) ∧ Below w.heap.size w ((w.alloc (.cells #[.slice none 0 0, .func (.func 27) #[] #[]] 74)).alloc (.cells #[.pointer (some ⟨w.heap.size, 0, none⟩), .int .i64 0] 76))) := by
    have sz : (w.alloc (.cells #[.slice none 0 0, .func (.func 27) #[] #[]] 74)).heap.size = w.heap.size + 1 := Array.size_push ..
    refine ⟨⟨?_, (Bx.new w _ _).on (alloc_b _ _), Re.RowE.nil _ _, by omega, Nat.le_refl _⟩, below_on (alloc_b _ _) (alloc_b _ _)⟩
    rw [← sz]
    exact Bx.new _ _ _
  go_enter Tryz.func11, Tryz.ntmps11
  go_wp2_with fail
  go_ret
  exact ⟨rfl, F.out⟩
end Go.Proofs.YtigmhnlcmhpepaaGreatDoor

namespace Go.Proofs.YtigmhnlcmhpepaaGreatDoor
open Go Go.RowKit Go.Deep Go.Shelf

set_option maxRecDepth 100000 in
theorem rnum_any (n : Int) (w : World) : Calls Tryz.prog 18 #[.int .u64 n] w fun e w' => e = .returned (.agg #[.int .i64 1, .int .u64 n, .string ⟨#[]⟩]) ∧ Below w.heap.size w w' := by
  have B := hid (alloc_b w (.cells #[.int .i64 1, .int .u64 n, .string ⟨#[]⟩] 24))
  have X := hid (Bx.new w 24 #[.int .i64 1, .int .u64 n, .string ⟨#[]⟩])
  go_enter Tryz.func18, Tryz.ntmps18
  go_wp2_with fail
  (try simp only [Exit.inBlock, Exit.then])
  refine bodyPost_ret (results_cell_row rfl _ _ w.heap.size 24 _ (0, 0) _ rfl X.out Tryz.underlying24 rfl (by kernel_rfl)) rfl ?_
  exact ⟨rfl, B.out⟩

set_option maxRecDepth 100000 in
theorem rstr_any (s : ByteArray) (w : World) : Calls Tryz.prog 17 #[.string s] w fun e w' => e = .returned (.agg #[.int .i64 2, .int .u64 0, .string s]) ∧ Below w.heap.size w w' := by
  have B := hid (alloc_b w (.cells #[.int .i64 2, .int .u64 0, .string s] 24))
  have X := hid (Bx.new w 24 #[.int .i64 2, .int .u64 0, .string s])
  go_enter Tryz.func17, Tryz.ntmps17
  go_wp2_with fail
  (try simp only [Exit.inBlock, Exit.then])
  refine bodyPost_ret (results_cell_row rfl _ _ w.heap.size 24 _ (0, 0) _ rfl X.out Tryz.underlying24 rfl (by kernel_rfl)) rfl ?_
  exact ⟨rfl, B.out⟩

set_option maxRecDepth 100000 in
theorem nplain_any (n : Int) (w : World) : Calls Tryz.prog 273 #[.agg #[.int .u64 n]] w fun e w' => e = .returned (.agg #[.int .i64 1, .int .u64 n, .string ⟨#[]⟩]) ∧ Below w.heap.size w w' := by
  have a := alloc_b w (.cells #[.int .u64 n] 88)
  have B := hid (below_on a (alloc_b (w.alloc (.cells #[.int .u64 n] 88)) (.cells #[.int .i64 1, .int .u64 n, .string ⟨#[]⟩] 24)))
  have sz : (w.alloc (.cells #[.int .u64 n] 88)).heap.size = w.heap.size + 1 := Array.size_push ..
  have X : Hid (Bx ((w.alloc (.cells #[.int .u64 n] 88)).alloc (.cells #[.int .i64 1, .int .u64 n, .string ⟨#[]⟩] 24)) (w.heap.size + 1) 24 #[.int .i64 1, .int .u64 n, .string ⟨#[]⟩]) := by rw [Hid, ← sz]; exact Bx.new _ _ _
  clear a sz
  go_enter Tryz.func273, Tryz.ntmps273
  go_wp2_with fail
  (try simp only [Exit.inBlock, Exit.then])
  refine bodyPost_ret (results_cell_row rfl _ _ (w.heap.size + 1) 24 _ (0, 0) _ rfl X.out Tryz.underlying24 rfl (by kernel_rfl)) rfl ?_
  exact ⟨rfl, B.out⟩

namespace Re
/-- Two boxes of values, the second of zeros. -/
structure RP (w : World) (k n : Int) (s : ByteArray) (W : World) : Prop where
  bel : Below w.heap.size w W
  vb : Bx W w.heap.size 24 #[.int .i64 k, .int .u64 n, .string s]
  rb : Bx W (w.heap.size + 1) 24 #[.int .i64 0, .int .u64 0, .string ⟨#[]⟩]
theorem RP.new (w : World) (k n : Int) (s : ByteArray) : RP w k n s ((w.alloc (.cells #[.int .i64 k, .int .u64 n, .string s] 24)).alloc (.cells #[.int .i64 0, .int .u64 0, .string ⟨#[]⟩] 24)) := by
  have b := B2.new w k n s 0 0 ⟨#[]⟩
  exact ⟨b.bel, b.vb, b.vc⟩
theorem RP.on {w W W' : World} {k n : Int} {s : ByteArray} (h : RP w k n s W) (b : Below W.heap.size W W') : RP w k n s W' := ⟨below_on h.bel b, h.vb.on b, h.rb.on b⟩
end Re

set_option maxRecDepth 100000 in
set_option maxHeartbeats 1000000 in
theorem vplainN_any (n : Int) (s : ByteArray) (w : World) : Calls Tryz.prog 13 #[.agg #[.int .i64 1, .int .u64 n, .string s]] w fun e w' => e = .returned (.agg #[.int .i64 1, .int .u64 n, .string ⟨#[]⟩]) ∧ Below w.heap.size w w' := by
  have IN1 : Hid (∀ W, Calls Tryz.prog 26 #[.agg #[.int .i64 1, .int .u64 n, .string s]] W fun e w' => e = .returned (.iface 88 (.agg #[.int .u64 n])) ∧ Below W.heap.size W w') := fun W => vinside_any 1 n s W
  have PN := hid (fun W => nplain_any n W)
  have B0 := hid (Re.RP.new w 1 n s)
  go_enter Tryz.func13, Tryz.ntmps13
  go_wp2_with fail
  generalize (w.alloc (.cells #[.int .i64 1, .int .u64 n, .string s] 24)).alloc (.cells #[.int .i64 0, .int .u64 0, .string ⟨#[]⟩] 24) = wA at *
  refine (IN1.out _).mono ?_
  rintro e w1 ⟨rfl, b1⟩
  have B1 := hid (B0.out.on b1)
  clear b1 B0 IN1
  go_wp2_with fail
  refine (PN.out _).mono ?_
  rintro e w2 ⟨rfl, b2⟩
  have B2 := hid (B1.out.on b2)
  clear b2 B1 PN
  have c0 := B2.out.rb.cell 0 _ rfl
  have c1 := B2.out.rb.cell 1 _ rfl
  have c2 := B2.out.rb.cell 2 _ rfl
  have f0 := B2.out.rb.free 0
  have f1 := B2.out.rb.free 1
  have f2 := B2.out.rb.free 2
  go_wp2_with fail
  (try simp only [Exit.inBlock, Exit.then])
  refine bodyPost_ret (results_cell_row rfl _ _ (w.heap.size + 1) 24 _ (0, 0) _ rfl (B2.out.rb.put3 _ _ _) Tryz.underlying24 rfl (by kernel_rfl)) rfl ?_
  exact ⟨rfl, bset3_below B2.out.bel (Nat.le_succ _)⟩

set_option maxRecDepth 100000 in
set_option maxHeartbeats 4000000 in
theorem qpush_any (base q h : Nat) (mv : Value) (E : List Re.En) (c k n : Int) (s : ByteArray) (K M : Int) (S : ByteArray) (w : World) (st : Re.QS base q h mv E c w) (hE : E.length < 1000000000000) (c0 : 0 ≤ c) (c1 : c < 1000000000000000) (M0 : 0 ≤ M) (M1 : M < 18446744073709551616) (hb : base ≤ w.heap.size)
    (PL : ∀ W, Calls Tryz.prog 13 #[.agg #[.int .i64 k, .int .u64 n, .string s]] W fun e w' => e = .returned (.agg #[.int .i64 K, .int .u64 M, .string S]) ∧ Below W.heap.size W w') :
    Calls Tryz.prog 12 #[.pointer (some ⟨q, 0, none⟩), .agg #[.int .i64 k, .int .u64 n, .string s]] w fun e w' => e = .returned (.int .i64 c) ∧ (∃ mv', Re.QS base q h mv' (Re.upF (E ++ [⟨⟨Re.rt K M S, c⟩, K, M, S⟩]) E.length) (c + 1) w') ∧ Re.Kp (fun b => b = q ∨ b = h ∨ mv.ownBlock = some b) w w' := by
  have PL := hid PL
  have B0 := alloc_b w (.cells #[.int .i64 k, .int .u64 n, .string s] 24)
  have MA : Hid (∀ W, Below w.heap.size w W → Calls Tryz.prog 29 #[.pointer (some ⟨q, 0, none⟩)] W fun e w' => e = .returned (.bool true) ∧ w' = W) := fun W hW => made_any q h c W (st.qb.on hW)
  have RK := hid (fun W => rankof_any K M S W M0 M1)
  obtain ⟨t, p, u, er⟩ := Re.er_ex (Re.rt K M S)
  rw [er] at RK
  have V0 := hid (Bx.new w 24 #[.int .i64 k, .int .u64 n, .string s])
  have ex : Re.ee ⟨⟨Re.rt K M S, c⟩, K, M, S⟩ = [.bool t, .int .i64 p, .string u, .int .i64 c, .int .i64 K, .int .u64 M, .string S] := by rw [Re.ee, Re.et, er]; rfl
  have ST := hid st
  have HP : Hid (∀ W, Re.QS base q h mv E (c + 1) W → base ≤ W.heap.size → Calls Tryz.prog 30 #[.pointer (some ⟨h, 0, none⟩), .agg #[.bool t, .int .i64 p, .string u, .int .i64 c, .int .i64 K, .int .u64 M, .string S]] W fun e w' => e = .returned (.tuple #[]) ∧ (∃ mv', Re.QS base q h mv' (Re.upF (E ++ [⟨⟨Re.rt K M S, c⟩, K, M, S⟩]) E.length) (c + 1) w') ∧ Re.Kp (fun b => b = h ∨ mv.ownBlock = some b) W w') := fun W sW hW => by
    have := hpush_any base h mv E ⟨⟨Re.rt K M S, c⟩, K, M, S⟩ W sW.hb sW.row hE hW
    rw [ex] at this
    refine this.mono ?_
    rintro e w' ⟨rfl, mv', b', r', k'⟩
    refine ⟨rfl, ⟨mv', ?_, b', r', sW.bq, sW.bh⟩, k'⟩
    exact sW.qb.kp k' (fun z => by
      rcases z with z | z
      · have e := sW.qb
        rw [z] at e
        have e2 := sW.hb
        unfold Bx at e e2
        rw [e] at e2
        simp at e2
      · exact sW.row.apart sW.qb (by decide) z)
  have cb : c ≤ 999999999999999 := by omega
  have wc : IntKind.i64.wrap (c + 1) = c + 1 := by rw [IntKind.wrap_i64]; omega
  have HB := hid hb
  generalize Re.upF (E ++ [⟨⟨Re.rt K M S, c⟩, K, M, S⟩]) E.length = U at *
  clear st hE c1 M0 M1 hb er ex
  go_enter Tryz.func12, Tryz.ntmps12
  go_wp2_with fail
  generalize w.alloc (.cells #[.int .i64 k, .int .u64 n, .string s] 24) = wa at *
  refine (MA.out _ B0).mono ?_
  rintro e w1 ⟨rfl, rfl⟩
  clear MA
  have v0 := V0.out.cell 0 _ rfl
  have v1 := V0.out.cell 1 _ rfl
  have v2 := V0.out.cell 2 _ rfl
  go_wp2_with fail
  refine (PL.out _).mono ?_
  rintro e w2 ⟨rfl, b2⟩
  have Q2 := ST.out.on (below_on B0 b2)
  have Q3 := Q2.on (alloc_b w2 (.cells #[.int .i64 K, .int .u64 M, .string S] 24))
  have q0 := Q3.qb.cell 0 _ rfl
  have q1 := Q3.qb.cell 1 _ rfl
  have qf := Q3.qb.free 1
  have q0' := Q2.qb.cell 0 _ rfl
  have q1' := Q2.qb.cell 1 _ rfl
  have ql := Q2.qb.lt
  clear v0 v1 v2 V0
  have hq : h ≠ q := fun e => by
    have e1 := Q2.qb
    have e2 := Q2.hb
    rw [e] at e2
    unfold Bx at e1 e2
    rw [e1] at e2
    simp at e2
  have sz : (w2.setCell ⟨q, 1, none⟩ (.int .i64 (c + 1))).heap.size = w2.heap.size := by simp [World.setCell]
  have o2 : Bx ((w2.setCell ⟨q, 1, none⟩ (.int .i64 (c + 1))).alloc (.cells #[.int .i64 K, .int .u64 M, .string S] 24)) w2.heap.size 24 #[.int .i64 K, .int .u64 M, .string S] := by
    have := Bx.new (w2.setCell ⟨q, 1, none⟩ (.int .i64 (c + 1))) 24 #[.int .i64 K, .int .u64 M, .string S]
    rwa [sz] at this
  have Q4 : Re.QS base q h mv E (c + 1) (w2.setCell ⟨q, 1, none⟩ (.int .i64 (c + 1))) := ⟨Q2.qb.set 1 _, Q2.hb.far (fun e => hq e.symm), Q2.row.same (fun g e => Below.heap_setCell _ _ _ _ (fun z => Q2.row.apart Q2.qb (by decide) (e.trans (congrArg some z)))), Q2.bq, Q2.bh⟩
  have T0 : Hid (Re.QS base q h mv E (c + 1) ((w2.setCell ⟨q, 1, none⟩ (.int .i64 (c + 1))).alloc (.cells #[.int .i64 K, .int .u64 M, .string S] 24)) ∧ Bx ((w2.setCell ⟨q, 1, none⟩ (.int .i64 (c + 1))).alloc (.cells #[.int .i64 K, .int .u64 M, .string S] 24)) w2.heap.size 24 #[.int .i64 K, .int .u64 M, .string S] ∧ Re.Kp (fun b => b = q ∨ b = h ∨ mv.ownBlock = some b) w ((w2.setCell ⟨q, 1, none⟩ (.int .i64 (c + 1))).alloc (.cells #[.int .i64 K, .int .u64 M, .string S] 24))) :=
    ⟨Q4.on (alloc_b _ _), o2, ((Re.Kp.of (below_on B0 b2)).set (.inl rfl) _ _).trans (Re.Kp.of (alloc_b _ _))⟩
  have ZS : Hid (base ≤ ((w2.setCell ⟨q, 1, none⟩ (.int .i64 (c + 1))).alloc (.cells #[.int .i64 K, .int .u64 M, .string S] 24)).heap.size) := by
    have h1 := B0.size
    have h2 := b2.size
    have h3 := (alloc_b (w2.setCell ⟨q, 1, none⟩ (.int .i64 (c + 1))) (.cells #[.int .i64 K, .int .u64 M, .string S] 24)).size
    have := HB.out
    rw [Hid]; omega
  clear b2 B0 Q2 Q3 Q4 PL ST o2 hq HB sz
  go_upto_region 6 with fail
  clear q0 q1 qf q0' q1' ql
  generalize ((w2.setCell ⟨q, 1, none⟩ (.int .i64 (c + 1))).alloc (.cells #[.int .i64 K, .int .u64 M, .string S] 24)) = w3 at *
  have T1 : Hid ((Re.QS base q h mv E (c + 1) w3.drew ∧ Bx w3.drew w2.heap.size 24 #[.int .i64 K, .int .u64 M, .string S] ∧ Re.Kp (fun b => b = q ∨ b = h ∨ mv.ownBlock = some b) w w3.drew) ∧ base ≤ w3.drew.heap.size) := ⟨⟨T0.out.1.on (Below.drew (Below.refl _ _)), T0.out.2.1.on (Below.drew (Below.refl _ _)), T0.out.2.2.trans (Re.Kp.of (Below.drew (Below.refl _ _)))⟩, ZS.out⟩
  have SS : Hid (∀ W, (Re.QS base q h mv E (c + 1) W ∧ Bx W w2.heap.size 24 #[.int .i64 K, .int .u64 M, .string S] ∧ Re.Kp (fun b => b = q ∨ b = h ∨ mv.ownBlock = some b) w W) ∧ base ≤ W.heap.size → W.cell? ⟨q, 0, none⟩ = some (.pointer (some ⟨h, 0, none⟩)) ∧ W.cell? ⟨w2.heap.size, 0, none⟩ = some (.int .i64 K) ∧ W.cell? ⟨w2.heap.size, 1, none⟩ = some (.int .u64 M) ∧ W.cell? ⟨w2.heap.size, 2, none⟩ = some (.string S)) := fun W z => ⟨z.1.1.qb.cell 0 _ rfl, z.1.2.1.cell 0 _ rfl, z.1.2.1.cell 1 _ rfl, z.1.2.1.cell 2 _ rfl⟩
  have MK : Hid (∀ W W', ((Re.QS base q h mv E (c + 1) W ∧ Bx W w2.heap.size 24 #[.int .i64 K, .int .u64 M, .string S] ∧ Re.Kp (fun b => b = q ∨ b = h ∨ mv.ownBlock = some b) w W) ∧ base ≤ W.heap.size) → Below W.heap.size W W' → (Re.QS base q h mv E (c + 1) W' ∧ Bx W' w2.heap.size 24 #[.int .i64 K, .int .u64 M, .string S] ∧ Re.Kp (fun b => b = q ∨ b = h ∨ mv.ownBlock = some b) w W') ∧ base ≤ W'.heap.size) := fun W W' z b => ⟨⟨z.1.1.on b, z.1.2.1.on b, z.1.2.2.trans (Re.Kp.of b)⟩, Nat.le_trans z.2 b.size⟩
  have HPC : Hid (∀ W, ((Re.QS base q h mv E (c + 1) W ∧ Bx W w2.heap.size 24 #[.int .i64 K, .int .u64 M, .string S] ∧ Re.Kp (fun b => b = q ∨ b = h ∨ mv.ownBlock = some b) w W) ∧ base ≤ W.heap.size) → Calls Tryz.prog 30 #[.pointer (some ⟨h, 0, none⟩), .agg #[.bool t, .int .i64 p, .string u, .int .i64 c, .int .i64 K, .int .u64 M, .string S]] W fun e w' => e = .returned (.tuple #[]) ∧ ((∃ mv', Re.QS base q h mv' U (c + 1) w') ∧ Re.Kp (fun b => b = q ∨ b = h ∨ mv.ownBlock = some b) w w') ∧ (w'.cell? ⟨q, 0, none⟩ = some (.pointer (some ⟨h, 0, none⟩)) ∧ w'.cell? ⟨w2.heap.size, 0, none⟩ = some (.int .i64 K) ∧ w'.cell? ⟨w2.heap.size, 1, none⟩ = some (.int .u64 M) ∧ w'.cell? ⟨w2.heap.size, 2, none⟩ = some (.string S))) := fun W z => by
    refine (HP.out W z.1.1 z.2).mono ?_
    rintro e w' ⟨rfl, ⟨mv', s'⟩, k'⟩
    have hne : ¬ (w2.heap.size = h ∨ mv.ownBlock = some w2.heap.size) := by
      rintro (e | e)
      · have e1 := z.1.1.hb
        have e2 := z.1.2.1
        rw [e] at e2
        unfold Bx at e1 e2
        rw [e1] at e2
        simp at e2
      · exact z.1.1.row.apart z.1.2.1 (by decide) e
    have ob := z.1.2.1.kp k' hne
    exact ⟨rfl, ⟨⟨mv', s'⟩, z.1.2.2.trans (k'.mono (fun b e => .inr e))⟩, s'.qb.cell 0 _ rfl, ob.cell 0 _ rfl, ob.cell 1 _ rfl, ob.cell 2 _ rfl⟩
  clear T0 ZS HP
  go_region_held3 (fun wx => wx.cell? ⟨q, 0, none⟩ = some (.pointer (some ⟨h, 0, none⟩)) ∧ wx.cell? ⟨w2.heap.size, 0, none⟩ = some (.int .i64 K) ∧ wx.cell? ⟨w2.heap.size, 1, none⟩ = some (.int .u64 M) ∧ wx.cell? ⟨w2.heap.size, 2, none⟩ = some (.string S)) (first | (with_reducible exact T3.out) | (with_reducible exact SS.out _ T2.out) | (with_reducible exact SS.out _ T1.out)) (first
    | (go_at_call 31; with_reducible refine (RK.out _).mono ?_; rintro e w5 ⟨rfl, hB⟩; have T2 := hid (MK.out _ _ T1.out hB); clear hB)
    | (go_at_call 30; with_reducible refine (HPC.out _ T2.out).mono ?_; rintro e w6 ⟨rfl, hF, hS⟩; have T3 := hid hS; have FF := hid hF; clear hF hS))
  clear T1 T2 T3 SS MK HPC RK
  go_wp2_with fail
  go_ret
  exact ⟨rfl, FF.out⟩
end Go.Proofs.YtigmhnlcmhpepaaGreatDoor

namespace Go.Proofs.YtigmhnlcmhpepaaGreatDoor
open Go Go.RowKit Go.Deep Go.Shelf

theorem results_c3 {P : Program} {fn : Func} {p u v : Tmp} {ty : TypeId} (h : fn.results = #[.cell p ty, .tmp u, .tmp v]) (tmps : Array Value) (w : World) (g : Nat) (t : TypeId) (cs : Array Value) (fr : Nat × Nat) (d : TypeDesc)
    (hp : tmps.getD p undef = .pointer (some ⟨g, 0, none⟩)) (hg : w.heap[g]? = some (.cells cs t fr))
    (hu : P.underlying ty = some d) (hd : (match d with | .struct _ | .array _ _ => true | _ => false) = true) (hi : (P.info? ty).map (·.size) = some cs.size) :
    (results fn tmps).run P w = .ok (.tuple #[.agg cs, tmps.getD u undef, tmps.getD v undef]) w := by
  have e := hp
  rw [Array.getD_eq_getD_getElem?] at e
  simp only [results, h]
  simp [Result.andThen, e, asAddr, run_loadVar_row w g t ty cs fr d hg hu hd hi]

set_option maxRecDepth 100000 in
set_option maxHeartbeats 4000000 in
theorem qpop_any (base q h : Nat) (mv mv' : Value) (E E' : List Re.En) (c : Int) (x : Re.En) (S : Nat → Prop) (w : World) (st : Re.QS base q h mv E c w) (hne : 0 < E.length) (hS : ∀ b, S b → b < w.heap.size)
    (PC : ∀ W, Re.QS base q h mv E c W → Calls Tryz.prog 32 #[.pointer (some ⟨h, 0, none⟩)] W fun e w' => e = .returned (.agg (Re.ee x).toArray) ∧ Re.QS base q h mv' E' c w' ∧ Re.Kp S W w') :
    Calls Tryz.prog 14 #[.pointer (some ⟨q, 0, none⟩)] w fun e w' => e = .returned (.tuple #[.agg #[.int .i64 x.k, .int .u64 x.n, .string x.s], .int .i64 x.x.i, .bool true]) ∧ Re.QS base q h mv' E' c w' ∧ Re.Kp S w w' := by
  have b0 := alloc_b w (.cells #[.int .i64 0, .int .u64 0, .string ⟨#[]⟩] 24)
  have r0 := Bx.new w 24 #[.int .i64 0, .int .u64 0, .string ⟨#[]⟩]
  have q0 := st.on b0
  have LE := hid (fun W (z : Re.QS base q h mv E c W) => qlen_any base q h mv E c W z)
  have n0 : ((E.length : Int) == 0) = false := beq_false_of_ne (by omega)
  have sl : w.heap.size < (w.alloc (.cells #[.int .i64 0, .int .u64 0, .string ⟨#[]⟩] 24)).heap.size := by rw [World.size_alloc]; omega
  obtain ⟨t, p, u, ex, -⟩ := Re.ee_ex x
  have PC := hid PC
  rw [ex] at PC
  clear ex hne st
  go_enter Tryz.func14, Tryz.ntmps14
  go_wp2_with fail
  generalize w.alloc (.cells #[.int .i64 0, .int .u64 0, .string ⟨#[]⟩] 24) = wa at *
  refine (LE.out _ q0).mono ?_
  rintro e w1 ⟨rfl, rfl⟩
  clear LE
  have c0 := q0.qb.cell 0 _ rfl
  go_wp2_with fail
  refine (PC.out _ q0).mono ?_
  rintro e w2 ⟨rfl, q2, k2⟩
  have r2 := r0.kp k2 (fun z => absurd (hS _ z) (Nat.lt_irrefl _))
  have kk : Re.Kp S w w2 := (Re.Kp.of b0).trans k2
  have s2 : w.heap.size < w2.heap.size := Nat.lt_of_lt_of_le sl k2.size
  clear PC k2 c0 q0 r0 b0 sl
  have ba := alloc_b w2 (.cells #[.bool t, .int .i64 p, .string u, .int .i64 x.x.i, .int .i64 x.k, .int .u64 x.n, .string x.s] 68)
  have e3 := Bx.new w2 68 #[.bool t, .int .i64 p, .string u, .int .i64 x.x.i, .int .i64 x.k, .int .u64 x.n, .string x.s]
  have r3 := r2.on ba
  have q3 := q2.on ba
  have k3 := kk.trans (Re.Kp.of (S := S) ba)
  go_upto_region 4 with fail
  generalize w2.alloc (.cells #[.bool t, .int .i64 p, .string u, .int .i64 x.x.i, .int .i64 x.k, .int .u64 x.n, .string x.s] 68) = w3 at *
  have dd : Below w3.heap.size w3 w3.drew := Below.drew (Below.refl _ _)
  have e4 := e3.on dd
  have r4 := r3.on dd
  have q4 := q3.on dd
  have k4 := k3.trans (Re.Kp.of (S := S) dd)
  have nz : w.heap.size ≠ w2.heap.size := by omega
  obtain ⟨w5, hw5⟩ : ∃ w5, ((w3.drew.setCell ⟨w.heap.size, 0, none⟩ (.int .i64 x.k)).setCell ⟨w.heap.size, 1, none⟩ (.int .u64 x.n)).setCell ⟨w.heap.size, 2, none⟩ (.string x.s) = w5 := ⟨_, rfl⟩
  have e5 : Bx w5 w2.heap.size 68 #[.bool t, .int .i64 p, .string u, .int .i64 x.x.i, .int .i64 x.k, .int .u64 x.n, .string x.s] := hw5 ▸ ((e4.far nz).far nz).far nz
  have r5 : Bx w5 w.heap.size 24 #[.int .i64 x.k, .int .u64 x.n, .string x.s] := hw5 ▸ r4.put3 _ _ _
  have R5 : Hid (Bx w5 w.heap.size 24 #[.int .i64 x.k, .int .u64 x.n, .string x.s] ∧ Re.QS base q h mv' E' c w5 ∧ Re.Kp S w w5) := by
    refine ⟨r5, ?_, ?_⟩
    · have nq : w.heap.size ≠ q := fun e => by
        have a1 := q4.qb
        have a2 := r4
        rw [e] at a2
        unfold Bx at a1 a2
        rw [a1] at a2
        simp at a2
      have nh : w.heap.size ≠ h := fun e => by
        have a1 := q4.hb
        have a2 := r4
        rw [e] at a2
        unfold Bx at a1 a2
        rw [a1] at a2
        simp at a2
      have nr : ∀ g, mv'.ownBlock = some g → g ≠ w.heap.size := fun g e z => q4.row.apart r4 (by decide) (by rw [← z]; exact e)
      rw [← hw5]
      exact ⟨((q4.qb.far nq).far nq).far nq, ((q4.hb.far nh).far nh).far nh, q4.row.same (fun g e => (Re.setCells_all w.heap.size [.int .i64 x.k, .int .u64 x.n, .string x.s] 0 w3.drew).2.2.2.2 g (nr g e)), q4.bq, q4.bh⟩
    · rw [← hw5]
      exact k4.setcs (.inr (Nat.le_refl _)) 0 [.int .i64 x.k, .int .u64 x.n, .string x.s]
  have T0 : Hid (w3.drew.cell? ⟨w2.heap.size, 3, none⟩ = some (.int .i64 x.x.i) ∧ w3.drew.cell? ⟨w2.heap.size, 4, none⟩ = some (.int .i64 x.k) ∧ w3.drew.cell? ⟨w2.heap.size, 5, none⟩ = some (.int .u64 x.n) ∧ w3.drew.cell? ⟨w2.heap.size, 6, none⟩ = some (.string x.s)) := ⟨e4.cell 3 _ rfl, e4.cell 4 _ rfl, e4.cell 5 _ rfl, e4.cell 6 _ rfl⟩
  have T1 : Hid (w5.cell? ⟨w2.heap.size, 3, none⟩ = some (.int .i64 x.x.i) ∧ w5.cell? ⟨w2.heap.size, 4, none⟩ = some (.int .i64 x.k) ∧ w5.cell? ⟨w2.heap.size, 5, none⟩ = some (.int .u64 x.n) ∧ w5.cell? ⟨w2.heap.size, 6, none⟩ = some (.string x.s)) := ⟨e5.cell 3 _ rfl, e5.cell 4 _ rfl, e5.cell 5 _ rfl, e5.cell 6 _ rfl⟩
  have tR : Hid (w3.drew.there w.heap.size 0 3) := fun i hi => by
    refine ⟨?_, r4.free _⟩
    rw [Nat.zero_add]
    rcases (show i = 0 ∨ i = 1 ∨ i = 2 by omega) with rfl | rfl | rfl <;> rw [r4.cell _ _ rfl] <;> rfl
  have oR : Hid ((#[.int .i64 x.k, .int .u64 x.n, .string x.s] : Array Value).all (·.oneCell') = true) := by simp [Hid, Value.oneCell']
  clear q2 kk r2 s2 ba e3 r3 q3 k3 dd e4 r4 q4 k4 e5 r5 hS nz
  refine wp_region_held_drew (S := (fun wx : World => wx.cell? ⟨w2.heap.size, 3, none⟩ = some (.int .i64 x.x.i) ∧ wx.cell? ⟨w2.heap.size, 4, none⟩ = some (.int .i64 x.k) ∧ wx.cell? ⟨w2.heap.size, 5, none⟩ = some (.int .u64 x.n) ∧ wx.cell? ⟨w2.heap.size, 6, none⟩ = some (.string x.s))) (by kernel_rfl) T0.out (fun hHeld => ?_)
  refine wpAnyH_take (i := 0) (oi := { dst := some 15, op := Go.Op.fieldAddr 68 (Go.Operand.tmp 5) 1, type := 0, pos := "queue.go:44", after := #[], guard := none }) (v := ?_) rfl (by kernel_rfl) (by kernel_rfl) (by kernel_rfl) (fun _ _ _ h => h) (Or.inl ⟨by rfl, ?_⟩) (by assumption) ?_
  rotate_left
  · (intro w hSw; (try dsimp only at hSw); go_simp; try with_reducible rfl)
  (try simp only [Act.put]); (try simp only [List.setIfInBounds_toArray]); (try simp only [List.set_cons_succ]); (try simp only [List.set_cons_zero])
  refine wpAnyH_take (i := 1) (oi := { dst := some 16, op := Go.Op.load 24 (Go.Operand.tmp 15), type := 24, pos := "queue.go:44", after := #[{ on := 0, ground := Go.Ground.data }], guard := none }) (v := ?_) rfl (by kernel_rfl) (by kernel_rfl) (by kernel_rfl) (fun _ _ _ h => h) (Or.inl ⟨by rfl, ?_⟩) (by assumption) ?_
  rotate_left
  · (intro w hSw; (try dsimp only at hSw); go_simp; try with_reducible rfl)
  (try simp only [Act.put]); (try simp only [List.setIfInBounds_toArray]); (try simp only [List.set_cons_succ]); (try simp only [List.set_cons_zero])
  refine wpAnyH_take (i := 2) (oi := { dst := some 17, op := Go.Op.fieldAddr 68 (Go.Operand.tmp 5) 0, type := 0, pos := "queue.go:44", after := #[{ on := 5, ground := Go.Ground.gcOnly Go.Departure.lateStores }], guard := none }) (v := ?_) rfl (by kernel_rfl) (by kernel_rfl) (by kernel_rfl) (fun _ _ _ h => h) (Or.inl ⟨by rfl, ?_⟩) (by assumption) ?_
  rotate_left
  · (intro w hSw; (try dsimp only at hSw); go_simp; try with_reducible rfl)
  (try simp only [Act.put]); (try simp only [List.setIfInBounds_toArray]); (try simp only [List.set_cons_succ]); (try simp only [List.set_cons_zero])
  refine wpAnyH_take (i := 3) (oi := { dst := some 18, op := Go.Op.fieldAddr 66 (Go.Operand.tmp 17) 1, type := 0, pos := "queue.go:44", after := #[{ on := 2, ground := Go.Ground.data }, { on := 5, ground := Go.Ground.gcOnly Go.Departure.lateStores }], guard := none }) (v := ?_) rfl (by kernel_rfl) (by kernel_rfl) (by kernel_rfl) (fun _ _ _ h => h) (Or.inl ⟨by rfl, ?_⟩) (by assumption) ?_
  rotate_left
  · (intro w hSw; (try dsimp only at hSw); go_simp; try with_reducible rfl)
  (try simp only [Act.put]); (try simp only [List.setIfInBounds_toArray]); (try simp only [List.set_cons_succ]); (try simp only [List.set_cons_zero])
  refine wpAnyH_take (i := 4) (oi := { dst := some 19, op := Go.Op.load 3 (Go.Operand.tmp 18), type := 3, pos := "queue.go:44", after := #[{ on := 3, ground := Go.Ground.data }, { on := 5, ground := Go.Ground.gcOnly Go.Departure.lateStores }], guard := none }) (v := ?_) rfl (by kernel_rfl) (by kernel_rfl) (by kernel_rfl) (fun _ _ _ h => h) (Or.inl ⟨by rfl, ?_⟩) (by assumption) ?_
  rotate_left
  · (intro w hSw; (try dsimp only at hSw); go_simp; try with_reducible rfl)
  (try simp only [Act.put]); (try simp only [List.setIfInBounds_toArray]); (try simp only [List.set_cons_succ]); (try simp only [List.set_cons_zero])
  refine wpAnyH_ready (rs := [5]) (by kernel_rfl) (by simp) ?_
  refine AllReadyH.cons (o := { dst := none, op := Go.Op.store 24 (Go.Operand.tmp 2) (Go.Operand.tmp 16), type := 0, pos := "queue.go:44", after := #[{ on := 1, ground := Go.Ground.data }, { on := 0, ground := Go.Ground.phase }, { on := 1, ground := Go.Ground.phase }, { on := 2, ground := Go.Ground.textOnly Go.Departure.lateStores }, { on := 3, ground := Go.Ground.textOnly Go.Departure.lateStores }, { on := 4, ground := Go.Ground.textOnly Go.Departure.lateStores }], guard := none }) rfl (fun K hK => ?_) (AllReadyH.nil)
  · rw [if_pos (by rfl)]
    refine wp_store_mid 24 _ _ rfl w.heap.size 0 #[.int .i64 x.k, .int .u64 x.n, .string x.s] rfl rfl tR.out (by kernel_rfl) oR.out ?_
    change K _ (((w3.drew.setCell ⟨w.heap.size, 0, none⟩ (.int .i64 x.k)).setCell ⟨w.heap.size, 1, none⟩ (.int .u64 x.n)).setCell ⟨w.heap.size, 2, none⟩ (.string x.s))
    rw [hw5]
    (try simp only [Act.put]); (try simp only [List.setIfInBounds_toArray]); (try simp only [List.set_cons_succ]); (try simp only [List.set_cons_zero])
    refine hK.out _ _ T1.out (fun hHeld => ?_)
    clear hK K
    refine wpAnyH_take (i := 6) (oi := { dst := some 3, op := Go.Op.assign (Go.Operand.tmp 19), type := 3, pos := "queue.go:44", after := #[{ on := 4, ground := Go.Ground.data }, { on := 5, ground := Go.Ground.chain }, { on := 0, ground := Go.Ground.phase }, { on := 1, ground := Go.Ground.phase }, { on := 2, ground := Go.Ground.phase }, { on := 3, ground := Go.Ground.phase }, { on := 4, ground := Go.Ground.phase }, { on := 5, ground := Go.Ground.phase }], guard := none }) (v := ?_) rfl (by kernel_rfl) (by kernel_rfl) (by kernel_rfl) (fun _ _ _ h => h) (Or.inl ⟨by rfl, ?_⟩) (by assumption) ?_
    rotate_left
    · (intro w hSw; (try dsimp only at hSw); go_simp; try with_reducible rfl)
    (try simp only [Act.put]); (try simp only [List.setIfInBounds_toArray]); (try simp only [List.set_cons_succ]); (try simp only [List.set_cons_zero])
    refine wpAnyH_take (i := 7) (oi := { dst := some 4, op := Go.Op.assign (Go.Operand.const (Go.Value.bool true)), type := 4, pos := "queue.go:44", after := #[{ on := 6, ground := Go.Ground.chain }, { on := 0, ground := Go.Ground.phase }, { on := 1, ground := Go.Ground.phase }, { on := 2, ground := Go.Ground.phase }, { on := 3, ground := Go.Ground.phase }, { on := 4, ground := Go.Ground.phase }, { on := 5, ground := Go.Ground.phase }, { on := 6, ground := Go.Ground.phase }], guard := none }) (v := ?_) rfl (by kernel_rfl) (by kernel_rfl) (by kernel_rfl) (fun _ _ _ h => h) (Or.inl ⟨by rfl, ?_⟩) (by assumption) ?_
    rotate_left
    · (intro w hSw; (try dsimp only at hSw); go_simp; try with_reducible rfl)
    (try simp only [Act.put]); (try simp only [List.setIfInBounds_toArray]); (try simp only [List.set_cons_succ]); (try simp only [List.set_cons_zero])
    refine wpAnyH_done (by kernel_rfl) ?_ _
    go_wp2_with fail
    (try simp only [Exit.inBlock, Exit.then])
    refine bodyPost_ret (results_c3 rfl _ _ w.heap.size 24 _ (0, 0) _ rfl R5.out.1 Tryz.underlying24 rfl (by kernel_rfl)) rfl ?_
    exact ⟨rfl, R5.out.2⟩
end Go.Proofs.YtigmhnlcmhpepaaGreatDoor
