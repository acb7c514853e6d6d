/-
  Texts put together: ReKf, ReKg, ReKc, ReKh, ReKj.
-/
import Derived.Test.YtpmmbaahoegmlaaGreatDoorRF
import Derived.Test.YtpmmbaahoegmlaaGreatDoorRE
import Derived.Deep.LoopGhost
import Derived.Lib.AppendZerosOnto
namespace Go.Proofs.YtpmmbaahoegmlaaGreatDoor
open Go Go.RowKit Go.Deep Go.Shelf

namespace Re
/-- The blocks of the lists lie apart, and apart from a block b. -/
def Ap (n : Nat) (q : Nat → Option Addr) : Prop := ∀ i j g, i < n → j < n → q i = some ⟨g, 0, none⟩ → q j = some ⟨g, 0, none⟩ → i = j
def Off (n : Nat) (q : Nat → Option Addr) (b : Nat) : Prop := ∀ i, i < n → q i ≠ some ⟨b, 0, none⟩
/-- The lists, the first f i of each marked; a row of noughts; the ends of the first m. -/
structure L1 (w0 : World) (n : Nat) (q : Nat → Option Addr) (ln cp : Nat → Nat) (bl bn be m : Nat) (f : Nat → Nat) (W : World) : Prop where
  row : ∀ i, i < n → W.cell? ⟨bl, i, none⟩ = some (.slice (q i) (ln i) (cp i))
  li : ∀ i, i < n → ∃ D, Li 0 W (q i) (cp i) D ∧ D.length = ln i ∧ ∀ k, k < f i → D[k]? = some (1000003 * ((i : Int) + 1) + (k : Int))
  no : Bx W bn 3 (fl ei (List.replicate n 0)).toArray
  en : ∃ E, Bx W be 3 (fl ei E).toArray ∧ E.length = n ∧ ∀ j, j < m → E[j]? = some (ln j : Int)
  bw : Below w0.heap.size w0 W
theorem L1.on {w0 : World} {n : Nat} {q : Nat → Option Addr} {ln cp : Nat → Nat} {bl bn be m : Nat} {f : Nat → Nat} {W W' : World} (h : L1 w0 n q ln cp bl bn be m f W) (b : Below W.heap.size W W') : L1 w0 n q ln cp bl bn be m f W' := by
  refine ⟨fun i hi => ?_, fun i hi => ?_, h.no.on b, ?_, below_on h.bw b⟩
  · rw [b.cell (cell_lt (h.row i hi))]; exact h.row i hi
  · obtain ⟨D, l, r⟩ := h.li i hi
    exact ⟨D, l.on b, r⟩
  · obtain ⟨E, x, r⟩ := h.en
    exact ⟨E, x.on b, r⟩
/-- The end of one more. -/
theorem L1.fin {w0 : World} {n : Nat} {q : Nat → Option Addr} {ln cp : Nat → Nat} {bl bn be m : Nat} {f : Nat → Nat} {W : World} (h : L1 w0 n q ln cp bl bn be m f W) (hm : m < n) (o : Off n q be) (nl : be ≠ bl) (nn : be ≠ bn) (hb : w0.heap.size ≤ be) :
    (∃ v, W.cell? ⟨be, m, none⟩ = some (.int .i64 v)) ∧ W.frozen? ⟨be, m, none⟩ = false ∧ L1 w0 n q ln cp bl bn be (m + 1) f (W.setCell ⟨be, m, none⟩ (.int .i64 (ln m : Int))) := by
  obtain ⟨E, x, el, ee⟩ := h.en
  have k : Kp (fun b => b = be) W (W.setCell ⟨be, m, none⟩ (.int .i64 (ln m : Int))) := (Kp.refl (fun b => b = be) W).set (b := be) rfl _ _
  have c0 := bx_cell ei_len x (List.getElem?_eq_getElem (show m < E.length by omega)) 0 (by omega) _ rfl
  rw [Nat.mul_one, Nat.add_zero] at c0
  have p := bx_put ei_len (i := m) x (ln m : Int) (by omega)
  rw [Nat.mul_one] at p
  refine ⟨⟨_, c0⟩, x.free _, fun i hi => ?_, fun i hi => ?_, h.no.kp k (fun e => nn e.symm), ⟨_, p, by rw [List.length_set]; exact el, fun j hj => ?_⟩, h.bw.setCell (p := ⟨be, m, none⟩) hb _⟩
  · rw [World.cell?_setCell_far _ _ _ _ nl]
    exact h.row i hi
  · obtain ⟨D, l, r⟩ := h.li i hi
    exact ⟨D, l.kp k (fun g e z => o i hi (by rw [e, z])), r⟩
  · by_cases e : m = j
    · subst e
      rw [List.getElem?_set_self (by omega)]
    · rw [List.getElem?_set_ne e]
      exact ee j (by omega)
/-- One more mark. -/
theorem L1.mark {w0 : World} {n : Nat} {q : Nat → Option Addr} {ln cp : Nat → Nat} {bl bn be m i k : Nat} {f : Nat → Nat} {W : World} (h : L1 w0 n q ln cp bl bn be m f W) (hi : i < n) (hk : k < ln i) (fk : f i = k) (a : Ap n q) (ol : Off n q bl) (on : Off n q bn) (oe : Off n q be) (lb : ∀ i, i < n → ∀ g, q i = some ⟨g, 0, none⟩ → w0.heap.size ≤ g) :
    ∃ g v, q i = some ⟨g, 0, none⟩ ∧ W.cell? ⟨g, k, none⟩ = some (.int .i64 v) ∧ W.frozen? ⟨g, k, none⟩ = false ∧ L1 w0 n q ln cp bl bn be m (fun j => if j = i then k + 1 else f j) (W.setCell ⟨g, k, none⟩ (.int .i64 (1000003 * ((i : Int) + 1) + (k : Int)))) := by
  obtain ⟨D, l, dl, dm⟩ := h.li i hi
  rcases l with ⟨_, _, rfl⟩ | ⟨g, qe, gr⟩
  · simp only [List.length_nil] at dl
    omega
  · have kd : k < D.length := by omega
    have c0 := GR.cell ei_len gr (List.getElem?_eq_getElem kd) 0 (by omega) _ rfl
    rw [Nat.mul_one, Nat.add_zero] at c0
    have kp : Kp (fun b => b = g) W (W.setCell ⟨g, k, none⟩ (.int .i64 (1000003 * ((i : Int) + 1) + (k : Int)))) := (Kp.refl (fun b => b = g) W).set (b := g) rfl _ _
    have p := GR.put ei_len gr kd (1000003 * ((i : Int) + 1) + (k : Int))
    rw [Nat.mul_one] at p
    refine ⟨g, _, qe, c0, gr.free _, fun j hj => ?_, fun j hj => ?_, h.no.kp kp (fun e => on i hi (by rw [qe, e])), ?_, h.bw.setCell (p := ⟨g, k, none⟩) (lb i hi g qe) _⟩
    · rw [World.cell?_setCell_far _ _ _ _ (show g ≠ bl from fun e => ol i hi (by rw [qe, e]))]
      exact h.row j hj
    · by_cases e : j = i
      · subst e
        refine ⟨_, .inr ⟨g, qe, p⟩, by rw [List.length_set]; exact dl, fun t ht => ?_⟩
        rw [if_pos rfl] at ht
        by_cases e : k = t
        · subst e
          rw [List.getElem?_set_self kd]
        · rw [List.getElem?_set_ne e]
          exact dm t (by omega)
      · obtain ⟨D', l', dl', dm'⟩ := h.li j hj
        refine ⟨D', l'.kp kp (fun g' e' z => e (a j i g' hj hi e' (by rw [qe, z]))), dl', fun t ht => dm' t ?_⟩
        rwa [if_neg e] at ht
    · obtain ⟨E, x, r⟩ := h.en
      exact ⟨E, x.kp kp (fun e => oe i hi (by rw [qe, e])), r⟩
end Re
end Go.Proofs.YtpmmbaahoegmlaaGreatDoor

namespace Go.Proofs.YtpmmbaahoegmlaaGreatDoor
open Go Go.RowKit Go.Deep Go.Shelf

namespace Re
theorem Kp.cell {S : Nat → Prop} {w w' : World} (k : Kp S w w') {b i : Nat} {v : Value} (h : w.cell? ⟨b, i, none⟩ = some v) (hs : ¬ S b) : w'.cell? ⟨b, i, none⟩ = some v := by
  rw [← h]
  exact World.cell?_of_block (w := w) (k.block b (cell_lt h) hs)
def es (x : Option Addr × Nat × Nat) : List Value := [.slice x.1 x.2.1 x.2.2]
theorem es_len (x : Option Addr × Nat × Nat) : (es x).length = 1 := rfl
/-- The blocks that are there before the loop. -/
structure Fx (w0 : World) (n : Nat) (q : Nat → Option Addr) (bl bn be bf base : Nat) : Prop where
  ap : Ap n q
  ol : Off n q bl
  on : Off n q bn
  oe : Off n q be
  of : Off n q bf
  lo : ∀ i, i < n → ∀ g, q i = some ⟨g, 0, none⟩ → g < base
  kl : bl < base
  kn : bn < base
  ke : be < base
  kf : bf < base
  fl : bf ≠ bl
  fn : bf ≠ bn
  fe : bf ≠ be
  lb : ∀ i, i < n → ∀ g, q i = some ⟨g, 0, none⟩ → w0.heap.size ≤ g
  bb : w0.heap.size ≤ bf
/-- The first i of the lists have been grown, in blocks of their own below R. -/
structure L2 (w0 : World) (n : Nat) (q : Nat → Option Addr) (ln cp : Nat → Nat) (bl bn be : Nat) (s : Int) (tt bf base R i : Nat) (W : World) : Prop where
  l1 : L1 w0 n q ln cp bl bn be n ln W
  fw : ∃ F : List (Option Addr × Nat × Nat), Bx W bf 29 (fl es F).toArray ∧ F.length = n ∧ ∀ j, j < i → ∃ g c D, F[j]? = some (some ⟨g, 0, none⟩, ln j + tt, c) ∧ GR ei 1 3 0 W g c D ∧ D.length = ln j + tt ∧ (∀ k, ln j ≤ k → k < ln j + tt → D[k]? = some (s * ((j : Int) + 1) + (k : Int))) ∧ (q j = some ⟨g, 0, none⟩ ∨ (base ≤ g ∧ g < R))
  br : base ≤ R
  rs : R ≤ W.heap.size
variable {w0 : World} {n : Nat} {q : Nat → Option Addr} {ln cp : Nat → Nat} {bl bn be : Nat} {s : Int} {tt bf base R i : Nat} {W W' : World}
theorem L2.kp (h : L2 w0 n q ln cp bl bn be s tt bf base R i W) (f : Fx w0 n q bl bn be bf base) {S : Nat → Prop} (k : Kp S W W') (hi : i < n) (hS : ∀ b, S b → q i = some ⟨b, 0, none⟩ ∨ R ≤ b)
    (di : ∃ D, Li 0 W' (q i) (cp i) D ∧ D.length = ln i ∧ ∀ k, k < ln i → D[k]? = some (1000003 * ((i : Int) + 1) + (k : Int))) : L2 w0 n q ln cp bl bn be s tt bf base R i W' := by
  have br := h.br
  have bb := f.bb
  have kf := f.kf
  have rs := h.rs
  have far : ∀ b, b < base → q i ≠ some ⟨b, 0, none⟩ → ¬ S b := fun b hb hq hs => by
    rcases hS b hs with e | e
    · exact hq e
    · omega
  refine ⟨⟨fun j hj => k.cell (h.l1.row j hj) (far _ f.kl (f.ol i hi)), fun j hj => ?_, h.l1.no.kp k (far _ f.kn (f.on i hi)), ?_, h.l1.bw.trans (k.below (by omega) (fun b hb => (hS b hb).elim (f.lb i hi b) (fun _ => by omega)))⟩, ?_, br, Nat.le_trans h.rs k.size⟩
  · by_cases e : j = i
    · subst e
      exact di
    · obtain ⟨D, l, r⟩ := h.l1.li j hj
      exact ⟨D, l.kp k (fun g hg => far g (f.lo j hj g hg) (fun z => e (f.ap j i g hj hi hg z))), r⟩
  · obtain ⟨E, x, r⟩ := h.l1.en
    exact ⟨E, x.kp k (far _ f.ke (f.oe i hi)), r⟩
  · obtain ⟨F, x, fln, r⟩ := h.fw
    refine ⟨F, x.kp k (far _ f.kf (f.of i hi)), fln, fun j hj => ?_⟩
    obtain ⟨g, c, D, r1, r2, r3, r4, r5⟩ := r j hj
    refine ⟨g, c, D, r1, r2.kp k ?_, r3, r4, r5⟩
    rcases r5 with e | ⟨e1, e2⟩
    · exact far g (f.lo j (by omega) g e) (fun z => by have := f.ap j i g (by omega) hi e z; omega)
    · intro hs
      rcases hS g hs with e | e
      · have := f.lo i hi g e
        omega
      · omega
/-- The list i as it grows: L behind it, t of them marked. -/
structure G2 (w0 : World) (n : Nat) (q : Nat → Option Addr) (ln cp : Nat → Nat) (bl bn be : Nat) (s : Int) (tt bf base R i : Nat) (gq : Option Addr) (gc L t : Nat) (W : World) : Prop where
  l2 : L2 w0 n q ln cp bl bn be s tt bf base R i W
  gg : ∃ D X, Li 0 W (q i) (cp i) D ∧ D.length = ln i ∧ (∀ k, k < ln i → D[k]? = some (1000003 * ((i : Int) + 1) + (k : Int))) ∧ Li 0 W gq gc (D ++ X) ∧ X.length = L ∧ ∀ j, j < t → X[j]? = some (s * ((i : Int) + 1) + ((ln i + j : Nat) : Int))
  own : (gq = q i ∧ gc = cp i) ∨ ∃ g, gq = some ⟨g, 0, none⟩ ∧ R ≤ g
theorem L2.on (h : L2 w0 n q ln cp bl bn be s tt bf base R i W) (b : Below W.heap.size W W') : L2 w0 n q ln cp bl bn be s tt bf base R i W' := by
  refine ⟨h.l1.on b, ?_, h.br, Nat.le_trans h.rs b.size⟩
  obtain ⟨F, x, fln, r⟩ := h.fw
  refine ⟨F, x.on b, fln, fun j hj => ?_⟩
  obtain ⟨g, c, D, r1, r2, r3⟩ := r j hj
  exact ⟨g, c, D, r1, r2.on b, r3⟩
theorem G2.on {gq : Option Addr} {gc L t : Nat} (h : G2 w0 n q ln cp bl bn be s tt bf base R i gq gc L t W) (b : Below W.heap.size W W') : G2 w0 n q ln cp bl bn be s tt bf base R i gq gc L t W' := by
  refine ⟨h.l2.on b, ?_, h.own⟩
  obtain ⟨D, X, l, a1, a2, m, a3⟩ := h.gg
  exact ⟨D, X, l.on b, a1, a2, m.on b, a3⟩
theorem G2.start (h : L2 w0 n q ln cp bl bn be s tt bf base R i W) (hi : i < n) : G2 w0 n q ln cp bl bn be s tt bf base R i (q i) (cp i) 0 0 W := by
  refine ⟨h, ?_, .inl ⟨rfl, rfl⟩⟩
  obtain ⟨D, l, a1, a2⟩ := h.l1.li i hi
  exact ⟨D, [], l, a1, a2, by rw [List.append_nil]; exact l, rfl, fun j hj => absurd hj (Nat.not_lt_zero _)⟩
/-- append. -/
theorem G2.app {gq : Option Addr} {gc L t gs m : Nat} {B : List Int} (h : G2 w0 n q ln cp bl bn be s tt bf base R i gq gc L L W) (f : Fx w0 n q bl bn be bf base) (hi : i < n) (hs : Bx W gs 3 (fl ei B).toArray) (b0 : 0 < B.length) (hl : ln i + L + B.length ≤ 8796093022208)
    (hB : ∀ j, L ≤ j → j < t → B[j - L]? = some (s * ((i : Int) + 1) + ((ln i + j : Nat) : Int))) :
    ∃ g' c' w', (Builtin.append_ #[29, 29] 29 #[.slice gq (ln i + L) gc, .slice (some ⟨gs, 0, none⟩) B.length m]).run Tryz.prog W = .ok (.slice (some ⟨g', 0, none⟩) (ln i + L + B.length) c') w' ∧ G2 w0 n q ln cp bl bn be s tt bf base R i (some ⟨g', 0, none⟩) c' (L + B.length) t w' := by
  obtain ⟨D, X, l, a1, a2, mm, x1, x2⟩ := h.gg
  have dx : (D ++ X).length = ln i + L := by rw [List.length_append, a1, x1]
  obtain ⟨g', c', w', r, gr, k, o⟩ := mm.app (n := m) hs b0 (by rw [dx]; exact hl) (Nat.zero_le _)
  rw [dx] at r
  have rs := h.l2.rs
  have br := h.l2.br
  have ld : Li 0 w' (q i) (cp i) D := by
    rcases h.own with ⟨e1, e2⟩ | ⟨g, e, hg⟩
    · subst e2
      rw [e1] at k o
      rw [List.append_assoc] at gr
      exact l.still gr o
    · exact l.kp k (fun g2 h2 z => by
        have := f.lo i hi g2 h2
        rw [e] at z
        simp only [Option.some.injEq, Addr.mk.injEq, and_true] at z
        omega)
  refine ⟨g', c', w', r, h.l2.kp f k hi (fun b hb => ?_) ⟨D, ld, a1, a2⟩, ⟨D, X ++ B, ld, a1, a2, .inr ⟨g', rfl, by rw [← List.append_assoc]; exact gr⟩, by rw [List.length_append, x1], fun j hj => ?_⟩, ?_⟩
  · rcases h.own with ⟨e1, e2⟩ | ⟨g, e, hg⟩
    · exact .inl (by rw [← e1]; exact hb)
    · rw [e] at hb
      simp only [Option.some.injEq, Addr.mk.injEq, and_true] at hb
      exact .inr (by omega)
  · by_cases hj2 : j < L
    · rw [List.getElem?_append_left (by omega)]
      exact x2 j hj2
    · rw [List.getElem?_append_right (by omega), x1]
      exact hB j (by omega) hj
  · rcases o with ⟨e, ec⟩ | ⟨e, _⟩
    · rcases h.own with ⟨e1, e2⟩ | ⟨g, e1, hg⟩
      · exact .inl ⟨by rw [← e, e1], by rw [ec, e2]⟩
      · refine .inr ⟨g', rfl, ?_⟩
        rw [e1] at e
        simp only [Option.some.injEq, Addr.mk.injEq, and_true] at e
        omega
    · exact .inr ⟨g', rfl, by omega⟩
/-- One more mark. -/
theorem G2.put {g gc L t : Nat} (h : G2 w0 n q ln cp bl bn be s tt bf base R i (some ⟨g, 0, none⟩) gc L t W) (f : Fx w0 n q bl bn be bf base) (hi : i < n) (ht : t < L) :
    (∃ v, W.cell? ⟨g, ln i + t, none⟩ = some (.int .i64 v)) ∧ W.frozen? ⟨g, ln i + t, none⟩ = false ∧ G2 w0 n q ln cp bl bn be s tt bf base R i (some ⟨g, 0, none⟩) gc L (t + 1) (W.setCell ⟨g, ln i + t, none⟩ (.int .i64 (s * ((i : Int) + 1) + ((ln i + t : Nat) : Int)))) := by
  obtain ⟨D, X, l, a1, a2, mm, x1, x2⟩ := h.gg
  have dx : (D ++ X).length = ln i + L := by rw [List.length_append, a1, x1]
  rcases mm with ⟨e, _, _⟩ | ⟨g1, e, gr⟩
  · simp at e
  simp only [Option.some.injEq, Addr.mk.injEq, and_true] at e
  subst e
  have kd : ln i + t < (D ++ X).length := by omega
  have c0 := GR.cell ei_len gr (List.getElem?_eq_getElem kd) 0 (by omega) _ rfl
  rw [Nat.mul_one, Nat.add_zero] at c0
  have k : Kp (fun b => b = g) W (W.setCell ⟨g, ln i + t, none⟩ (.int .i64 (s * ((i : Int) + 1) + ((ln i + t : Nat) : Int)))) := (Kp.refl (fun b => b = g) W).set (b := g) rfl _ _
  have p := GR.put ei_len gr kd (s * ((i : Int) + 1) + ((ln i + t : Nat) : Int))
  rw [Nat.mul_one, List.set_append_right _ _ (by omega), a1, Nat.add_sub_cancel_left] at p
  have rs := h.l2.rs
  have br := h.l2.br
  have ld : Li 0 (W.setCell ⟨g, ln i + t, none⟩ (.int .i64 (s * ((i : Int) + 1) + ((ln i + t : Nat) : Int)))) (q i) (cp i) D := by
    rcases h.own with ⟨e1, e2⟩ | ⟨g2, e, hg⟩
    · rw [← e1, ← e2]
      exact .inr ⟨g, rfl, p.pre⟩
    · exact l.kp k (fun g3 h3 z => by
        have := f.lo i hi g3 h3
        simp only [Option.some.injEq, Addr.mk.injEq, and_true] at e
        omega)
  refine ⟨⟨_, c0⟩, gr.free _, h.l2.kp f k hi (fun b hb => ?_) ⟨D, ld, a1, a2⟩, ⟨D, _, ld, a1, a2, .inr ⟨g, rfl, p⟩, by rw [List.length_set, x1], fun j hj => ?_⟩, h.own⟩
  · rcases h.own with ⟨e1, e2⟩ | ⟨g2, e, hg⟩
    · exact .inl (by rw [← e1, hb])
    · simp only [Option.some.injEq, Addr.mk.injEq, and_true] at e
      exact .inr (by omega)
  · by_cases e : t = j
    · subst e
      rw [List.getElem?_set_self (by omega)]
    · rw [List.getElem?_set_ne e]
      exact x2 j (by omega)
end Re
end Go.Proofs.YtpmmbaahoegmlaaGreatDoor

namespace Go.Proofs.YtpmmbaahoegmlaaGreatDoor
open Go Go.RowKit Go.Deep Go.Shelf

set_option maxRecDepth 100000 in
set_option maxHeartbeats 4000000 in
theorem holdsown_yes (bl bf n cl cf : Nat) (seed : Int) (w : World)
    (hA : ∀ i, i < n → ∃ q L c F, w.cell? ⟨bl, i, none⟩ = some (.slice q L c) ∧ w.cell? ⟨bf, i, none⟩ = some (.int .i64 ((F : Nat) : Int)) ∧ F ≤ L ∧ L ≤ 8796093022208 ∧ ∀ k, F ≤ k → k < L → ∃ b, q = some ⟨b, 0, none⟩ ∧ w.cell? ⟨b, k, none⟩ = some (.int .i64 (seed * ((i : Int) + 1) + (k : Int))))
    (hn : n ≤ 100) (s0 : 0 ≤ seed) (s1 : seed ≤ 1000000000) :
    Calls Tryz.prog 19 #[.slice (some ⟨bl, 0, none⟩) n cl, .slice (some ⟨bf, 0, none⟩) n cf, .int .i64 seed] w fun e w' => e = .returned (.bool true) ∧ w' = w := by
  have HA := hid hA
  have nn : (n : Int) ≤ 100 := by omega
  clear hA
  go_enter Tryz.func19, Tryz.ntmps19
  go_wp2_with fail
  go_loopg [7] n (fun m iv wr => ∃ i : Nat, Hid (i + m = n) ∧ iv = .int .i64 (i : Int) ∧ wr = w)
  case atStart => exact ⟨0, by rw [Hid]; omega, rfl, rfl⟩
  case round =>
    obtain ⟨i, hi, rfl, hw⟩ := hrel
    rw [hw]
    clear hw wr
    by_cases h : i < n
    · have hlt : (i : Int) < (n : Int) := by omega
      obtain ⟨q, L, c, F, cl0, cf0, hg, hb, ci⟩ := HA.out i h
      have CI := hid ci
      clear ci
      have HGG := hid hg
      have hLb : (L : Int) ≤ 8796093022208 := by omega
      have w1 : IntKind.i64.wrap ((i : Int) + 1) = (i : Int) + 1 := by rw [IntKind.wrap_i64]; omega
      have mm : 0 ≤ seed * ((i : Int) + 1) ∧ seed * ((i : Int) + 1) ≤ 101000000000 := by
        constructor
        · exact Int.mul_nonneg s0 (by omega)
        · have a1 := Int.mul_le_mul_of_nonneg_right s1 (show (0 : Int) ≤ (i : Int) + 1 by omega)
          have a2 := Int.mul_le_mul_of_nonneg_left (show (i : Int) + 1 ≤ 101 by omega) (show (0 : Int) ≤ 1000000000 by omega)
          omega
      have w2 : IntKind.i64.wrap (seed * ((i : Int) + 1)) = seed * ((i : Int) + 1) := by rw [IntKind.wrap_i64]; omega
      have MM := hid mm
      clear hg mm
      generalize hS : seed * ((i : Int) + 1) = S at *
      go_wp2_with fail
      go_loopg [8] (L - F) (fun m kv wr => ∃ k : Nat, Hid (k + m = L ∧ F ≤ k) ∧ kv = .int .i64 (k : Int) ∧ wr = w)
      case atStart => exact ⟨F, by rw [Hid]; have := HGG.out; omega, rfl, rfl⟩
      case round =>
        obtain ⟨k, hk, rfl, hwr⟩ := hrel
        by_cases hkl : k < L
        · have hki : (k : Int) < (L : Int) := by omega
          obtain ⟨b, qe, cb⟩ := CI.out k hk.out.2 hkl
          rw [qe] at cl0
          have w3 : IntKind.i64.wrap (S + (k : Int)) = S + (k : Int) := by rw [IntKind.wrap_i64]; have := MM.out; omega
          rw [hwr]
          clear qe
          go_wp2_with fail
          go_roundg (L - (k + 1))
          case measure => have := hk.out; omega
          case rel => exact ⟨k + 1, by rw [Hid]; have := hk.out; omega, by go_num, rfl⟩
        · have hki : ¬ (k : Int) < (L : Int) := by omega
          rw [hwr]
          go_wp2_with fail
          go_roundg (n - (i + 1))
          case measure => have := hi.out; omega
          case rel => exact ⟨i + 1, by rw [Hid]; have := hi.out; omega, by go_num, rfl⟩
    · have hlt : ¬ (i : Int) < (n : Int) := by omega
      go_wp2_with fail
      go_ret
      exact ⟨rfl, rfl⟩
end Go.Proofs.YtpmmbaahoegmlaaGreatDoor

namespace Go.Proofs.YtpmmbaahoegmlaaGreatDoor
open Go Go.RowKit Go.Deep Go.Shelf

namespace Re
theorem infoIs : (Tryz.prog.info? 29).map (fun i => (i.zero, i.size, i.bytes)) = some (some (.slice none 0 0), 1, 24) := by kernel_rfl
theorem make_is (n : Nat) (hn : n ≤ 4398046511104) (W : World) : (Instr.makeSlice 35 (.int .i64 (n : Int)) (.int .i64 (n : Int))).run Tryz.prog W = .ok (.slice (some ⟨W.heap.size, 0, none⟩) n n) (W.alloc (.cells (fl es (List.replicate n (none, 0, 0))).toArray 29)) := by
  obtain ⟨i, hi, hz⟩ := Option.map_eq_some_iff.1 infoIs
  simp only [Prod.mk.injEq] at hz
  obtain ⟨z1, z2, z3⟩ := hz
  have := run_make (P := Tryz.prog) W 35 29 i _ Tryz.underlying35 hi z1 .i64 .i64 (n : Int) (n : Int) (by omega) (by omega) (by rw [z3]; omega) (by omega)
  rw [this, z2, Int.toNat_natCast]
  have e := made_fl es_len ((none, 0, 0) : Option Addr × Nat × Nat) (by omega) n
  rw [← e]
  rfl
variable {w0 : World} {n : Nat} {q : Nat → Option Addr} {ln cp : Nat → Nat} {bl bn be : Nat} {s : Int} {tt bf base R i : Nat} {W W' : World}
theorem L2.start (h : L1 w0 n q ln cp bl bn be n ln W) (x : Bx W bf 29 (fl es (List.replicate n (none, 0, 0))).toArray) : L2 w0 n q ln cp bl bn be s tt bf W.heap.size W.heap.size 0 W :=
  ⟨h, ⟨_, x, List.length_replicate, fun _ hj => absurd hj (Nat.not_lt_zero _)⟩, Nat.le_refl _, Nat.le_refl _⟩
theorem G2.done {g gc : Nat} (h : G2 w0 n q ln cp bl bn be s tt bf base R i (some ⟨g, 0, none⟩) gc tt tt W) (f : Fx w0 n q bl bn be bf base) (hi : i < n) :
    (∃ v l c, W.cell? ⟨bf, i, none⟩ = some (.slice v l c)) ∧ W.frozen? ⟨bf, i, none⟩ = false ∧ L2 w0 n q ln cp bl bn be s tt bf base W.heap.size (i + 1) (W.setCell ⟨bf, i, none⟩ (.slice (some ⟨g, 0, none⟩) (ln i + tt) gc)) := by
  obtain ⟨D, X, l, a1, a2, mm, x1, x2⟩ := h.gg
  have dx : (D ++ X).length = ln i + tt := by rw [List.length_append, a1, x1]
  rcases mm with ⟨e, _, _⟩ | ⟨g1, e, gr⟩
  · simp at e
  simp only [Option.some.injEq, Addr.mk.injEq, and_true] at e
  subst e
  obtain ⟨F, x, fln, r⟩ := h.l2.fw
  have rs := h.l2.rs
  have br := h.l2.br
  have kf := f.kf
  have gl := gr.lt
  have k : Kp (fun b => b = bf) W (W.setCell ⟨bf, i, none⟩ (.slice (some ⟨g, 0, none⟩) (ln i + tt) gc)) := (Kp.refl (fun b => b = bf) W).set (b := bf) rfl _ _
  have c0 := bx_cell es_len x (List.getElem?_eq_getElem (show i < F.length by omega)) 0 (by omega) _ rfl
  rw [Nat.mul_one, Nat.add_zero] at c0
  have p := bx_put es_len (i := i) x (some ⟨g, 0, none⟩, ln i + tt, gc) (by omega)
  rw [Nat.mul_one] at p
  have go : g ≠ bf ∧ (q i = some ⟨g, 0, none⟩ ∨ (base ≤ g ∧ g < W.heap.size)) := by
    rcases h.own with ⟨e1, e2⟩ | ⟨g2, e, hg⟩
    · exact ⟨fun z => f.of i hi (by rw [← e1, z]), .inl e1.symm⟩
    · simp only [Option.some.injEq, Addr.mk.injEq, and_true] at e
      exact ⟨by omega, .inr (by omega)⟩
  refine ⟨⟨_, _, _, c0⟩, x.free _, ⟨fun j hj => k.cell (h.l2.l1.row j hj) f.fl.symm, fun j hj => ?_, h.l2.l1.no.kp k f.fn.symm, ?_, h.l2.l1.bw.setCell (p := ⟨bf, i, none⟩) f.bb _⟩, ⟨_, p, by rw [List.length_set]; exact fln, fun j hj => ?_⟩, by omega, k.size⟩
  · obtain ⟨D', l', r'⟩ := h.l2.l1.li j hj
    exact ⟨D', l'.kp k (fun g2 e z => f.of j hj (by rw [e, z])), r'⟩
  · obtain ⟨E, y, r'⟩ := h.l2.l1.en
    exact ⟨E, y.kp k f.fe.symm, r'⟩
  · by_cases e : i = j
    · subst e
      refine ⟨g, gc, _, List.getElem?_set_self (by omega), gr.kp k go.1, dx, fun t h1 h2 => ?_, go.2⟩
      rw [List.getElem?_append_right (by omega), a1, x2 _ (by omega), show ln i + (t - ln i) = t by omega]
    · obtain ⟨g2, c2, D2, r1, r2, r3, r4, r5⟩ := r j (by omega)
      refine ⟨g2, c2, D2, by rw [List.getElem?_set_ne e]; exact r1, r2.kp k (fun z => ?_), r3, r4, ?_⟩
      · rcases r5 with e2 | ⟨e2, e3⟩
        · exact f.of j (by omega) (by rw [e2, z])
        · omega
      · rcases r5 with e2 | ⟨e2, e3⟩
        · exact .inl e2
        · exact .inr ⟨e2, by omega⟩
/-- What holdsOwn finds in the lists. -/
theorem L1.holds (h : L1 w0 n q ln cp bl bn be n ln W) (hl : ∀ i, i < n → ln i ≤ 4398046511104) :
    ∀ i, i < n → ∃ q L c F, W.cell? ⟨bl, i, none⟩ = some (.slice q L c) ∧ W.cell? ⟨bn, i, none⟩ = some (.int .i64 ((F : Nat) : Int)) ∧ F ≤ L ∧ L ≤ 8796093022208 ∧ ∀ k, F ≤ k → k < L → ∃ b, q = some ⟨b, 0, none⟩ ∧ W.cell? ⟨b, k, none⟩ = some (.int .i64 (1000003 * ((i : Int) + 1) + (k : Int))) := by
  intro i hi
  have l0 := hl i hi
  have c0 := bx_cell ei_len h.no (i := i) (a := 0) (by rw [List.getElem?_replicate, if_pos hi]) 0 (by omega) _ rfl
  rw [Nat.mul_one, Nat.add_zero] at c0
  refine ⟨_, _, _, 0, h.row i hi, c0, Nat.zero_le _, by omega, fun k _ hk => ?_⟩
  obtain ⟨D, l, a1, a2⟩ := h.li i hi
  rcases l with ⟨_, _, rfl⟩ | ⟨g, e, gr⟩
  · simp only [List.length_nil] at a1
    omega
  · have := GR.cell ei_len gr (a2 k hk) 0 (by omega) _ rfl
    rw [Nat.mul_one, Nat.add_zero] at this
    exact ⟨g, e, this⟩
theorem L2.holds (h : L2 w0 n q ln cp bl bn be s tt bf base R n W) (hl : ∀ i, i < n → ln i ≤ 4398046511104) (ht : tt ≤ 100) :
    ∀ i, i < n → ∃ q L c F, W.cell? ⟨bf, i, none⟩ = some (.slice q L c) ∧ W.cell? ⟨be, i, none⟩ = some (.int .i64 ((F : Nat) : Int)) ∧ F ≤ L ∧ L ≤ 8796093022208 ∧ ∀ k, F ≤ k → k < L → ∃ b, q = some ⟨b, 0, none⟩ ∧ W.cell? ⟨b, k, none⟩ = some (.int .i64 (s * ((i : Int) + 1) + (k : Int))) := by
  intro i hi
  have l0 := hl i hi
  obtain ⟨E, y, el, ee⟩ := h.l1.en
  obtain ⟨F, x, fln, r⟩ := h.fw
  obtain ⟨g, c, D, r1, r2, r3, r4, r5⟩ := r i hi
  have c0 := bx_cell ei_len y (ee i hi) 0 (by omega) _ rfl
  rw [Nat.mul_one, Nat.add_zero] at c0
  have c1 := bx_cell es_len x r1 0 (by omega) _ rfl
  rw [Nat.mul_one, Nat.add_zero] at c1
  refine ⟨some ⟨g, 0, none⟩, ln i + tt, c, ln i, c1, c0, by omega, by omega, fun k h1 h2 => ?_⟩
  have := GR.cell ei_len r2 (r4 k h1 h2) 0 (by omega) _ rfl
  rw [Nat.mul_one, Nat.add_zero] at this
  exact ⟨g, rfl, this⟩
end Re
end Go.Proofs.YtpmmbaahoegmlaaGreatDoor

namespace Go.Proofs.YtpmmbaahoegmlaaGreatDoor
open Go Go.RowKit Go.Deep Go.Shelf

namespace Re
theorem fl_nought (m : Nat) : fl ei (List.replicate m 0) = List.replicate m (Value.int .i64 0) := by
  induction m with
  | zero => rfl
  | succ m ih =>
    rw [List.replicate_succ, List.replicate_succ, ← ih]
    rfl
theorem zeros_i (m : Nat) : (Builtin.zeroCells (Value.int .i64 0).cells m).toList = fl ei (List.replicate m 0) := by
  rw [fl_nought, List.eq_replicate_iff]
  constructor
  · simp [Builtin.zeroCells, Value.cells]
  · intro b hb
    simp only [Builtin.zeroCells, Value.cells, Array.toList_map, List.mem_map] at hb
    obtain ⟨x, _, rfl⟩ := hb
    simp [Nat.mod_one]
theorem zeros_room {w : World} {g cap gl m : Nat} (i : TypeInfo) (hi : Tryz.prog.info? 3 = some i) (z1 : i.zero = some (.int .i64 0)) (z2 : i.size = 1) (z3 : i.bytes = 8) (hg : gl + m ≤ cap) (m0 : 0 < m) (hm : m ≤ 100)
    (hc : ∀ j, j < m → (w.cell? ⟨g, gl + j, none⟩).isSome = true) (hf : ∀ j, j < m → w.frozen? ⟨g, gl + j, none⟩ = false) :
    (Builtin.append_ #[29, 3] 29 #[.slice (some ⟨g, 0, none⟩) gl cap, .int .i64 (m : Int)]).run Tryz.prog w = .ok (.slice (some ⟨g, 0, none⟩) (gl + m) cap) (w.setCells g gl (fl ei (List.replicate m 0))) := by
  have lb := fl_len ei_len (List.replicate m 0)
  rw [List.length_replicate, Nat.mul_one] at lb
  have hst := run_storeCells_cells (P := Tryz.prog) g gl (fl ei (List.replicate m 0)) 0 w (by simpa [lb] using hc) (by simpa [lb] using hf) (fl_one _)
  simp only [Nat.add_zero] at hst
  have hw : IntKind.i64.wrap (m : Int) = m := by rw [IntKind.wrap_i64]; omega
  have h48i : ¬ (281474976710656 < (m : Int) * 8) := by omega
  have hneg : ¬ ((m : Int) < 0) := by omega
  have hk : m ≠ 0 := by omega
  have zl := zeros_i m
  simp [Builtin.append_, run_underlying Tryz.underlying29, run_underlying Tryz.underlying3, sizeOf, typeInfo, zeroValue, hi, z1, z2, z3, asInt, asIntOf, hw, hneg, h48i, hk, hg, zl, Addr.add_lit, hst]
theorem GR.appz {base : Nat} {w : World} {g cap m : Nat} {A : List Int} (h : GR ei 1 3 base w g cap A) (m0 : 0 < m) (hm : m ≤ 100) (hl : A.length ≤ 8796093022208) (hb : base ≤ w.heap.size) :
    ∃ g' cap' w', (Builtin.append_ #[29, 3] 29 #[.slice (some ⟨g, 0, none⟩) A.length cap, .int .i64 (m : Int)]).run Tryz.prog w = .ok (.slice (some ⟨g', 0, none⟩) (A.length + m) cap') w' ∧ GR ei 1 3 base w' g' cap' (A ++ List.replicate m 0) ∧ Kp (fun b => b = g) w w' ∧ ((g' = g ∧ cap' = cap) ∨ (w.heap.size ≤ g' ∧ Below w.heap.size w w')) := by
  obtain ⟨I, hi, hz⟩ := Option.map_eq_some_iff.1 infoI
  simp only [Prod.mk.injEq] at hz
  obtain ⟨z1, z2, z3⟩ := hz
  have lb := fl_len ei_len (List.replicate m 0)
  rw [List.length_replicate, Nat.mul_one] at lb
  have lf := fl_len ei_len A
  rw [Nat.mul_one] at lf
  have la : (A ++ List.replicate m (0 : Int)).length = A.length + m := by simp
  have fa : fl ei (A ++ List.replicate m 0) = fl ei A ++ fl ei (List.replicate m 0) := by simp [fl]
  obtain ⟨cur, b, s, r⟩ := h.bx
  have cl : cur.toList.length = cap * 1 := by rw [Array.length_toList]; exact s
  have m2 := h.le
  by_cases room : A.length + m ≤ cap
  · have q := zeros_room (w := w) (g := g) I hi z1 z2 z3 room m0 hm
      (fun j hj => by
        have := b.cell (A.length + j) _ (Array.getElem?_eq_getElem (by rw [s]; omega))
        rw [this]; rfl) (fun j _ => b.free _)
    refine ⟨g, cap, _, q, ⟨⟨_, bx_setc (t := 3) (fl ei (List.replicate m 0)) A.length _ cur.toList b (by rw [lb, cl]; omega), ?_, ?_⟩, by rw [la]; exact room, h.cm, h.bb⟩, (Kp.refl (fun b => b = g) _).setcs (.inl rfl) _ _, .inl ⟨rfl, rfl⟩⟩
    · rw [List.size_toArray, List.length_append, List.length_append, List.length_take, List.length_drop, lb, cl]
      omega
    · rw [Nat.mul_one] at r
      rw [la, fa, r, Nat.mul_one]
      rw [List.take_left' (by rw [List.length_append, lf, lb])]
  · have old := run_firstCells_some (P := Tryz.prog) w.drew I.size A.length ⟨g, 0, none⟩ A.length cap (fl ei A) (by rw [z2, Nat.mul_one]; exact lf) (fun j u hu2 => by
      rw [Go.WideShapes.add_plain, Nat.zero_add]
      have : w.cell? ⟨g, j, none⟩ = some u := by
        refine b.cell j u ?_
        rw [← r, List.getElem?_take] at hu2
        split at hu2
        · rw [← Array.getElem?_toList]; exact hu2
        · simp at hu2
      simpa using this)
    have fit := growslice_fits (need := A.length + m) (old := cap) (bytes := I.bytes) (by omega) (by rw [z3]; omega)
    have q := Lib.run_append_grow_zeros (P := Tryz.prog) w 29 3 29 3 I _ .i64 .i64 Tryz.underlying29 Tryz.underlying3 hi z1 (some ⟨g, 0, none⟩) A.length cap (fl ei A) old m m0 (by omega) (by omega) (by omega) (by rw [z3]; omega) fit
    have ge := grownCap_ge w (A.length + m) cap 3
    have le := grownCap_le_maxLen w (A.length + m) cap 3 (by simp only [maxLen]; omega)
    have bo : Below w.heap.size w _ := below_on (Below.drew (Below.refl _ _)) (alloc_b w.drew (.cells ((fl ei A).toArray ++ Builtin.zeroCells (Value.int .i64 0).cells m ++ Builtin.zeroCells (Value.int .i64 0).cells (grownCap w (A.length + m) cap 3 - (A.length + m))) 3))
    refine ⟨_, _, _, q, ⟨⟨_, Bx.new w.drew 3 _, ?_, ?_⟩, by rw [la]; exact ge, le, hb⟩, Kp.of bo, .inr ⟨Nat.le_refl _, bo⟩⟩
    · simp [Builtin.zeroCells, Value.cells, lf]
      omega
    · rw [Array.toList_append, Array.toList_append, zeros_i, la, fa, Nat.mul_one]
      exact List.take_left' (by rw [List.length_append, lf, lb])
theorem Li.appz {base : Nat} {w : World} {q : Option Addr} {c m : Nat} {A : List Int} (h : Li base w q c A) (m0 : 0 < m) (hm : m ≤ 100) (hl : A.length ≤ 8796093022208) (hb : base ≤ w.heap.size) :
    ∃ g' c' w', (Builtin.append_ #[29, 3] 29 #[.slice q A.length c, .int .i64 (m : Int)]).run Tryz.prog w = .ok (.slice (some ⟨g', 0, none⟩) (A.length + m) c') w' ∧ GR ei 1 3 base w' g' c' (A ++ List.replicate m 0) ∧ Kp (fun b => q = some ⟨b, 0, none⟩) w w' ∧ ((q = some ⟨g', 0, none⟩ ∧ c' = c) ∨ (w.heap.size ≤ g' ∧ Below w.heap.size w w')) := by
  rcases h with ⟨rfl, rfl, rfl⟩ | ⟨g, rfl, h⟩
  · obtain ⟨I, hi, hz⟩ := Option.map_eq_some_iff.1 infoI
    simp only [Prod.mk.injEq] at hz
    obtain ⟨z1, z2, z3⟩ := hz
    have lb := fl_len ei_len (List.replicate m 0)
    rw [List.length_replicate, Nat.mul_one] at lb
    have q := Lib.run_append_nil_zeros (P := Tryz.prog) w 29 3 29 3 I _ .i64 .i64 Tryz.underlying29 Tryz.underlying3 hi z1 m m0 (by omega) (by omega) (by rw [z3]; omega)
    have ge := grownCap_ge w m 0 3
    have le := grownCap_le_maxLen w m 0 3 (by simp only [maxLen]; omega)
    have bo : Below w.heap.size w _ := below_on (Below.drew (Below.refl _ _)) (alloc_b w.drew (.cells (Builtin.zeroCells (Value.int .i64 0).cells m ++ Builtin.zeroCells (Value.int .i64 0).cells (grownCap w m 0 3 - m)) 3))
    rw [List.length_nil, Nat.zero_add, List.nil_append]
    refine ⟨_, _, _, q, ⟨⟨_, Bx.new w.drew 3 _, ?_, ?_⟩, by rw [List.length_replicate]; exact ge, le, hb⟩, Kp.of bo, .inr ⟨Nat.le_refl _, bo⟩⟩
    · simp [Builtin.zeroCells, Value.cells]
      omega
    · rw [Array.toList_append, zeros_i, List.length_replicate, Nat.mul_one]
      exact List.take_left' lb
  · obtain ⟨g', c', w', r, gr, k, o⟩ := h.appz m0 hm hl hb
    exact ⟨g', c', w', r, gr, ⟨k.os, k.tape, k.output, k.size, fun i hi2 hn => k.block i hi2 (fun e => hn (by rw [e]))⟩, o.elim (fun e => .inl ⟨by rw [e.1], e.2⟩) .inr⟩
variable {w0 : World} {n : Nat} {q : Nat → Option Addr} {ln cp : Nat → Nat} {bl bn be : Nat} {s : Int} {tt bf base R i : Nat} {W W' : World}
/-- append, whatever its form. -/
theorem G2.appg {gq : Option Addr} {gc L t : Nat} {B : List Int} {Rn : Nat → Nat → World → Prop} (h : G2 w0 n q ln cp bl bn be s tt bf base R i gq gc L L W) (f : Fx w0 n q bl bn be bf base) (hi : i < n)
    (app : ∀ A, Li 0 W gq gc A → A.length = ln i + L → ∃ g' c' w', Rn g' c' w' ∧ GR ei 1 3 0 w' g' c' (A ++ B) ∧ Kp (fun b => gq = some ⟨b, 0, none⟩) W w' ∧ ((gq = some ⟨g', 0, none⟩ ∧ c' = gc) ∨ (W.heap.size ≤ g' ∧ Below W.heap.size W w')))
    (hB : ∀ j, L ≤ j → j < t → B[j - L]? = some (s * ((i : Int) + 1) + ((ln i + j : Nat) : Int))) :
    ∃ g' c' w', Rn g' c' w' ∧ G2 w0 n q ln cp bl bn be s tt bf base R i (some ⟨g', 0, none⟩) c' (L + B.length) t w' := by
  obtain ⟨D, X, l, a1, a2, mm, x1, x2⟩ := h.gg
  have dx : (D ++ X).length = ln i + L := by rw [List.length_append, a1, x1]
  obtain ⟨g', c', w', r, gr, k, o⟩ := app _ mm dx
  have rs := h.l2.rs
  have br := h.l2.br
  have ld : Li 0 w' (q i) (cp i) D := by
    rcases h.own with ⟨e1, e2⟩ | ⟨g, e, hg⟩
    · subst e2
      rw [e1] at k o
      rw [List.append_assoc] at gr
      exact l.still gr o
    · exact l.kp k (fun g2 h2 z => by
        have := f.lo i hi g2 h2
        rw [e] at z
        simp only [Option.some.injEq, Addr.mk.injEq, and_true] at z
        omega)
  refine ⟨g', c', w', r, h.l2.kp f k hi (fun b hb => ?_) ⟨D, ld, a1, a2⟩, ⟨D, X ++ B, ld, a1, a2, .inr ⟨g', rfl, by rw [← List.append_assoc]; exact gr⟩, by rw [List.length_append, x1], fun j hj => ?_⟩, ?_⟩
  · rcases h.own with ⟨e1, e2⟩ | ⟨g, e, hg⟩
    · exact .inl (by rw [← e1]; exact hb)
    · rw [e] at hb
      simp only [Option.some.injEq, Addr.mk.injEq, and_true] at hb
      exact .inr (by omega)
  · by_cases hj2 : j < L
    · rw [List.getElem?_append_left (by omega)]
      exact x2 j hj2
    · rw [List.getElem?_append_right (by omega), x1]
      exact hB j (by omega) hj
  · rcases o with ⟨e, ec⟩ | ⟨e, _⟩
    · rcases h.own with ⟨e1, e2⟩ | ⟨g, e1, hg⟩
      · exact .inl ⟨by rw [← e, e1], by rw [ec, e2]⟩
      · refine .inr ⟨g', rfl, ?_⟩
        rw [e1] at e
        simp only [Option.some.injEq, Addr.mk.injEq, and_true] at e
        omega
    · exact .inr ⟨g', rfl, by omega⟩
end Re
end Go.Proofs.YtpmmbaahoegmlaaGreatDoor
