/-
  Texts put together: IMemH, IMemK, IMemA, IMemB, IMemJ.
-/
import Derived.Test.YtggiioipppbedaaGreatDoorRH
import Derived.Test.YtggiioipppbedaaGreatDoorZRef1
import Derived.Test.YtggiioipppbedaaGreatDoorShA
import Derived.Laws.Bits64
import Derived.Test.YtggiioipppbedaaGreatDoorRC
namespace Go.Proofs.YtggiioipppbedaaGreatDoor
open Go Go.RowKit Go.Deep

theorem at_keep {w w' : World} {g g' : Nat} {o : Obj} (h : w.heap[g]? = some o) (K : Keep (fun b => b = g') w w') (ne : g ≠ g') : w'.heap[g]? = some o := by
  have lt : g < w.heap.size := by
    rcases Nat.lt_or_ge g w.heap.size with c | c
    · exact c
    · simp [Array.getElem?_eq_none c] at h
  rw [K.block g lt ne]
  exact h
theorem Own.on {w w' : World} {g : Nat} {zs : List Int} (h : Own w g zs) (hB : Below w.heap.size w w') : Own w' g zs := h.below hB h.lt

/-- The lists of a round. -/
structure RA (w : World) (g6 fa fb wa wb : Nat) (O : Array Value) (XA XB XC XD : List Int) : Prop where
  o : Bx w g6 30 O
  a : Own w fa XA
  b : Own w fb XB
  c : Own w wa XC
  d : Own w wb XD
theorem RA.on {w w' : World} {g6 fa fb wa wb : Nat} {O : Array Value} {XA XB XC XD : List Int} (h : RA w g6 fa fb wa wb O XA XB XC XD) (hB : Below w.heap.size w w') : RA w' g6 fa fb wa wb O XA XB XC XD :=
  ⟨h.o.on hB, h.a.on hB, h.b.on hB, h.c.on hB, h.d.on hB⟩
theorem RA.far {w w' : World} {g6 fa fb wa wb g : Nat} {O : Array Value} {XA XB XC XD : List Int} (h : RA w g6 fa fb wa wb O XA XB XC XD) (K : Keep (fun b => b = g) w w') (n1 : g6 ≠ g) (n2 : fa ≠ g) (n3 : fb ≠ g) (n4 : wa ≠ g) (n5 : wb ≠ g) : RA w' g6 fa fb wa wb O XA XB XC XD :=
  ⟨at_keep h.o K n1, at_keep h.a K n2, at_keep h.b K n3, at_keep h.c K n4, at_keep h.d K n5⟩
theorem RA.put {w : World} {g6 fa fb wa wb : Nat} {O : Array Value} {XA XB XC XD : List Int} (h : RA w g6 fa fb wa wb O XA XB XC XD) (o : Nat) (v : Value) (n2 : fa ≠ g6) (n3 : fb ≠ g6) (n4 : wa ≠ g6) (n5 : wb ≠ g6) : RA (w.setCell ⟨g6, o, none⟩ v) g6 fa fb wa wb (O.setIfInBounds o v) XA XB XC XD :=
  have K := Keep.set w g6 o v
  ⟨h.o.set v, at_keep h.a K n2, at_keep h.b K n3, at_keep h.c K n4, at_keep h.d K n5⟩
/-- A list of an answer, between two blocks. -/
def Lr (lo hi : Nat) (w : World) (p : Option Addr) (zs : List Int) : Prop := Lies w p zs ∧ ∀ a, p = some a → 0 < zs.length → lo < a.block ∧ a.block < hi ∧ ∀ o, w.frozen? ⟨a.block, o, none⟩ = false
theorem Ls.lr {H lo : Nat} {w : World} {p : Option Addr} {zs : List Int} (h : Ls H w p zs) (hlo : lo < H) : Lr lo w.heap.size w p zs := ⟨h.1, fun a ha h0 => ⟨Nat.lt_of_lt_of_le hlo (h.2 a ha h0).1, h.1.lt h0 a ha, (h.2 a ha h0).2⟩⟩
theorem Lr.ls {H lo hi : Nat} {w : World} {p : Option Addr} {zs : List Int} (h : Lr lo hi w p zs) (hlo : H ≤ lo) : Ls H w p zs := ⟨h.1, fun a ha h0 => ⟨by have := (h.2 a ha h0).1; omega, (h.2 a ha h0).2.2⟩⟩
theorem Lr.keep {lo hi : Nat} {S : Nat → Prop} {w w' : World} {p : Option Addr} {zs : List Int} (h : Lr lo hi w p zs) (k : Keep S w w') (hp : ∀ b, lo < b → b < hi → ¬ S b) : Lr lo hi w' p zs := by
  have q : Ls 0 w p zs := ⟨h.1, fun a ha h0 => ⟨Nat.zero_le _, (h.2 a ha h0).2.2⟩⟩
  have r := q.keep k (fun a ha h0 => hp _ (h.2 a ha h0).1 (h.2 a ha h0).2.1)
  exact ⟨r.1, fun a ha h0 => ⟨(h.2 a ha h0).1, (h.2 a ha h0).2.1, (r.2 a ha h0).2⟩⟩
theorem Lr.on {lo hi : Nat} {w w' : World} {p : Option Addr} {zs : List Int} (h : Lr lo hi w p zs) (hB : Below w.heap.size w w') : Lr lo hi w' p zs := h.keep (S := fun _ => False) (Keep.on hB) (fun _ _ _ h => h)
theorem Lr.arg {lo hi ll : Nat} {w : World} {p : Option Addr} {zs : List Int} (h : Lr lo hi w p zs) (h1 : zs.length = ll) (h2 : ll ≤ 17592186044000) (h3 : Nm.Limbs zs) : Arg w p ll ll zs := ⟨h1, Nat.le_refl _, h2, h.1, h3⟩
/-- What stands from the second answer on. -/
structure QS (w : World) (g6 fa fb wa wb g13 g14 g15 : Nat) (O A13 A14 A15 : Array Value) (XA XB XC XD zs : List Int) (pw px py : Option Addr) : Prop where
  ra : RA w g6 fa fb wa wb O XA XB XC XD
  b13 : Bx w g13 34 A13
  b14 : Bx w g14 34 A14
  b15 : Bx w g15 34 A15
  lw : Lr wb g13 w pw zs
  lx : Lr g13 g14 w px zs
  ly : Lr g14 g15 w py zs
section
variable {w w' : World} {g6 fa fb wa wb g13 g14 g15 : Nat} {O A13 A14 A15 : Array Value} {XA XB XC XD XA' zs : List Int} {pw px py : Option Addr}
theorem QS.on (h : QS w g6 fa fb wa wb g13 g14 g15 O A13 A14 A15 XA XB XC XD zs pw px py) (hB : Below w.heap.size w w') : QS w' g6 fa fb wa wb g13 g14 g15 O A13 A14 A15 XA XB XC XD zs pw px py :=
  ⟨h.ra.on hB, h.b13.on hB, h.b14.on hB, h.b15.on hB, h.lw.on hB, h.lx.on hB, h.ly.on hB⟩
def Ord (g6 fa fb wa wb g13 g14 g15 : Nat) : Prop := g6 < fa ∧ fa < fb ∧ fb < wa ∧ wa < wb ∧ wb < g13 ∧ g13 < g14 ∧ g14 < g15
theorem QS.tA (h : QS w g6 fa fb wa wb g13 g14 g15 O A13 A14 A15 XA XB XC XD zs pw px py) (o : Ord g6 fa fb wa wb g13 g14 g15) (K : Keep (fun b => b = fa) w w') (q : Own w' fa XA') : QS w' g6 fa fb wa wb g13 g14 g15 O A13 A14 A15 XA' XB XC XD zs pw px py := by
  unfold Ord at o
  exact ⟨⟨at_keep h.ra.o K (by omega), q, at_keep h.ra.b K (by omega), at_keep h.ra.c K (by omega), at_keep h.ra.d K (by omega)⟩, at_keep h.b13 K (by omega), at_keep h.b14 K (by omega), at_keep h.b15 K (by omega), h.lw.keep K (fun _ _ _ => by omega), h.lx.keep K (fun _ _ _ => by omega), h.ly.keep K (fun _ _ _ => by omega)⟩
theorem QS.tB (h : QS w g6 fa fb wa wb g13 g14 g15 O A13 A14 A15 XA XB XC XD zs pw px py) (o : Ord g6 fa fb wa wb g13 g14 g15) (K : Keep (fun b => b = fb) w w') (q : Own w' fb XA') : QS w' g6 fa fb wa wb g13 g14 g15 O A13 A14 A15 XA XA' XC XD zs pw px py := by
  unfold Ord at o
  exact ⟨⟨at_keep h.ra.o K (by omega), at_keep h.ra.a K (by omega), q, at_keep h.ra.c K (by omega), at_keep h.ra.d K (by omega)⟩, at_keep h.b13 K (by omega), at_keep h.b14 K (by omega), at_keep h.b15 K (by omega), h.lw.keep K (fun _ _ _ => by omega), h.lx.keep K (fun _ _ _ => by omega), h.ly.keep K (fun _ _ _ => by omega)⟩
theorem QS.tC (h : QS w g6 fa fb wa wb g13 g14 g15 O A13 A14 A15 XA XB XC XD zs pw px py) (o : Ord g6 fa fb wa wb g13 g14 g15) (K : Keep (fun b => b = wa) w w') (q : Own w' wa XA') : QS w' g6 fa fb wa wb g13 g14 g15 O A13 A14 A15 XA XB XA' XD zs pw px py := by
  unfold Ord at o
  exact ⟨⟨at_keep h.ra.o K (by omega), at_keep h.ra.a K (by omega), at_keep h.ra.b K (by omega), q, at_keep h.ra.d K (by omega)⟩, at_keep h.b13 K (by omega), at_keep h.b14 K (by omega), at_keep h.b15 K (by omega), h.lw.keep K (fun _ _ _ => by omega), h.lx.keep K (fun _ _ _ => by omega), h.ly.keep K (fun _ _ _ => by omega)⟩
theorem QS.tD (h : QS w g6 fa fb wa wb g13 g14 g15 O A13 A14 A15 XA XB XC XD zs pw px py) (o : Ord g6 fa fb wa wb g13 g14 g15) (K : Keep (fun b => b = wb) w w') (q : Own w' wb XA') : QS w' g6 fa fb wa wb g13 g14 g15 O A13 A14 A15 XA XB XC XA' zs pw px py := by
  unfold Ord at o
  exact ⟨⟨at_keep h.ra.o K (by omega), at_keep h.ra.a K (by omega), at_keep h.ra.b K (by omega), at_keep h.ra.c K (by omega), q⟩, at_keep h.b13 K (by omega), at_keep h.b14 K (by omega), at_keep h.b15 K (by omega), h.lw.keep K (fun _ _ _ => by omega), h.lx.keep K (fun _ _ _ => by omega), h.ly.keep K (fun _ _ _ => by omega)⟩
/-- What lies outside the given box stays. -/
theorem QS.far {g : Nat} (h : QS w g6 fa fb wa wb g13 g14 g15 O A13 A14 A15 XA XB XC XD zs pw px py) (o : Ord g6 fa fb wa wb g13 g14 g15) (K : Keep (fun b => b = g) w w') (q : g15 < g) : QS w' g6 fa fb wa wb g13 g14 g15 O A13 A14 A15 XA XB XC XD zs pw px py := by
  unfold Ord at o
  exact ⟨h.ra.far K (by omega) (by omega) (by omega) (by omega) (by omega), at_keep h.b13 K (by omega), at_keep h.b14 K (by omega), at_keep h.b15 K (by omega), h.lw.keep K (fun _ _ _ => by omega), h.lx.keep K (fun _ _ _ => by omega), h.ly.keep K (fun _ _ _ => by omega)⟩
theorem QS.t13 {A : Array Value} (h : QS w g6 fa fb wa wb g13 g14 g15 O A13 A14 A15 XA XB XC XD zs pw px py) (o : Ord g6 fa fb wa wb g13 g14 g15) (K : Keep (fun b => b = g13) w w') (q : Bx w' g13 34 A) : QS w' g6 fa fb wa wb g13 g14 g15 O A A14 A15 XA XB XC XD zs pw px py := by
  unfold Ord at o
  exact ⟨h.ra.far K (by omega) (by omega) (by omega) (by omega) (by omega), q, at_keep h.b14 K (by omega), at_keep h.b15 K (by omega), h.lw.keep K (fun _ _ _ => by omega), h.lx.keep K (fun _ _ _ => by omega), h.ly.keep K (fun _ _ _ => by omega)⟩
end
theorem own_head {w : World} {g n c : Nat} {X zs : List Int} (h : Own w g X) (hz : X.take n = zs) (hn : n ≤ c) (hx : X.length = c) (hc : c ≤ 17592186044000) (hl : Nm.Limbs X) : Arg w (some ⟨g, 0, none⟩) n c zs := by
  subst hz
  exact ⟨by rw [List.length_take]; omega, hn, hc, h.lies.take n, hl.take n⟩
theorem at_keepS {S : Nat → Prop} {w w' : World} {g : Nat} {o : Obj} (h : w.heap[g]? = some o) (K : Keep S w w') (ne : ¬ S g) : w'.heap[g]? = some o := by
  have lt : g < w.heap.size := by
    rcases Nat.lt_or_ge g w.heap.size with c | c
    · exact c
    · simp [Array.getElem?_eq_none c] at h
  rw [K.block g lt ne]
  exact h
theorem keep_bel {wr w w' : World} {g : Nat} (hB : Below wr.heap.size wr w) (K : Keep (fun b => b = g) w w') (h : wr.heap.size ≤ g) : Below wr.heap.size wr w' := hB.trans (K.below (fun b e => by rw [e]; exact h) hB.size)
theorem blk_lr {lo hi n b : Nat} {w : World} {p : Option Addr} {zs : List Int} (h : Lr lo hi w p zs) (hn : zs.length = n) (hb : (Ke.mk p n).blk = some b) : lo < b ∧ b < hi := by
  obtain ⟨n0, a, ha, rfl⟩ := Ke.of_blk hb
  simp only at n0 ha
  have := h.2 a ha (by omega)
  exact ⟨this.1, this.2.1⟩
theorem blk_ls {H n b : Nat} {w : World} {p : Option Addr} {zs : List Int} (h : Ls H w p zs) (hn : zs.length = n) (hb : (Ke.mk p n).blk = some b) : H ≤ b ∧ b < w.heap.size := by
  obtain ⟨n0, a, ha, rfl⟩ := Ke.of_blk hb
  simp only at n0 ha
  exact ⟨(h.2 a ha (by omega)).1, h.1.lt (by omega) a ha⟩
theorem blk_own {g n b : Nat} (hb : (Ke.mk (some ⟨g, 0, none⟩) n).blk = some b) : b = g := by
  obtain ⟨n0, a, ha, rfl⟩ := Ke.of_blk hb
  simp only [Option.some.injEq] at ha
  subst ha
  rfl
/-- What a round puts behind. -/
def three3 (px py pz : Option Addr) (l1 l2 : Nat) : List Ke := [⟨px, l1⟩, ⟨py, l1⟩, ⟨pz, l2⟩]
/-- Three lists apart. -/
theorem apart3 {x y z : Ke} {g13 g14 g15 h : Nat} (hx : ∀ q, x.blk = some q → g13 < q ∧ q < g14) (hy : ∀ q, y.blk = some q → g14 < q ∧ q < g15) (hz : ∀ q, z.blk = some q → h ≤ q) (o4 : g15 ≤ h) (o6 : g14 < g15) : Apart [x, y, z] := by
  unfold Apart
  simp only [List.pairwise_cons, List.mem_cons, List.not_mem_nil, or_false, forall_eq_or_imp, forall_eq, List.Pairwise.nil, and_true, false_implies, implies_true]
  refine ⟨⟨?_, ?_⟩, ?_⟩
  · intro q e f; have := hx q e; have := hy q f; omega
  · intro q e f; have := hx q e; have := hz q f; omega
  · intro q e f; have := hy q e; have := hz q f; omega
end Go.Proofs.YtggiioipppbedaaGreatDoor

namespace Go.Proofs.YtggiioipppbedaaGreatDoor
open Go Go.RowKit Go.Deep

def CK (i k : Nat) : Nat → List Int → Prop := fun j zs => (j < i → zs = List.replicate zs.length (mk1 j)) ∧ (j = i → zs.take k = List.replicate k (mk1 j))
theorem ck_zero (j : Nat) (zs : List Int) : CK 0 0 j zs := ⟨fun h => absurd h (by omega), fun _ => by simp⟩
theorem ck_other {i k t : Nat} {zs : List Int} (h : t ≠ i) (c : CK i k t zs) : CK i (k + 1) t zs := ⟨c.1, fun e => absurd e h⟩
theorem ck_put {i k : Nat} {zs : List Int} (h : k < zs.length) (c : CK i k i zs) : CK i (k + 1) i (zs.set k (mk1 i)) :=
  ⟨fun e => absurd e (by omega), fun _ => by
    rw [List.take_add_one, List.take_set, List.set_eq_of_length_le (by rw [List.length_take]; omega), c.2 rfl, List.getElem?_set_self h]
    show _ ++ [mk1 i] = _
    rw [List.replicate_succ']⟩
theorem ck_next {i j n : Nat} {zs : List Int} (hn : j = i → zs.length = n) (c : CK i n j zs) : CK (i + 1) 0 j zs :=
  ⟨fun h => by
    rcases Nat.lt_or_ge j i with q | q
    · exact c.1 q
    · have e : j = i := by omega
      have := c.2 e
      rw [List.take_of_length_le (by rw [hn e]; exact Nat.le_refl _)] at this
      rw [this, List.length_replicate], fun _ => by simp⟩
theorem row_len {B n : Nat} {w : World} {mv : Value} {D : List Sl} (h : Re.Ow v1 28 1 B w mv D) (hn : D.length = n) : ∃ q c, mv = .slice q n c := by
  rcases h.2 with ⟨rfl, h0⟩ | ⟨g, c, cur, rfl, _⟩
  · exact ⟨none, 0, by rw [← hn, h0]⟩
  · exact ⟨_, c, by rw [hn]⟩
theorem row_cell {B n c : Nat} {w : World} {q : Option Addr} {D : List Sl} (h : Re.Ow v1 28 1 B w (.slice q n c) D) {i : Nat} {x : Sl} (hx : D[i]? = some x) : ∃ g, q = some ⟨g, 0, none⟩ ∧ w.cell? ⟨g, i, none⟩ = some (.slice x.p x.n x.c) := by
  have il := (List.getElem?_eq_some_iff.1 hx).1
  rcases h.shape with ⟨c, e, hD⟩ | ⟨g, c', e, _⟩
  · rw [hD] at il; simp at il
  · simp only [Value.slice.injEq] at e
    obtain ⟨rfl, -, -⟩ := e
    have := Re.Ow.cell v1_len h hx 0 (by omega) _ rfl
    rw [Nat.mul_one, Nat.add_zero] at this
    exact ⟨g, rfl, this⟩
theorem int_len {B n : Nat} {w : World} {mv : Value} {D : List Int} (h : Re.Ow i1 3 1 B w mv D) (hn : D.length = n) : ∃ q c, mv = .slice q n c := by
  rcases h.2 with ⟨rfl, h0⟩ | ⟨g, c, cur, rfl, _⟩
  · exact ⟨none, 0, by rw [← hn, h0]⟩
  · exact ⟨_, c, by rw [hn]⟩
theorem int_cell {B n c : Nat} {w : World} {q : Option Addr} {D : List Int} (h : Re.Ow i1 3 1 B w (.slice q n c) D) {i : Nat} {x : Int} (hx : D[i]? = some x) : ∃ g, q = some ⟨g, 0, none⟩ ∧ w.cell? ⟨g, i, none⟩ = some (.int .i64 x) := by
  have il := (List.getElem?_eq_some_iff.1 hx).1
  rcases h.shape with ⟨c, e, hD⟩ | ⟨g, c', e, _⟩
  · rw [hD] at il; simp at il
  · simp only [Value.slice.injEq] at e
    obtain ⟨rfl, -, -⟩ := e
    have := Re.Ow.cell i1_len h hx 0 (by omega) _ rfl
    rw [Nat.mul_one, Nat.add_zero] at this
    exact ⟨g, rfl, this⟩
theorem K2.mono {C C' : Nat → List Int → Prop} {B : Nat} {w : World} {mv sv : Value} {L : List Ke} {i : Nat} (h : K2 C B w mv sv L i) (q : ∀ i e, L[i]? = some e → ∀ zs, zs.length = e.n → C i zs → C' i zs) : K2 C' B w mv sv L i := ⟨h.ki.mono q, h.sz, h.aw, h.ne⟩
theorem K2.on {C : Nat → List Int → Prop} {B : Nat} {w w' : World} {mv sv : Value} {L : List Ke} {i : Nat} (h : K2 C B w mv sv L i) (hB : Below w.heap.size w w') : K2 C B w' mv sv L i := ⟨h.ki.on hB, h.sz.below hB, h.aw, h.ne⟩
theorem K3.start {B : Nat} {w : World} {mv sv : Value} {L : List Ke} (h : K2 (CK L.length 0) B w mv sv L L.length) : K3 B w mv sv L (L.map Ke.v) 0 := by
  have row := h.ki.row
  have sz := h.sz
  rw [List.take_length] at row sz
  refine ⟨row, List.length_map .., fun j e _ he => ?_, fun j e hj => absurd hj (by omega), sz, h.ne⟩
  obtain ⟨zs, z1, z2, z3⟩ := h.ki.each j e he
  have q := z2.1 (List.getElem?_eq_some_iff.1 he).1
  rw [z1] at q
  exact ⟨by rw [List.getElem?_map, he]; rfl, q ▸ z3.1, fun b hb => h.ki.away e (List.mem_of_getElem? he) b hb⟩
theorem ow_low {B B' : Nat} {w : World} {mv : Value} {D : List Int} (h : Re.Ow u1 25 1 B w mv D) (hb : B' ≤ B) : Re.Ow u1 25 1 B' w mv D := by
  refine ⟨h.1, ?_⟩
  rcases h.2 with q | ⟨g, c, cur, e1, e2, e3⟩
  · exact .inl q
  · exact .inr ⟨g, c, cur, e1, Nat.le_trans hb e2, e3⟩
theorem push_u {H : Nat} {w : World} {mv : Value} {D : List Int} (ho : Re.Ow u1 25 1 H w mv D) (x : Int) (hn : D.length ≤ 17592186044100) (hb : H ≤ w.heap.size) :
    ∃ mv' w', (Builtin.append_ #[28, 28] 28 #[mv, .slice (some ⟨w.heap.size, 0, none⟩) 1 1]).run Tryz.prog (w.alloc (.cells #[.int .u64 x] 25)) = .ok mv' w' ∧ Re.Ow u1 25 1 H w' mv' (D ++ [x]) ∧ Below H w w' := by
  obtain ⟨i, hi, hz⟩ := Option.map_eq_some_iff.1 info_u64
  simp only [Prod.mk.injEq] at hz
  obtain ⟨z1, z2, z3⟩ := hz
  have bm : Below w.heap.size w (w.alloc (.cells #[.int .u64 x] 25)) := alloc_b2 _ _
  have hs : (w.alloc (.cells #[.int .u64 x] 25)).heap.size = w.heap.size + 1 := World.size_alloc _ _
  have ho' := World.ownsRow.alloc ho (.cells #[.int .u64 x] 25)
  have hnew : ∀ j v, [Value.int .u64 x][j]? = some v → (w.alloc (.cells #[.int .u64 x] 25)).cell? ((⟨w.heap.size, 0, none⟩ : Addr).add j) = some v := by
    intro j u hu
    rw [Go.WideShapes.add_plain, Nat.zero_add]
    have h0 : (w.alloc (.cells #[.int .u64 x] 25)).heap[w.heap.size]? = some (.cells #[.int .u64 x] 25 (0, 0)) := heap_alloc_new w _
    simp only [World.cell?, h0]
    simpa using hu
  obtain ⟨v', w', hr, h1, h2, _⟩ := run_append_own (P := Tryz.prog) (w.alloc (.cells #[.int .u64 x] 25)) H 28 28 25 i _ 1 8 Tryz.underlying28 hi z1 z2 z3 rfl (by omega) mv D.length (Re.fl u1 D) ho'
    ⟨w.heap.size, 0, none⟩ 1 1 [.int .u64 x] rfl hnew (fun u hu => u1_one x u hu) (by simp only [maxLen]; omega) (by omega) (by rw [hs]; omega)
  refine ⟨v', w', hr, ?_, ?_⟩
  · have e : Re.fl u1 (D ++ [x]) = Re.fl u1 D ++ [.int .u64 x] := by simp [Re.fl, u1]
    unfold Re.Ow
    rw [e, List.length_append, List.length_singleton]
    exact h1
  · have hb2 : Below H (w.alloc (.cells #[.int .u64 x] 25)) w' := by
      refine ⟨h2.os, h2.tape, h2.output, h2.size, fun j hj => h2.block j (by rw [hs]; omega) ?_⟩
      intro hk
      have := (ho'.lt j hk.symm).1
      omega
    exact (bm.mono hb).trans hb2
/-- One more limb, to a list that has no room or to our own. -/
theorem app_l {H n t : Nat} {p : Option Addr} {x : Int} {lv : Value} {wx : World} (hn : n ≤ 17592186044000) (ht : t < 20) (hL : Lies wx p (List.replicate n x)) (hB : H ≤ wx.heap.size) (h : (t = 0 ∧ lv = .slice p n n) ∨ (0 < t ∧ Re.Ow u1 25 1 H wx lv (List.replicate (n + t) x))) :
    ∃ lv' w', (Builtin.append_ #[28, 28] 28 #[lv, .slice (some ⟨wx.heap.size, 0, none⟩) 1 1]).run Tryz.prog (wx.alloc (.cells #[.int .u64 x] 25)) = .ok lv' w' ∧ Re.Ow u1 25 1 H w' lv' (List.replicate (n + (t + 1)) x) ∧ Below H wx w' := by
  rcases h with ⟨rfl, rfl⟩ | ⟨t0, ho⟩
  · obtain ⟨cap, w', e1, e2, e3⟩ := first_app p n (List.replicate n x) x wx (by simp) hn hL
    refine ⟨_, w', e1, ?_, e3.mono hB⟩
    have := ow_low e2 hB
    rwa [← List.replicate_succ'] at this
  · obtain ⟨mv', w', e1, e2, e3⟩ := push_u ho x (by rw [List.length_replicate]; omega) hB
    refine ⟨mv', w', e1, ?_, e3⟩
    rwa [← List.replicate_succ'] at e2
theorem ow_u1 {H n : Nat} {w : World} {lv : Value} {x : Int} (h : Re.Ow u1 25 1 H w lv (List.replicate n x)) (h0 : 0 < n) : ∃ g c, lv = .slice (some ⟨g, 0, none⟩) n c ∧ H ≤ g ∧ Lies w (some ⟨g, 0, none⟩) (List.replicate n x) := by
  rcases h.shape with ⟨c, e, hD⟩ | ⟨g, c, e, hg, hs, _⟩
  · have := congrArg List.length hD
    simp at this
    omega
  · rw [List.length_replicate] at e
    refine ⟨g, c, e, hg, .inr ⟨g, 0, rfl, fun i hi => ?_⟩⟩
    subst e
    rw [List.length_replicate] at hi
    have hx : (List.replicate n x)[i]? = some x := by simp [hi]
    have := Re.Ow.cell u1_len h hx 0 (by omega) _ rfl
    rw [Nat.mul_one, Nat.add_zero] at this
    rw [Nat.zero_add, this]
    simp [List.getD, hi]
end Go.Proofs.YtggiioipppbedaaGreatDoor

namespace Go.Proofs.YtggiioipppbedaaGreatDoor
open Go Go.RowKit Go.Deep

/-- The first k marks from f on. -/
def marks (f : Int) : Nat → List Int
  | 0 => []
  | k + 1 => marks f k ++ [7881706626762145792 + f + k]

theorem marks_length (f : Int) : ∀ k, (marks f k).length = k
  | 0 => rfl
  | k + 1 => by simp [marks, marks_length f k]

theorem marks_limbs (f : Int) (h0 : 0 ≤ f) (h1 : f ≤ 100) : ∀ k, k ≤ 40 → Nm.Limbs (marks f k)
  | 0, _ => Nm.Limbs.nil
  | k + 1, hk => (marks_limbs f h0 h1 k (by omega)).append (Nm.Limbs.mk (by omega) (by omega) Nm.Limbs.nil)

set_option maxRecDepth 100000 in
set_option maxHeartbeats 4000000 in
theorem behind_any (p : Option Addr) (n cap : Nat) (zs : List Int) (f : Int) (w : World) (ha : Arg w p n cap zs) (f0 : 0 ≤ f) (f1 : f ≤ 100) :
    Calls Tryz.prog 5 #[.slice p n cap, .int .u64 f] w fun e w' => e = .returned (.slice (some ⟨w.heap.size, 0, none⟩) (n + 40) (n + 40)) ∧ Own w' w.heap.size (zs ++ marks f 40) ∧ Below w.heap.size w w' := by
  obtain ⟨a1, a2, a3, a4, a5⟩ := ha
  have hmk := make64_room (n + 40) (by omega) w
  rw [show ((n + 40 : Nat) : Int) = (n : Int) + 40 by omega] at hmk
  have bm := (Below.refl w.heap.size w).alloc (Nat.le_refl _) (.cells (madeCells #[.int .u64 0] (n + 40)) 25)
  have gm : Own (w.alloc (.cells (madeCells #[.int .u64 0] (n + 40)) 25)) w.heap.size (List.replicate (n + 40) 0) := by rw [made_zero]; exact Own.alloc w _
  generalize w.alloc (.cells (madeCells #[.int .u64 0] (n + 40)) 25) = wm at hmk bm gm
  obtain ⟨w1, ap, ow, be, sz⟩ := append64 w.heap.size (n + 40) 0 (List.replicate (n + 40) 0) p n cap zs 28 wm (by simp) a1 (by omega) gm (a4.below bm (Nat.le_refl _))
  have GR : Hid (Grown w1 w.heap.size (zs ++ marks f 0) 40) := by
    have := ow
    simp only [List.take_zero, List.nil_append, Nat.zero_add, List.drop_replicate, Nat.add_sub_cancel_left] at this
    simp only [marks, List.append_nil]
    exact this
  have BE := hid (bm.trans be)
  rw [Nat.zero_add] at ap
  have AP := hid ap
  have LZ := hid a1
  clear ap ow be sz bm gm a1 a4 a5
  obtain ⟨g, hg⟩ : ∃ g, w.heap.size = g := ⟨_, rfl⟩
  rw [hg] at AP GR BE hmk ⊢
  go_enter Tryz.func5, Tryz.ntmps5
  go_wp2_with (at_builtin; refine wpList_append_row rfl _ _ rfl AP.out (by rfl) (by rfl) ?_; clear AP)
  go_loopw [5, 6] (fun l i wr => ∃ k : Nat, k ≤ 40 ∧ i = .int .u64 (k : Int) ∧ l = .slice (some ⟨g, 0, none⟩) (n + k) (n + 40) ∧ Hid (Grown wr g (zs ++ marks f k) (40 - k)) ∧ Hid (Below g w wr)) (fun _ i _ => 40 - (intOf i).toNat)
  case atStart => exact ⟨0, by omega, rfl, rfl, GR.out, BE.out⟩
  case round =>
    clear GR BE hmk
    obtain ⟨k, hk, rfl, rfl, G, BB⟩ := hrel
    by_cases he : k = 40
    · subst he
      have O : Hid (Own wr g (zs ++ marks f 40)) := by
        have := G.out
        rw [Grown, Nat.sub_self, List.replicate_zero, List.append_nil] at this
        exact this
      clear G
      go_wp2
      go_ret
      exact ⟨rfl, O.out, BB.out⟩
    · have hk40 : (k : Int) < 40 := by omega
      obtain ⟨x, hx⟩ : ∃ x, 7881706626762145792 + f + (k : Int) = x := ⟨_, rfl⟩
      have G2 := G.out
      rw [show 40 - k = (40 - (k + 1)) + 1 by omega] at G2
      obtain ⟨w2, ap, gr, be, sz⟩ := push64 g (n + k) (40 - (k + 1)) (n + 40) (zs ++ marks f k) x wr (by rw [List.length_append, marks_length, LZ.out]) (by omega) G2
      have GR : Hid (Grown w2 g (zs ++ marks f (k + 1)) (40 - (k + 1))) := by
        rw [marks, ← List.append_assoc, hx]
        exact gr
      have BE := hid (BB.out.trans be)
      have AP := hid ap
      have w1x : IntKind.u64.wrap (7881706626762145792 + f) = 7881706626762145792 + f := by rw [Sh.wrap_mod]; omega
      have w2x : IntKind.u64.wrap (7881706626762145792 + f + (k : Int)) = x := by rw [Sh.wrap_mod]; omega
      clear ap gr be sz G G2 BB hx
      go_wp2_with (at_builtin; refine wpList_append_row rfl _ _ rfl AP.out (by rfl) (by rfl) ?_; clear AP)
      go_roundw
      case rel => exact ⟨k + 1, by omega, by go_num, rfl, GR.out, BE.out⟩
      case measure => simp [intOf]; omega
end Go.Proofs.YtggiioipppbedaaGreatDoor

namespace Go.Proofs.YtggiioipppbedaaGreatDoor
open Go Go.RowKit Go.Deep

/-- A limb turned. -/
def xr (v : Nat) (x : Int) : Int := bits .xor .u64 x (v : Int)

theorem xr_bd (v : Nat) (hv : v < 18446744073709551616) (x : Int) (h0 : 0 ≤ x) (h1 : x < 18446744073709551616) : 0 ≤ xr v x ∧ xr v x < 18446744073709551616 := by
  obtain ⟨a, rfl⟩ : ∃ a : Nat, x = (a : Int) := ⟨x.toNat, by omega⟩
  have h := bits_xor_u64_nat a v (by omega) (by omega)
  have e : xr v (a : Int) = ((a ^^^ v : Nat) : Int) := h
  have hlt : a ^^^ v < 2 ^ 64 := Nat.xor_lt_two_pow (by omega) (by omega)
  rw [e]
  omega

/-- The first n limbs turned. -/
def tw (v : Nat) (xs : List Int) : Nat → List Int
  | 0 => xs
  | n + 1 => (tw v xs n).set n (xr v (xs.getD n 0))

theorem tw_length (v : Nat) (xs : List Int) : ∀ n, (tw v xs n).length = xs.length
  | 0 => rfl
  | n + 1 => by rw [tw, List.length_set, tw_length v xs n]

theorem tw_later (v : Nat) (xs : List Int) : ∀ n k, n ≤ k → (tw v xs n).getD k 0 = xs.getD k 0
  | 0, _, _ => rfl
  | n + 1, k, h => by
    have ih := tw_later v xs n k (by omega)
    rw [tw, List.getD, List.getElem?_set, if_neg (by omega)]
    exact ih

theorem tw_limbs (v : Nat) (hv : v < 18446744073709551616) (xs : List Int) (h : Nm.Limbs xs) : ∀ n, Nm.Limbs (tw v xs n)
  | 0 => h
  | n + 1 => by
    have b := xr_bd v hv (xs.getD n 0) (h.at n).1 (h.at n).2
    exact (tw_limbs v hv xs h n).set n b.1 b.2

end Go.Proofs.YtggiioipppbedaaGreatDoor

namespace Go.Proofs.YtggiioipppbedaaGreatDoor
open Go Go.RowKit Go.Deep

def An (zs : List Int) (ll : Nat) (u i j : Int) (b ng : Bool) (c m x e : Int) (W : World) (r : Ending) (w' : World) : Prop :=
  ∃ pl, r = .returned (.agg #[.int .u64 u, .int .i64 i, .int .i64 j, .bool b, .bool ng, .int .i64 c, .int .u64 m, .int .i64 x, .slice pl ll ll, .int .i64 e]) ∧ Hid (Ls W.heap.size w' pl zs) ∧ Below W.heap.size W w'
/-- Both sides of a call tell one answer. -/
def B3 (kd X Y I : Int) (pn : Bool) (pc pm px : Int) (neg : Bool) (n k : Nat) (ex : Int) (more : Bool) (zA zB : List Int) : Prop :=
  ∃ zs ll u i j b ng c m x e, zs.length = ll ∧ ll ≤ 17592186044000 ∧ Nm.Limbs zs ∧
    (∀ W p q cap cap', Tab W → Arg W p n cap zA → Arg W q k cap' zB → Calls Tryz.prog 7 #[.agg #[.int .i64 kd, .int .u64 X, .int .u64 Y, .int .i64 I, .bool pn, .int .i64 pc, .int .u64 pm, .int .i64 px, .bool neg, .slice p n cap, .slice q k cap', .int .i64 ex, .bool more]] W fun r w' => An zs ll u i j b ng c m x e W r w') ∧
    (∀ W p q cap cap', Tab W → Arg W p n cap zA → Arg W q k cap' zB → Calls Tryz.prog 8 #[.agg #[.int .i64 kd, .int .u64 X, .int .u64 Y, .int .i64 I, .bool pn, .int .i64 pc, .int .u64 pm, .int .i64 px, .bool neg, .slice p n cap, .slice q k cap', .int .i64 ex, .bool more]] W fun r w' => An zs ll u i j b ng c m x e W r w')
theorem b3_any (kd X Y I : Int) (pn : Bool) (pc pm px : Int) (neg : Bool) (n k : Nat) (ex : Int) (more : Bool) (zA zB : List Int)
    (x0 : 0 ≤ X) (x1 : X < 18446744073709551616) (y0 : 0 ≤ Y) (y1 : Y < 18446744073709551616) (i0 : -9223372036854775808 ≤ I) (i1 : I ≤ 9223372036854775807) (m0 : 0 ≤ pm) (m1 : pm < 18446744073709551616) (lA : Nm.Limbs zA) (lB : Nm.Limbs zB) : B3 kd X Y I pn pc pm px neg n k ex more zA zB := by
  obtain ⟨Q, one, hW, hA⟩ := both_any kd X Y I pn pc pm px neg n k ex more zA zB x0 x1 y0 y1 i0 i1 m0 m1 lA lB
  simp only [opOf] at hW hA
  by_cases h : ∃ a, Q a ∧ Nm.Limbs a.zs ∧ a.zs.length ≤ 17592186044000
  · obtain ⟨a, q, q1, q2⟩ := h
    have tell : ∀ W r w', AnsTold Q W r w' → An a.zs a.zs.length a.u a.i a.j a.b a.neg a.c a.m a.x a.e W r w' := fun W r w' t => by
      obtain ⟨a', pl, hr, hq, _, hl, hB⟩ := t
      obtain rfl := one a' a hq q
      exact ⟨pl, hr, hl, hB⟩
    exact ⟨a.zs, a.zs.length, a.u, a.i, a.j, a.b, a.neg, a.c, a.m, a.x, a.e, rfl, q2, q1, fun W p q cap cap' t x y => (hW W p q cap cap' t x y).mono (fun r w' h => tell _ _ _ h), fun W p q cap cap' t x y => (hA W p q cap cap' t x y).mono (fun r w' h => tell _ _ _ h)⟩
  · have no : ∀ W r w', AnsTold Q W r w' → An [] 0 0 0 0 false false 0 0 0 0 W r w' := fun W r w' t => by
      obtain ⟨a', pl, hr, hq, hl, _, _⟩ := t
      exact absurd ⟨a', hq, hl.1, hl.2⟩ h
    exact ⟨[], 0, 0, 0, 0, false, false, 0, 0, 0, 0, rfl, by omega, Nm.Limbs.nil, fun W p q cap cap' t x y => (hW W p q cap cap' t x y).mono (fun r w' h => no _ _ _ h), fun W p q cap cap' t x y => (hA W p q cap cap' t x y).mono (fun r w' h => no _ _ _ h)⟩
/-- What a round goes by. -/
def Rd (w : World) (a : Option Addr) (i : Nat) : Prop :=
  ∃ (b off n1 c1 n2 c2 : Nat) (K X Y I : Int) (pn : Bool) (pc pm px : Int) (neg : Bool) (p1 p2 : Option Addr) (z1 z2 : List Int) (ex : Int) (more : Bool), a = some ⟨b, off, none⟩ ∧
    (∀ W, Below w.heap.size w W → (W.cell? ⟨b, off + i * 13, none⟩ = some (.int .i64 K) ∧ W.cell? ⟨b, off + i * 13 + 1, none⟩ = some (.int .u64 X) ∧ W.cell? ⟨b, off + i * 13 + 2, none⟩ = some (.int .u64 Y) ∧ W.cell? ⟨b, off + i * 13 + 3, none⟩ = some (.int .i64 I) ∧ W.cell? ⟨b, off + i * 13 + 4, none⟩ = some (.bool pn) ∧ W.cell? ⟨b, off + i * 13 + 5, none⟩ = some (.int .i64 pc) ∧ W.cell? ⟨b, off + i * 13 + 6, none⟩ = some (.int .u64 pm) ∧ W.cell? ⟨b, off + i * 13 + 7, none⟩ = some (.int .i64 px) ∧ W.cell? ⟨b, off + i * 13 + 8, none⟩ = some (.bool neg) ∧ W.cell? ⟨b, off + i * 13 + 9, none⟩ = some (.slice p1 n1 c1) ∧ W.cell? ⟨b, off + i * 13 + 10, none⟩ = some (.slice p2 n2 c2) ∧ W.cell? ⟨b, off + i * 13 + 11, none⟩ = some (.int .i64 ex) ∧ W.cell? ⟨b, off + i * 13 + 12, none⟩ = some (.bool more)) ∧ Arg W p1 n1 c1 z1 ∧ Arg W p2 n2 c2 z2 ∧ Tab W) ∧
    n1 ≤ 17592186043904 ∧ n2 ≤ 17592186043904 ∧ z1.length = n1 ∧ z2.length = n2 ∧ Nm.Limbs z1 ∧ Nm.Limbs z2 ∧
    (∀ zA zB : List Int, Nm.Limbs zA → Nm.Limbs zB → B3 K X Y I pn pc pm px neg n1 n2 ex more zA zB)
theorem rd_any {w : World} {a : Option Addr} {len : Nat} {its : List E4} (hl : its.length = len) (hh : E4.Holds w a its) (hb : ∀ it ∈ its, E4.Bd w it) (hT : Tab w) (i : Nat) (hi : i < len) : Rd w a i := by
  have he : its[i]? = some its[i] := List.getElem?_eq_getElem (by omega)
  have hm : its[i] ∈ its := List.getElem_mem (by omega)
  obtain ⟨b1, b2, b3, b4, b5, b6, b7, b8⟩ := hb _ hm
  rcases hh with c | ⟨b, off, e, h⟩
  · rw [c] at hl; simp at hl; omega
  · obtain ⟨q0, q1, q2, q3, q4, q5, q6, q7, q8, q9, q10, q11, q12⟩ := h i _ he
    refine ⟨b, off, its[i].n1, its[i].c1, its[i].n2, its[i].c2, its[i].K, its[i].X, its[i].Y, its[i].I, its[i].pn, its[i].pc, its[i].pm, its[i].px, its[i].neg, its[i].p1, its[i].p2, its[i].z1, its[i].z2, its[i].ex, its[i].more, e, fun W hB => ⟨⟨by rw [hB.cell (cell_lt q0)]; exact q0, by rw [hB.cell (cell_lt q1)]; exact q1, by rw [hB.cell (cell_lt q2)]; exact q2, by rw [hB.cell (cell_lt q3)]; exact q3, by rw [hB.cell (cell_lt q4)]; exact q4, by rw [hB.cell (cell_lt q5)]; exact q5, by rw [hB.cell (cell_lt q6)]; exact q6, by rw [hB.cell (cell_lt q7)]; exact q7, by rw [hB.cell (cell_lt q8)]; exact q8, by rw [hB.cell (cell_lt q9)]; exact q9, by rw [hB.cell (cell_lt q10)]; exact q10, by rw [hB.cell (cell_lt q11)]; exact q11, by rw [hB.cell (cell_lt q12)]; exact q12⟩, b5.below hB (Nat.le_refl _), b6.below hB (Nat.le_refl _), hT.below hB⟩, by have := b5.2.1; omega, by have := b6.2.1; omega, b5.1, b6.1, b5.2.2.2.2, b6.2.2.2.2, fun zA zB l1 l2 => b3_any _ _ _ _ _ _ _ _ _ _ _ _ _ _ _ b1.1 b1.2 b2.1 b2.2 b3.1 b3.2 b4.1 b4.2 l1 l2⟩
end Go.Proofs.YtggiioipppbedaaGreatDoor
