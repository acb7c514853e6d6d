/-
  Texts put together: NLaw1, FTab.
-/
import Derived.Test.YtffkopijfelacaaDoorRI
import Derived.Test.YtffkopijfelacaaDoorRJ
import Derived.Test.YtffkopijfelacaaDoorAwake
import Derived.BigQuiet
import Derived.Deep.RegionHeld3
import Derived.Deep.CutRange
import Derived.Deep.CutBlock
import Derived.Test.YtffkopijfelacaaDoorTrailW
import Derived.Lib.LaidTab
/-
  THE WALK OF NatExact (made by mknlaw1.py).
-/
namespace Go.Proofs.YtffkopijfelacaaDoor
open Go Go.RowKit Go.Deep

/-- A box that holds these cells. -/
def Bx (w : World) (g : Nat) (t : Nat) (cs : Array Value) : Prop := w.heap[g]? = some (.cells cs t (0, 0))
theorem Bx.lt {w : World} {g t : Nat} {cs : Array Value} (h : Bx w g t cs) : g < w.heap.size := by
  rcases Nat.lt_or_ge g w.heap.size with c | c
  · exact c
  · simp [Bx, Array.getElem?_eq_none c] at h
theorem Bx.on {w w' : World} {g t : Nat} {cs : Array Value} (h : Bx w g t cs) (hB : Below w.heap.size w w') : Bx w' g t cs := by
  rw [Bx, hB.block g h.lt]; exact h
theorem Bx.set {w : World} {g t o : Nat} {cs : Array Value} (h : Bx w g t cs) (v : Value) : Bx (w.setCell ⟨g, o, none⟩ v) g t (cs.setIfInBounds o v) := by
  simp only [Bx] at *
  simp [World.setCell, Array.getElem?_modify, h]
theorem Bx.far {w : World} {g g' t o : Nat} {cs : Array Value} (h : Bx w g t cs) (ne : g' ≠ g) (v : Value) : Bx (w.setCell ⟨g', o, none⟩ v) g t cs := by
  simp only [Bx] at *
  simp [World.setCell, Array.getElem?_modify, ne, h]
theorem Bx.c6 {w : World} {g t : Nat} {v0 v1 v2 v3 v4 v5 : Value} (h : Bx w g t #[v0, v1, v2, v3, v4, v5]) : (w.cell? ⟨g, 0, none⟩ = some (v0) ∧ w.cell? ⟨g, 1, none⟩ = some (v1) ∧ w.cell? ⟨g, 2, none⟩ = some (v2) ∧ w.cell? ⟨g, 3, none⟩ = some (v3) ∧ w.cell? ⟨g, 4, none⟩ = some (v4) ∧ w.cell? ⟨g, 5, none⟩ = some (v5)) ∧ ∀ o, w.frozen? ⟨g, o, none⟩ = false := by
  simp only [Bx] at h
  refine ⟨⟨?_, ?_, ?_, ?_, ?_, ?_⟩, fun o => ?_⟩ <;> simp [World.cell?, World.frozen?, h]
theorem Bx.c5 {w : World} {g t : Nat} {v0 v1 v2 v3 v4 : Value} (h : Bx w g t #[v0, v1, v2, v3, v4]) : (w.cell? ⟨g, 0, none⟩ = some (v0) ∧ w.cell? ⟨g, 1, none⟩ = some (v1) ∧ w.cell? ⟨g, 2, none⟩ = some (v2) ∧ w.cell? ⟨g, 3, none⟩ = some (v3) ∧ w.cell? ⟨g, 4, none⟩ = some (v4)) := by
  simp only [Bx] at h
  refine ⟨?_, ?_, ?_, ?_, ?_⟩ <;> simp [World.cell?, h]
theorem Arg.setF {w : World} {p : Option Addr} {n cap : Nat} {zs : List Int} (h : Arg w p n cap zs) {g o : Nat} (hp : 0 < zs.length → ∀ a, p = some a → a.block ≠ g) (v : Value) : Arg (w.setCell ⟨g, o, none⟩ v) p n cap zs := by
  obtain ⟨h1, h2, h3, h4, h5⟩ := h
  refine ⟨h1, h2, h3, ?_, h5⟩
  rcases h4 with c | ⟨b, off, hp', hc⟩
  · exact .inl c
  · refine .inr ⟨b, off, hp', fun i hi => ?_⟩
    have ne : g ≠ b := fun e => hp (by omega) _ hp' e.symm
    have := hc i hi
    rw [World.cell?] at this ⊢
    simp only [World.setCell, Array.getElem?_modify]
    rw [if_neg ne]
    exact this
theorem alloc_b2 (w : World) (A : Obj) : Below w.heap.size w (w.alloc A) := Below.alloc (w := w) (Below.refl w.heap.size w) (Nat.le_refl _) A
theorem own_arg {w : World} {g n : Nat} {zs : List Int} (h : Own w g zs) (hl : zs.length = n) (hn : n ≤ 17592186044416) (hz : Nm.Limbs zs) : Arg w (some ⟨g, 0, none⟩) n n zs := ⟨hl, Nat.le_refl _, by omega, h.lies, hz⟩

set_option maxRecDepth 100000 in
set_option maxHeartbeats 8000000 in
theorem natExact_law (a : Option Addr) (len cap : Nat) (its : List E1) (w : World) (hl : its.length = len) (hc : len ≤ cap) (hm : cap ≤ 17592186044416) (hh : E1.Holds w a its) (hb : ∀ it ∈ its, E1.Bd w it) (hT : Tab w) :
    Calls Tryd.prog 3 #[.slice a len cap] w fun e w' => e = .returned (.bool true) ∧ Below w.heap.size w w' := by
  have AW := hid (awake_any w)
  have GT : Hid (∀ i, i < len → ∃ (b off : Nat) (it : E1), a = some ⟨b, off, none⟩ ∧ (∀ wx : World, Below w.heap.size w wx → E1.Cells wx b (off + i * 6) it ∧ Arg wx it.p1 it.n1 it.c1 it.z1 ∧ Arg wx it.p2 it.n2 it.c2 it.z2) ∧ (∀ wx : World, Below w.heap.size w wx → NBth it.K it.p1 it.p2 it.n1 it.n2 it.c1 it.c2 it.M it.C it.N wx it.z1 it.z2)) := by
    intro i hi
    have he : its[i]? = some its[i] := List.getElem?_eq_getElem (by omega)
    rcases hh with c | ⟨b, off, e, h⟩
    · rw [c] at hl; simp at hl; omega
    · have hc2 := h i _ he
      obtain ⟨b1, b2, b3, b5, b6⟩ := hb _ (List.getElem_mem (show i < its.length by omega))
      refine ⟨b, off, its[i], e, fun wx hB => ⟨?_, b5.below hB (Nat.le_refl _), b6.below hB (Nat.le_refl _)⟩, fun wx hB => nboth_any _ _ _ _ _ _ _ _ _ _ wx _ _ (hT.below hB) b1.1 b1.2 b2.1 b2.2 b3 (b5.below hB (Nat.le_refl _)) (b6.below hB (Nat.le_refl _))⟩
      obtain ⟨q0, q1, q2, q3, q4, q5⟩ := hc2
      refine ⟨?_, ?_, ?_, ?_, ?_, ?_⟩
      · rw [hB.cell (p := ⟨b, off + i * 6, none⟩) (cell_lt q0)]; exact q0
      · rw [hB.cell (p := ⟨b, off + i * 6 + 1, none⟩) (cell_lt q1)]; exact q1
      · rw [hB.cell (p := ⟨b, off + i * 6 + 2, none⟩) (cell_lt q2)]; exact q2
      · rw [hB.cell (p := ⟨b, off + i * 6 + 3, none⟩) (cell_lt q3)]; exact q3
      · rw [hB.cell (p := ⟨b, off + i * 6 + 4, none⟩) (cell_lt q4)]; exact q4
      · rw [hB.cell (p := ⟨b, off + i * 6 + 5, none⟩) (cell_lt q5)]; exact q5
  have lb : (len : Int) ≤ 17592186044416 := by omega
  clear hh hb hT hl
  go_enter Tryd.func3, Tryd.ntmps3
  go_wp2_with fail
  refine AW.out.mono ?_
  rintro e w1 ⟨rfl, B1⟩
  have HB1 := hid B1
  clear B1 AW
  go_wp2_with fail
  go_loopg [3, 4, 5] len (fun j i _ _ wr => ∃ k : Nat, k + j = len ∧ i = .int .i64 (k : Int) ∧ Hid (Below w.heap.size w wr))
  case atStart => exact ⟨0, by omega, rfl, HB1.out⟩
  case round =>
    obtain ⟨k, hk, rfl, In⟩ := hrel
    cases gk with
    | zero =>
      have hki : ¬ (k : Int) < (len : Int) := by omega
      go_wp2_with fail
      go_ret
      exact ⟨rfl, In.out⟩
    | succ u9 =>
      have hki : (k : Int) < (len : Int) := by omega
      obtain ⟨bl, off, it, ha, hcell, hboth⟩ := GT.out k (by omega)
      subst ha
      obtain ⟨⟨v, u, i, b, e⟩, WA, AS⟩ := hboth wr In.out
      obtain ⟨cells, A1, A2⟩ := hcell wr In.out
      obtain ⟨K, M, C, N, p1, n1, c1, z1, p2, n2, c2, z2⟩ := it
      simp only at *
      obtain ⟨q0, q1, q2, q3, q4, q5⟩ := cells
      simp only at q0 q1 q2 q3 q4 q5
      have HW := hid WA
      have HAS := hid AS
      have HA1 := hid A1
      have HA2 := hid A2
      clear WA AS A1 A2 hcell hboth GT
      simp only [opOf1] at HW HAS
      go_upto_region 7 with fail
      have X1 := hid (show Bx (wr.alloc (.cells #[.int .i64 K, .slice p1 n1 c1, .slice p2 n2 c2, .int .u64 M, .int .u64 C, .int .i64 N] 27)) wr.heap.size 27 #[.int .i64 K, .slice p1 n1 c1, .slice p2 n2 c2, .int .u64 M, .int .u64 C, .int .i64 N] from heap_alloc_new wr _)
      have B1 := alloc_b2 wr (.cells #[.int .i64 K, .slice p1 n1 c1, .slice p2 n2 c2, .int .u64 M, .int .u64 C, .int .i64 N] 27)
      have W1 := hid (HW.out _ B1)
      have HB1b := hid B1
      have g1l : Hid (wr.heap.size < (wr.alloc (.cells #[.int .i64 K, .slice p1 n1 c1, .slice p2 n2 c2, .int .u64 M, .int .u64 C, .int .i64 N] 27)).heap.size) := X1.out.lt
      clear B1 HW
      generalize wr.alloc (.cells #[.int .i64 K, .slice p1 n1 c1, .slice p2 n2 c2, .int .u64 M, .int .u64 C, .int .i64 N] 27) = wA at *
      obtain ⟨g1, hg1⟩ : ∃ g1, wr.heap.size = g1 := ⟨_, rfl⟩
      rw [hg1] at X1 g1l
      obtain ⟨⟨r0, r1, r2, r3, r4, r5⟩, -⟩ := X1.out.c6
      simp only [hg1]
      go_wp2_with fail
      refine W1.out.mono ?_
      rintro r w2 ⟨pl, zs, rfl, ⟨hA9, hLn⟩, B2⟩
      simp only [ansOf1] at *
      have HQ := hid (And.intro hA9.2.1 (And.intro hA9.2.2.1 hA9.2.2.2.1))
      have AL := hA9.arg hLn
      have PL := hA9.2.2.2.2
      clear hA9 hLn
      obtain ⟨ll, hll⟩ : ∃ ll, zs.length = ll := ⟨_, rfl⟩
      rw [hll] at AL
      simp only [hll]
      go_upto_region 8 with fail
      have B3 := alloc_b2 w2 (.cells #[.slice pl ll ll, .int .u64 u, .int .i64 i, .bool b, .int .i64 e] 29)
      have X3 : Bx (w2.alloc (.cells #[.slice pl ll ll, .int .u64 u, .int .i64 i, .bool b, .int .i64 e] 29)) w2.heap.size 29 #[.slice pl ll ll, .int .u64 u, .int .i64 i, .bool b, .int .i64 e] := heap_alloc_new w2 _
      have X1c := (X1.out.on B2).on B3
      have ALc := AL.below B3 (Nat.le_refl _)
      have BC := HB1b.out.trans ((B2.trans (B3.mono B2.size)).mono HB1b.out.size)
      rw [hg1] at BC
      have g12 : g1 < w2.heap.size := Nat.lt_of_lt_of_le g1l.out B2.size
      have PLc : ∀ a', pl = some a' → a'.block ≠ g1 := fun a' h => by have := PL a' h; have := g1l.out; omega
      have A1c := HA1.out.below (by rw [hg1]; exact BC) (Nat.le_refl _)
      have A2c := HA2.out.below (by rw [hg1]; exact BC) (Nat.le_refl _)
      have P1c : 0 < z1.length → ∀ a', p1 = some a' → a'.block < g1 := fun h a' ha => by rw [← hg1]; exact HA1.out.2.2.2.1.lt h a' ha
      have P2c : 0 < z2.length → ∀ a', p2 = some a' → a'.block < g1 := fun h a' ha => by rw [← hg1]; exact HA2.out.2.2.2.1.lt h a' ha
      have lim1 := HA1.out.2.2.2.2
      have lim2 := HA2.out.2.2.2.2
      have len1 : z1.length = n1 := HA1.out.1
      have len2 : z2.length = n2 := HA2.out.1
      have cap1 : n1 ≤ 17592186044416 := by have := HA1.out.2.1; have := HA1.out.2.2.1; omega
      have cap2 : n2 ≤ 17592186044416 := by have := HA2.out.2.1; have := HA2.out.2.2.1; omega
      have CP1 := hid (copied_any p1 n1 c1 z1 _ A1c)
      have HALL := hid (And.intro X1c (And.intro X3 (And.intro ALc (And.intro A2c BC))))
      have HLIM := hid (And.intro lim1 (And.intro lim2 (And.intro len1 (And.intro len2 (And.intro cap1 cap2)))))
      have HPL := hid (And.intro PLc P2c)
      have HG12 := hid g12
      obtain ⟨⟨r0, r1, r2, r3, r4, r5⟩, rf⟩ := X1c.c6
      clear B2 B3 X3 X1c ALc BC A1c A2c P1c P2c lim1 lim2 len1 len2 cap1 cap2 PL AL W1 X1 HB1b g1l HA1 HA2 PLc q0 q1 q2 q3 q4 q5 hll g12
      generalize w2.alloc (.cells #[.slice pl ll ll, .int .u64 u, .int .i64 i, .bool b, .int .i64 e] 29) = w3 at *
      generalize hg2 : w2.heap.size = g2 at *
      clear hg2
      have rf9 := rf 1
      have rf10 := rf 2
      go_wp2_with fail
      refine CP1.out.mono ?_
      rintro r w4 ⟨rfl, OW4, B4, S4⟩
      obtain ⟨h1, hh1⟩ : ∃ h1, w3.heap.size = h1 := ⟨_, rfl⟩
      rw [hh1] at OW4
      have g1h : g1 < h1 := by rw [← hh1]; exact HALL.out.1.lt
      have g2h : g2 < h1 := by rw [← hh1]; exact HALL.out.2.1.lt
      have X4 := HALL.out.1.on B4
      have Y4 := HALL.out.2.1.on B4
      have AL4 := HALL.out.2.2.1.below B4 (Nat.le_refl _)
      have A24 := HALL.out.2.2.2.1.below B4 (Nat.le_refl _)
      have BC4 := HALL.out.2.2.2.2.trans (B4.mono (by have := HALL.out.2.2.2.2.size; omega))
      have AO4 := own_arg OW4 HLIM.out.2.2.1 HLIM.out.2.2.2.2.1 HLIM.out.1
      have X5 := hid (X4.set (o := 1) (.slice (some ⟨h1, 0, none⟩) n1 n1))
      simp only [Array.setIfInBounds] at X5
      have Y5 := hid (Y4.far (g' := g1) (o := 1) (by have := HG12.out; omega) (.slice (some ⟨h1, 0, none⟩) n1 n1))
      have AL5 := hid (AL4.setF (g := g1) (o := 1) (fun _ => HPL.out.1) (.slice (some ⟨h1, 0, none⟩) n1 n1))
      have A25 := hid (A24.setF (g := g1) (o := 1) (fun h a' ha => by have := HPL.out.2 h a' ha; omega) (.slice (some ⟨h1, 0, none⟩) n1 n1))
      have AO5 := hid (AO4.setF (g := g1) (o := 1) (fun _ a' ha => by cases ha; show h1 ≠ g1; omega) (.slice (some ⟨h1, 0, none⟩) n1 n1))
      have BC5 := hid (BC4.setCell (p := ⟨g1, 1, none⟩) (by rw [← hg1]; exact Nat.le_refl _) (.slice (some ⟨h1, 0, none⟩) n1 n1))
      obtain ⟨⟨s0, s1, s2, s3, s4, s5⟩, sf⟩ := X4.c6
      have sf9 := sf 1
      clear B4 X4 Y4 AL4 A24 BC4 AO4 OW4 S4 HALL CP1 rf rf9 rf10 sf r0 r1 r2 r3 r4 r5
      simp only [hh1]
      go_upto_region 9 with fail
      clear s0 s1 s2 s3 s4 s5 sf9
      generalize w4.setCell ⟨g1, 1, none⟩ (.slice (some ⟨h1, 0, none⟩) n1 n1) = w5 at *
      have CP2 := hid (copied_any p2 n2 c2 z2 w5 A25.out)
      obtain ⟨⟨r0, r1, r2, r3, r4, r5⟩, rf⟩ := X5.out.c6
      have rf9 := rf 1
      have rf10 := rf 2
      go_wp2_with fail
      refine CP2.out.mono ?_
      rintro r w6 ⟨rfl, OW6, B6, S6⟩
      obtain ⟨h2, hh2⟩ : ∃ h2, w5.heap.size = h2 := ⟨_, rfl⟩
      rw [hh2] at OW6
      have X6 := X5.out.on B6
      have Y6 := Y5.out.on B6
      have AL6 := AL5.out.below B6 (Nat.le_refl _)
      have AN6 := AO5.out.below B6 (Nat.le_refl _)
      have BC6 := BC5.out.trans (B6.mono (by have := BC5.out.size; omega))
      have g1h2 : g1 < h2 := by rw [← hh2]; exact X5.out.lt
      have AO6 := own_arg OW6 HLIM.out.2.2.2.1 HLIM.out.2.2.2.2.2 HLIM.out.2.1
      have X7 := hid (X6.set (o := 2) (.slice (some ⟨h2, 0, none⟩) n2 n2))
      simp only [Array.setIfInBounds] at X7
      have Y7 := hid (Y6.far (g' := g1) (o := 2) (by have := HG12.out; omega) (.slice (some ⟨h2, 0, none⟩) n2 n2))
      have AL7 := hid (AL6.setF (g := g1) (o := 2) (fun _ => HPL.out.1) (.slice (some ⟨h2, 0, none⟩) n2 n2))
      have AN7 := hid (AN6.setF (g := g1) (o := 2) (fun _ a' ha => by cases ha; show h1 ≠ g1; omega) (.slice (some ⟨h2, 0, none⟩) n2 n2))
      have AO7 := hid (AO6.setF (g := g1) (o := 2) (fun _ a' ha => by cases ha; show h2 ≠ g1; omega) (.slice (some ⟨h2, 0, none⟩) n2 n2))
      have BC7 := hid (BC6.setCell (p := ⟨g1, 2, none⟩) (by rw [← hg1]; exact Nat.le_refl _) (.slice (some ⟨h2, 0, none⟩) n2 n2))
      obtain ⟨⟨s0, s1, s2, s3, s4, s5⟩, sf⟩ := X6.c6
      have sf10 := sf 2
      clear B6 X6 Y6 AL6 AN6 BC6 AO6 OW6 S6 CP2 rf rf9 rf10 sf r0 r1 r2 r3 r4 r5 X5 Y5 AL5 A25 AO5 BC5
      simp only [hh2]
      go_upto_region 10 with fail
      clear s0 s1 s2 s3 s4 s5 sf10
      generalize w6.setCell ⟨g1, 2, none⟩ (.slice (some ⟨h2, 0, none⟩) n2 n2) = w7 at *
      obtain ⟨SS, hSS⟩ : ∃ SS : World → Prop, SS = fun wx => Bx wx g1 27 #[.int .i64 K, .slice (some ⟨h1, 0, none⟩) n1 n1, .slice (some ⟨h2, 0, none⟩) n2 n2, .int .u64 M, .int .u64 C, .int .i64 N] ∧ Bx wx g2 29 #[.slice pl ll ll, .int .u64 u, .int .i64 i, .bool b, .int .i64 e] ∧ Arg wx (some ⟨h1, 0, none⟩) n1 n1 z1 ∧ Arg wx (some ⟨h2, 0, none⟩) n2 n2 z2 ∧ Arg wx pl ll ll zs ∧ Below wr.heap.size wr wx := ⟨_, rfl⟩
      have S7 : Hid (SS w7) := by rw [hSS]; exact ⟨X7.out, Y7.out, AN7.out, AO7.out, AL7.out, by rw [hg1]; exact BC7.out⟩
      have KS : Hid (∀ wx w' : World, SS wx → Below wx.heap.size wx w' → SS w') := by
        intro wx w' h hB
        rw [hSS] at h ⊢
        exact ⟨h.1.on hB, h.2.1.on hB, h.2.2.1.below hB (Nat.le_refl _), h.2.2.2.1.below hB (Nat.le_refl _), h.2.2.2.2.1.below hB (Nat.le_refl _), h.2.2.2.2.2.trans (hB.mono h.2.2.2.2.2.size)⟩
      have CS : Hid (∀ wx : World, SS wx → (wx.cell? ⟨g1, 0, none⟩ = some (.int .i64 K) ∧ wx.cell? ⟨g1, 1, none⟩ = some (.slice (some ⟨h1, 0, none⟩) n1 n1) ∧ wx.cell? ⟨g1, 2, none⟩ = some (.slice (some ⟨h2, 0, none⟩) n2 n2) ∧ wx.cell? ⟨g1, 3, none⟩ = some (.int .u64 M) ∧ wx.cell? ⟨g1, 4, none⟩ = some (.int .u64 C) ∧ wx.cell? ⟨g1, 5, none⟩ = some (.int .i64 N)) ∧ (wx.cell? ⟨g2, 0, none⟩ = some (.slice pl ll ll) ∧ wx.cell? ⟨g2, 1, none⟩ = some (.int .u64 u) ∧ wx.cell? ⟨g2, 2, none⟩ = some (.int .i64 i) ∧ wx.cell? ⟨g2, 3, none⟩ = some (.bool b) ∧ wx.cell? ⟨g2, 4, none⟩ = some (.int .i64 e))) := by
        intro wx h
        rw [hSS] at h
        exact ⟨h.1.c6.1, h.2.1.c5⟩
      have BS : Hid (∀ wx : World, SS wx → Below wr.heap.size wr wx) := by
        intro wx h
        rw [hSS] at h
        exact h.2.2.2.2.2
      have AK : Hid (∀ wx : World, SS wx → Calls Tryd.prog 8 #[.agg #[.int .i64 K, .slice (some ⟨h1, 0, none⟩) n1 n1, .slice (some ⟨h2, 0, none⟩) n2 n2, .int .u64 M, .int .u64 C, .int .i64 N]] wx fun r w' => ∃ pl', r = .returned (.agg #[.slice pl' ll ll, .int .u64 u, .int .i64 i, .bool b, .int .i64 e]) ∧ Arg w' pl' ll ll zs ∧ Below wx.heap.size wx w') := by
        intro wx h
        rw [hSS] at h
        refine (HAS.out wx _ _ _ _ h.2.2.2.2.2 h.2.2.1 h.2.2.2.1).mono ?_
        rintro r w' ⟨pl', os', rfl, ⟨hA', hL'⟩, hB⟩
        obtain rfl : os' = zs := Nm.canon hA'.2.1 HQ.out.1 hA'.2.2.1 HQ.out.2.1 (hA'.2.2.2.1.trans HQ.out.2.2.symm)
        have AL' := hA'.arg hL'
        have e' : os'.length = ll := AL7.out.1
        rw [e'] at AL' ⊢
        exact ⟨pl', rfl, AL', hB⟩
      have LK : Hid (∀ (wx : World) (pl' : Option Addr), SS wx → Arg wx pl' ll ll zs → Calls Tryd.prog 7 #[.agg #[.slice pl' ll ll, .int .u64 u, .int .i64 i, .bool b, .int .i64 e], .agg #[.slice pl ll ll, .int .u64 u, .int .i64 i, .bool b, .int .i64 e]] wx fun r w' => r = .returned (.bool true) ∧ Below wx.heap.size wx w') := by
        intro wx pl' h hA
        rw [hSS] at h
        have := alike_same1 u i b e pl' pl ll ll ll ll zs wx hA h.2.2.2.2.1
        simp only [ansOf1] at this
        exact this
      clear hSS X7 Y7 AL7 AN7 AO7 BC7 HAS HQ HLIM HPL HG12
      have T1 := hid (KS.out _ _ S7.out (show Below w7.heap.size w7 w7.drew from ⟨rfl, rfl, rfl, Nat.le_refl _, fun _ _ => rfl⟩))
      obtain ⟨⟨r0, r1, r2, r3, r4, r5⟩, ⟨t0, t1, t2, t3, t4⟩⟩ := CS.out _ S7.out
      go_region_held3 (fun w' => (w'.cell? ⟨g1, 0, none⟩ = some (.int .i64 K) ∧ w'.cell? ⟨g1, 1, none⟩ = some (.slice (some ⟨h1, 0, none⟩) n1 n1) ∧ w'.cell? ⟨g1, 2, none⟩ = some (.slice (some ⟨h2, 0, none⟩) n2 n2) ∧ w'.cell? ⟨g1, 3, none⟩ = some (.int .u64 M) ∧ w'.cell? ⟨g1, 4, none⟩ = some (.int .u64 C) ∧ w'.cell? ⟨g1, 5, none⟩ = some (.int .i64 N)) ∧ (w'.cell? ⟨g2, 0, none⟩ = some (.slice pl ll ll) ∧ w'.cell? ⟨g2, 1, none⟩ = some (.int .u64 u) ∧ w'.cell? ⟨g2, 2, none⟩ = some (.int .i64 i) ∧ w'.cell? ⟨g2, 3, none⟩ = some (.bool b) ∧ w'.cell? ⟨g2, 4, none⟩ = some (.int .i64 e))) (first | (with_reducible exact CS.out _ T3.out) | (with_reducible exact CS.out _ T2.out) | (with_reducible exact CS.out _ T1.out)) (first
        | (go_at_call 8; refine (AK.out _ T1.out).mono ?_; rintro r w8 ⟨pl', rfl, hA, hB⟩; have T2 := hid (KS.out _ _ T1.out hB); have L2 := hid (LK.out w8 pl' T2.out hA); clear hB hA)
        | (go_at_call 7; refine L2.out.mono ?_; rintro r w9 ⟨rfl, hB⟩; have T3 := hid (KS.out _ _ T2.out hB); clear hB))
      all_goals
        have FB := hid (In.out.trans ((BS.out _ T3.out).mono In.out.size))
        go_wp2_with fail
        go_roundg u9
        case measure => omega
        case rel => exact ⟨k + 1, by omega, by go_num, FB.out⟩
end Go.Proofs.YtffkopijfelacaaDoor

namespace Go.Proofs.YtffkopijfelacaaDoor
open Go Go.RowKit Go.Deep

theorem tab_laid : (Rows.laid_math_bits_deBruijn64tab : DataW Unit) = Lib.tabData .u8 (List.map Int.ofNat Lib.deBruijn64tab) := by kernel_rfl

theorem tab_of {W : World} {rest : List (String × DataW Unit)} (h : laidMet Tryd.prog (("math/bits.deBruijn64tab", Rows.laid_math_bits_deBruijn64tab) :: rest) W) : Tab W := by
  rw [tab_laid] at h
  have ht := Lib.tabIs_of_head (g := 0) (t := 66) (e := 5) (n := 64) (k := .u8) (zs := List.map Int.ofNat Lib.deBruijn64tab) (by kernel_rfl) (by kernel_rfl) Tryd.underlying66 Tryd.underlying5 (by kernel_rfl) (by kernel_rfl) h
  intro j hj
  have hl : (List.map Int.ofNat Lib.deBruijn64tab).length = Lib.deBruijn64tab.length := by simp
  rw [ht.cell (g := 0) (by kernel_rfl) j (by omega)]
  simp [List.getD, hj]

end Go.Proofs.YtffkopijfelacaaDoor
