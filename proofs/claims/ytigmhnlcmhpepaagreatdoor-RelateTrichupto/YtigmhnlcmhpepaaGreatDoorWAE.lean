/-
  Texts put together: XMem, TrailW, MSt, FRow3, VTrimL, NSTrim, NClone, JPadN, JLay, S4B, NPush, PoT10, FTab, LTab.
-/
import Derived.Test.YtigmhnlcmhpepaaGreatDoorWAA
import Derived.Laws.Rows
import Derived.Test.YtigmhnlcmhpepaaGreatDoorWAD
import Derived.Shelf.Spec.TrailingZeros
import Derived.Laws.Bits64b
import Derived.Lib.ItoaNum
import Derived.Laws.ResultCell
import Derived.Shelf.Pu.Clone
import Derived.Shelf.Strings.Repeat
import Derived.Shelf.Small.Strs
import Derived.Laws.AppendOwn
import Derived.Laws.OwnMore
import Derived.Lib.LaidTab
/-
  Small structs in memory: an exact (four cells), a num (two).
-/
namespace Go.Proofs.YtigmhnlcmhpepaaGreatDoor
open Go Go.RowKit Go.Deep

/-- Four cells that may be written. -/
def Row4 (w : World) (b t : Nat) (v0 v1 v2 v3 : Value) : Prop := w.heap[b]? = some (.cells #[v0, v1, v2, v3] t (0, 0))

theorem Row4.below {B : Nat} {w w' : World} {b t : Nat} {v0 v1 v2 v3 : Value} (h : Row4 w b t v0 v1 v2 v3) (hB : Below B w w') (hb : b < B) : Row4 w' b t v0 v1 v2 v3 := by
  rw [Row4, hB.block b hb]; exact h

theorem Row4.lt {w : World} {b t : Nat} {v0 v1 v2 v3 : Value} (h : Row4 w b t v0 v1 v2 v3) : b < w.heap.size := by
  rcases Nat.lt_or_ge b w.heap.size with hl | hl
  · exact hl
  · simp [Row4, Array.getElem?_eq_none hl] at h

theorem Row4.cells {w : World} {b t : Nat} {v0 v1 v2 v3 : Value} (h : Row4 w b t v0 v1 v2 v3) :
    (w.cell? ⟨b, 0, none⟩ = some v0 ∧ w.cell? ⟨b, 1, none⟩ = some v1 ∧ w.cell? ⟨b, 2, none⟩ = some v2 ∧ w.cell? ⟨b, 3, none⟩ = some v3) ∧
    (w.frozen? ⟨b, 0, none⟩ = false ∧ w.frozen? ⟨b, 1, none⟩ = false ∧ w.frozen? ⟨b, 2, none⟩ = false ∧ w.frozen? ⟨b, 3, none⟩ = false) := by
  simp only [Row4] at h
  refine ⟨⟨?_, ?_, ?_, ?_⟩, ⟨?_, ?_, ?_, ?_⟩⟩ <;> simp [World.cell?, World.frozen?, h]

theorem Row4.heap {w w' : World} {b t : Nat} {v0 v1 v2 v3 : Value} (h : Row4 w b t v0 v1 v2 v3) (e : w'.heap = w.heap) : Row4 w' b t v0 v1 v2 v3 := by
  rw [Row4, e]; exact h

theorem Row4.new (w : World) (t : Nat) (v0 v1 v2 v3 : Value) : Row4 (w.alloc (.cells #[v0, v1, v2, v3] t)) w.heap.size t v0 v1 v2 v3 := heap_alloc_new w _

theorem set1 {w : World} {b o t : Nat} {v : Value} {c c' : Array Value} (h : w.heap[b]? = some (.cells c t (0, 0))) (e : c.setIfInBounds o v = c') : (w.setCell ⟨b, o, none⟩ v).heap[b]? = some (.cells c' t (0, 0)) := by
  subst e
  simp [World.setCell, Array.getElem?_modify, h]

theorem Row4.set {w : World} {b t : Nat} {v0 v1 v2 v3 u0 u1 u2 u3 : Value} (h : Row4 w b t v0 v1 v2 v3) :
    Row4 ((((w.setCell ⟨b, 0, none⟩ u0).setCell ⟨b, 1, none⟩ u1).setCell ⟨b, 2, none⟩ u2).setCell ⟨b, 3, none⟩ u3) b t u0 u1 u2 u3 := by
  have h0 := set1 (o := 0) (v := u0) (c' := #[u0, v1, v2, v3]) h (by simp [Array.setIfInBounds])
  have h1 := set1 (o := 1) (v := u1) (c' := #[u0, u1, v2, v3]) h0 (by simp [Array.setIfInBounds])
  have h2 := set1 (o := 2) (v := u2) (c' := #[u0, u1, u2, v3]) h1 (by simp [Array.setIfInBounds])
  exact set1 (o := 3) (v := u3) (c' := #[u0, u1, u2, u3]) h2 (by simp [Array.setIfInBounds])

/-- A list somewhere else stays. -/
theorem Lies.set {w : World} {p : Option Addr} {zs : List Int} {b o : Nat} {v : Value} (h : Lies w p zs) (hne : ∀ a, p = some a → a.block ≠ b) : Lies (w.setCell ⟨b, o, none⟩ v) p zs := by
  rcases h with rfl | ⟨b', off, hp, h⟩
  · exact .inl rfl
  · refine .inr ⟨b', off, hp, fun i hi => ?_⟩
    rw [← h i hi]
    have := hne _ hp
    simp only [World.cell?, World.setCell, Array.getElem?_modify]
    rw [if_neg (by simp only at this; omega)]

/-- Two cells that may be written. -/
def Row2 (w : World) (b t : Nat) (v0 v1 : Value) : Prop := w.heap[b]? = some (.cells #[v0, v1] t (0, 0))

theorem Row2.below {B : Nat} {w w' : World} {b t : Nat} {v0 v1 : Value} (h : Row2 w b t v0 v1) (hB : Below B w w') (hb : b < B) : Row2 w' b t v0 v1 := by
  rw [Row2, hB.block b hb]; exact h

theorem Row2.lt {w : World} {b t : Nat} {v0 v1 : Value} (h : Row2 w b t v0 v1) : b < w.heap.size := by
  rcases Nat.lt_or_ge b w.heap.size with hl | hl
  · exact hl
  · simp [Row2, Array.getElem?_eq_none hl] at h

theorem Row2.cells {w : World} {b t : Nat} {v0 v1 : Value} (h : Row2 w b t v0 v1) :
    (w.cell? ⟨b, 0, none⟩ = some v0 ∧ w.cell? ⟨b, 1, none⟩ = some v1) ∧ (w.frozen? ⟨b, 0, none⟩ = false ∧ w.frozen? ⟨b, 1, none⟩ = false) := by
  simp only [Row2] at h
  refine ⟨⟨?_, ?_⟩, ⟨?_, ?_⟩⟩ <;> simp [World.cell?, World.frozen?, h]

theorem Row2.new (w : World) (t : Nat) (v0 v1 : Value) : Row2 (w.alloc (.cells #[v0, v1] t)) w.heap.size t v0 v1 := heap_alloc_new w _

theorem Row2.set {w : World} {b t : Nat} {v0 v1 u0 u1 : Value} (h : Row2 w b t v0 v1) : Row2 ((w.setCell ⟨b, 0, none⟩ u0).setCell ⟨b, 1, none⟩ u1) b t u0 u1 := by
  have h0 := set1 (o := 0) (v := u0) (c' := #[u0, v1]) h (by simp [Array.setIfInBounds])
  exact set1 (o := 1) (v := u1) (c' := #[u0, u1]) h0 (by simp [Array.setIfInBounds])

theorem alloc_b (w : World) (A : Obj) : Below w.heap.size w (w.alloc A) := Below.alloc (w := w) (Below.refl w.heap.size w) (Nat.le_refl _) A

end Go.Proofs.YtigmhnlcmhpepaaGreatDoor

namespace Go.Proofs.YtigmhnlcmhpepaaGreatDoor
open Go.RowKit Go.Deep

/-- The kit's contract for TrailingZeros64, laid at this program. -/
def tzRen : Go.Shelf.Ren := ⟨fun _ => 188, fun t => if t = 22 then 22 else if t = 25 then 102 else if t = 54 then 279 else if t = 5 then 5 else if t = 4 then 4 else if t = 0 then 0 else 3, fun _ => 5⟩
theorem tzLays : Lays7.n29 Tryz.prog tzRen where
  mixed := by kernel_rfl
  f29 := by kernel_rfl
  t0 := by kernel_rfl
  a0 := fun _ => by kernel_rfl
  z0 := fun _ => by kernel_rfl
  v0 := fun _ => by kernel_rfl
  i0 := by kernel_rfl
  t3 := by kernel_rfl
  a3 := fun _ => by kernel_rfl
  z3 := fun _ => by kernel_rfl
  v3 := fun _ => by kernel_rfl
  i3 := by kernel_rfl
  t4 := by kernel_rfl
  a4 := fun _ => by kernel_rfl
  z4 := fun _ => by kernel_rfl
  v4 := fun _ => by kernel_rfl
  i4 := by kernel_rfl
  t5 := by kernel_rfl
  a5 := fun _ => by kernel_rfl
  z5 := fun _ => by kernel_rfl
  v5 := fun _ => by kernel_rfl
  i5 := by kernel_rfl
  t22 := by kernel_rfl
  a22 := fun _ => by kernel_rfl
  z22 := fun _ => by kernel_rfl
  v22 := fun _ => by kernel_rfl
  i22 := by kernel_rfl
  t25 := by kernel_rfl
  a25 := fun _ => by kernel_rfl
  z25 := fun _ => by kernel_rfl
  v25 := fun _ => by kernel_rfl
  i25 := by kernel_rfl
  t54 := by kernel_rfl
  a54 := fun _ => by kernel_rfl
  z54 := fun _ => by kernel_rfl
  g1 := by kernel_rfl

/-- The table that TrailingZeros64 reads. -/
def Tab (w : World) : Prop := TabAt 5 Lib.deBruijn64tab w

theorem Tab.below {w w' : World} (h : Tab w) (hb : Below w.heap.size w w') : Tab w' := by
  intro j hj
  have hc := h j hj
  rw [hb.cell (p := ⟨5, j, none⟩) (cell_lt hc)]
  exact hc

theorem tz64 (x : Int) (w : World) (h0 : 0 < x) (h1 : x < 18446744073709551616) (hT : Tab w) :
    Calls Tryz.prog 188 #[.int .u64 x] w fun e w' => ∃ (t : Nat) (m : Int), e = .returned (.int .i64 t) ∧ t ≤ 63 ∧ Hid (x = 2 ^ t * (2 * m + 1)) ∧ w' = w := by
  obtain ⟨n, rfl⟩ := Int.eq_ofNat_of_zero_le (show 0 ≤ x by omega)
  refine (Any7.bits_TrailingZeros64 tzLays n (by omega) w (fun _ => hT)).mono ?_
  rintro e w' ⟨rfl, rfl⟩
  obtain ⟨m, hm, hlt⟩ := Lib.ctzFrom_spec 64 n (by omega) (by simpa using (show n < 18446744073709551616 by omega))
  refine ⟨Lib.ctzFrom 64 n, m, by rw [Lib.ctz, if_neg (by omega)], by omega, ?_, rfl⟩
  show (n : Int) = _
  have e : ((2 ^ Lib.ctzFrom 64 n * (2 * m + 1) : Nat) : Int) = 2 ^ Lib.ctzFrom 64 n * (2 * (m : Int) + 1) := by simp
  rw [← e, ← hm]

end Go.Proofs.YtigmhnlcmhpepaaGreatDoor

/-
  A state as one predicate: what it says of the memory, and that only new memory was written.
-/
namespace Go.Proofs.YtigmhnlcmhpepaaGreatDoor
open Go Go.RowKit Go.Deep

structure St (S : World → Prop) (w wx : World) : Prop where
  cells : S wx
  bel : Below w.heap.size w wx

def Stays (S : World → Prop) : Prop := ∀ wx w' : World, S wx → Below wx.heap.size wx w' → S w'

theorem St.on {S : World → Prop} {w wx w' : World} (h : St S w wx) (k : Stays S) (hB : Below wx.heap.size wx w') : St S w w' := ⟨k _ _ h.cells hB, h.bel.trans (hB.mono h.bel.size)⟩
theorem St.drew {S : World → Prop} {w wx : World} (h : St S w wx) (k : Stays S) : St S w wx.drew := h.on k ⟨rfl, rfl, rfl, Nat.le_refl _, fun _ _ => rfl⟩
theorem St.more {S T : World → Prop} {w wx w' : World} (h : St S w wx) (k : Stays S) (hB : Below wx.heap.size wx w') (t : T w') : St (fun x => S x ∧ T x) w w' := ⟨⟨k _ _ h.cells hB, t⟩, h.bel.trans (hB.mono h.bel.size)⟩
theorem St.to {S T : World → Prop} {w wx w' : World} (h : St S w wx) (hB : Below wx.heap.size wx w') (t : T w') : St T w w' := ⟨t, h.bel.trans (hB.mono h.bel.size)⟩

theorem Stays.cell (a : Addr) (v : Value) : Stays (fun w => w.cell? a = some v) := fun _ _ h hB => (hB.cell (cell_lt h)).trans h
theorem Stays.and {S T : World → Prop} (h : Stays S) (k : Stays T) : Stays (fun w => S w ∧ T w) := fun _ _ g hB => ⟨h _ _ g.1 hB, k _ _ g.2 hB⟩
theorem Stays.arg (p : Option Addr) (n cap : Nat) (os : List Int) : Stays (fun w => Arg w p n cap os) := fun _ _ h hB => h.below hB (Nat.le_refl _)
theorem Stays.tab : Stays Tab := fun _ _ h hB => h.below hB
theorem Stays.bel (w : World) : Stays (fun x => Below w.heap.size w x) := fun _ _ h hB => h.trans (hB.mono h.size)
theorem Stays.const (p : Prop) : Stays (fun _ => p) := fun _ _ h _ => h

/-- The state under a name of its own. -/
theorem state (S : World → Prop) (w : World) (k : Stays S) : ∃ SS : World → Prop, Hid (∀ wx w' : World, SS wx → Below wx.heap.size wx w' → SS w') ∧ Hid (∀ wx : World, SS wx → S wx) ∧ Hid (∀ wx : World, SS wx → Below w.heap.size w wx) ∧ Hid (∀ wx : World, S wx → Below w.heap.size w wx → SS wx) :=
  ⟨St S w, fun _ _ h hB => h.on k hB, fun _ h => h.cells, fun _ h => h.bel, fun _ h b => ⟨h, b⟩⟩

theorem drew_nil (w : World) : Below w.heap.size w w.drew := ⟨rfl, rfl, rfl, Nat.le_refl _, fun _ _ => rfl⟩
end Go.Proofs.YtigmhnlcmhpepaaGreatDoor

namespace Go.Proofs.YtigmhnlcmhpepaaGreatDoor
open Go Go.RowKit Go.Deep

theorem fset1 {w : World} {b o t : Nat} {v : Value} {c c' : Array Value} (h : w.heap[b]? = some (.cells c t (0, 0))) (e : c.setIfInBounds o v = c') : (w.setCell ⟨b, o, none⟩ v).heap[b]? = some (.cells c' t (0, 0)) := by
  subst e
  simp [World.setCell, Array.getElem?_modify, h]


/-- Three cells that may be written. -/
def FR3 (w : World) (b : Nat) (v0 v1 v2 : Value) : Prop := w.heap[b]? = some (.cells #[v0, v1, v2] 104 (0, 0))
theorem FR3.new (w : World) (v0 v1 v2 : Value) : FR3 (w.alloc (.cells #[v0, v1, v2] 104)) w.heap.size v0 v1 v2 := heap_alloc_new w _
theorem FR3.below {B : Nat} {w w' : World} {b : Nat} {v0 v1 v2 : Value} (h : FR3 w b v0 v1 v2) (hB : Below B w w') (hb : b < B) : FR3 w' b v0 v1 v2 := by
  rw [FR3, hB.block b hb]; exact h
theorem FR3.lt {w : World} {b : Nat} {v0 v1 v2 : Value} (h : FR3 w b v0 v1 v2) : b < w.heap.size := by
  rcases Nat.lt_or_ge b w.heap.size with hl | hl
  · exact hl
  · simp [FR3, Array.getElem?_eq_none hl] at h
theorem FR3.cells {w : World} {b : Nat} {v0 v1 v2 : Value} (h : FR3 w b v0 v1 v2) :
    (w.cell? ⟨b, 0, none⟩ = some v0 ∧ w.cell? ⟨b, 1, none⟩ = some v1 ∧ w.cell? ⟨b, 2, none⟩ = some v2) ∧
    (w.frozen? ⟨b, 0, none⟩ = false ∧ w.frozen? ⟨b, 1, none⟩ = false ∧ w.frozen? ⟨b, 2, none⟩ = false) := by
  simp only [FR3] at h
  refine ⟨⟨?_, ?_, ?_⟩, ⟨?_, ?_, ?_⟩⟩ <;> simp [World.cell?, World.frozen?, h]
theorem FR3.put {w : World} {b : Nat} {v0 v1 v2 : Value} (h : FR3 w b v0 v1 v2) (u0 u1 u2 : Value) :
    FR3 (((w.setCell ⟨b, 0, none⟩ u0).setCell ⟨b, 1, none⟩ u1).setCell ⟨b, 2, none⟩ u2) b u0 u1 u2 := by
  have h0 := fset1 (o := 0) (v := u0) (c' := #[u0, v1, v2]) h (by simp [Array.setIfInBounds])
  have h1 := fset1 (o := 1) (v := u1) (c' := #[u0, u1, v2]) h0 (by simp [Array.setIfInBounds])
  exact fset1 (o := 2) (v := u2) (c' := #[u0, u1, u2]) h1 (by simp [Array.setIfInBounds])
theorem FR3.far {w : World} {b c o : Nat} {v v0 v1 v2 : Value} (h : FR3 w b v0 v1 v2) (hc : c ≠ b) : FR3 (w.setCell ⟨c, o, none⟩ v) b v0 v1 v2 := by
  simp only [FR3] at *
  simp only [World.setCell, Array.getElem?_modify]
  rw [if_neg hc]; exact h
theorem fset3_below {B : Nat} {w w' : World} {b : Nat} {u0 u1 u2 : Value} (h : Below B w w') (hb : B ≤ b) : Below B w (((w'.setCell ⟨b, 0, none⟩ u0).setCell ⟨b, 1, none⟩ u1).setCell ⟨b, 2, none⟩ u2) :=
  ((h.setCell (p := ⟨b, 0, none⟩) hb u0).setCell (p := ⟨b, 1, none⟩) hb u1).setCell (p := ⟨b, 2, none⟩) hb u2


end Go.Proofs.YtigmhnlcmhpepaaGreatDoor

namespace Go.Proofs.YtigmhnlcmhpepaaGreatDoor
open Go.RowKit Go.Deep

/-- s' is s without some zeros at its head, and opens with none. -/
def Bared (xs : List Int) (s' : ByteArray) (j : Nat) : Prop := Str s' (xs.drop j) ∧ j ≤ xs.length ∧ (∀ i, i < j → xs.getD i 0 = 48)

def STold (xs : List Int) (e : Ending) : Prop := ∃ s' j, e = .returned (.string s') ∧ Bared xs s' j ∧ (j < xs.length → xs.getD j 0 ≠ 48)

set_option maxRecDepth 100000 in
set_option maxHeartbeats 1000000 in
theorem strim1_any (s : ByteArray) (xs : List Int) (w : World) (hs : Str s xs) (hn1 : xs.length ≤ 562949953421312) :
    Calls Tryz.prog 122 #[.string s, .int .u8 48] w fun e w' => STold xs e ∧ w' = w := by
  have HS := hid hs
  have HN := hid hn1
  clear hs hn1
  go_enter Tryz.func122, Tryz.ntmps122
  go_wp2_with fail
  go_loop [0] (fun c => ∃ s' j, c = .string s' ∧ Hid (Bared xs s' j)) (fun c => match c with | .string s' => s'.size | _ => 0)
  case atStart => exact ⟨s, 0, rfl, HS.out, Nat.zero_le _, fun i hi => by omega⟩
  case round =>
    obtain ⟨s', j, rfl, I⟩ := hrel
    obtain ⟨m, HM⟩ : ∃ m, Hid (s'.size = m) := ⟨_, rfl⟩
    have hsz : s'.size = m := HM.out
    have hjm : Hid (j + m = xs.length) := by show _ = _; have := I.out.1.size; have := I.out.2.1; have := HM.out; simp at *; omega
    have hmb : (m : Int) ≤ 562949953421312 := by have := HN.out; have := hjm.out; omega
    by_cases h0 : m = 0
    · subst h0
      have F : Hid (STold xs (.returned (.string s'))) := ⟨s', j, rfl, I.out, fun h => by have := hjm.out; omega⟩
      clear I
      go_wp2_with fail
      go_ret
      exact ⟨F.out, rfl⟩
    · have hm : 0 < m := by omega
      have hmi : (0 : Int) < (m : Int) := by omega
      obtain ⟨x, X⟩ : ∃ x, Hid (xs.getD j 0 = x) := ⟨_, rfl⟩
      have hx : ∀ h : 0 < s'.size, ((s'[0]'h).toNat : Int) = x := fun h => by rw [I.out.1.at 0 h, ← X.out]; simp [List.getD]
      by_cases hd : x = 48
      · subst hd
        have F : Hid (Bared xs (s'.extract 1 s'.size) (j + 1)) := by
          refine ⟨?_, by have := hjm.out; omega, fun i hi => ?_⟩
          · have := I.out.1.extract 1 s'.size
            rw [List.drop_drop, List.take_of_length_le (by have := hjm.out; have := HM.out; simp; omega)] at this
            exact this
          · by_cases e : i = j
            · subst e; exact X.out
            · exact I.out.2.2 i (by omega)
        rw [hsz] at F
        have SZ : Hid ((s'.extract 1 m).size < s'.size) := by
          show _ < _
          have e1 := F.out.1.size
          have e2 := HM.out
          have e3 := hjm.out
          simp only [List.length_drop] at e1
          omega
        clear I
        go_wp2_with fail
        go_round
        case rel => exact ⟨_, _, rfl, F.out⟩
        case measure => exact SZ.out
      · have hd2 : (x == 48) = false := by rw [beq_eq_false_iff_ne]; exact hd
        have F : Hid (STold xs (.returned (.string s'))) := ⟨s', j, rfl, I.out, fun _ => by rw [X.out]; exact hd⟩
        clear I
        go_wp2_with fail
        go_ret
        exact ⟨F.out, rfl⟩

end Go.Proofs.YtigmhnlcmhpepaaGreatDoor



namespace Go.Proofs.YtigmhnlcmhpepaaGreatDoor
open Go.RowKit Go.Deep Go.Shelf

def cloneRen : Go.Shelf.Ren := ⟨fun _ => 73, fun t => if t = 37 then 172 else if t = 47 then 173 else if t = 5 then 5 else if t = 9 then 9 else if t = 3 then 3 else t, fun g => g⟩
theorem cloneLays : LaysPu.n25 Tryz.prog cloneRen where
  mixed := by kernel_rfl
  f25 := by kernel_rfl
  t0 := by kernel_rfl
  a0 := fun _ => by kernel_rfl
  z0 := fun _ => by kernel_rfl
  v0 := fun _ => by kernel_rfl
  i0 := by kernel_rfl
  t3 := by kernel_rfl
  a3 := fun _ => by kernel_rfl
  z3 := fun _ => by kernel_rfl
  v3 := fun _ => by kernel_rfl
  i3 := by kernel_rfl
  t4 := by kernel_rfl
  a4 := fun _ => by kernel_rfl
  z4 := fun _ => by kernel_rfl
  v4 := fun _ => by kernel_rfl
  i4 := by kernel_rfl
  t5 := by kernel_rfl
  a5 := fun _ => by kernel_rfl
  z5 := fun _ => by kernel_rfl
  v5 := fun _ => by kernel_rfl
  i5 := by kernel_rfl
  t9 := by kernel_rfl
  a9 := fun _ => by kernel_rfl
  z9 := fun _ => by kernel_rfl
  v9 := fun _ => by kernel_rfl
  i9 := by kernel_rfl
  t37 := by kernel_rfl
  a37 := fun _ => by kernel_rfl
  z37 := fun _ => by kernel_rfl
  v37 := fun _ => by kernel_rfl
  i37 := by kernel_rfl
  t47 := by kernel_rfl
  a47 := fun _ => by kernel_rfl
  z47 := fun _ => by kernel_rfl
  v47 := fun _ => by kernel_rfl
  i47 := by kernel_rfl

theorem clone_any (s : ByteArray) (w : World) (hs : s.size ≤ 140737488355328) : Calls Tryz.prog 50 #[.string s] w fun e w' => e = .returned (.string s) ∧ Below w.heap.size w w' := by
  have C : Hid (Calls Tryz.prog 73 #[.string s] w fun e w' => e = .returned (.string s) ∧ Below w.heap.size w w') := AnyPu.stringslite_Clone cloneLays s w (by omega)
  go_enter Tryz.func50, Tryz.ntmps50
  go_wp2_with fail
  refine C.out.mono ?_
  rintro e w1 ⟨rfl, d1⟩
  have D := hid d1
  clear d1
  go_wp2_with fail
  go_ret
  exact ⟨rfl, D.out⟩
end Go.Proofs.YtigmhnlcmhpepaaGreatDoor

namespace Go.Proofs.YtigmhnlcmhpepaaGreatDoor
open Go.RowKit Go.Deep
namespace Wh

/-- The error of a raw directive, its verb left out. -/
def chk (F W P : Int) : Int := if F < 0 ∨ 31 < F ∨ W < 0 ∨ P < -1 then 1 else if 4096 < W ∨ 4096 < P then 6 else 0
theorem chk_ok {F W P : Int} (h : chk F W P = 0) : (0 ≤ F ∧ F ≤ 31) ∧ (0 ≤ W ∧ W ≤ 4096) ∧ (-1 ≤ P ∧ P ≤ 4096) := by
  unfold chk at h
  split at h
  · omega
  · split at h
    · omega
    · omega
/-- A flag of a sum of flags. -/
def bit (F k : Int) : Bool := decide (F / k % 2 = 1)
/-- n times the byte c. -/
def rep (c n : Int) : List Int := List.replicate n.toNat c
theorem rep_len (c n : Int) : (rep c n).length = n.toNat := List.length_replicate
theorem rep_neg {c n : Int} (h : n ≤ 0) : rep c n = [] := by
  rw [rep, show n.toNat = 0 by omega]; rfl
theorem rep_by {c n x : Int} (h0 : 0 ≤ c ∧ c < 256) (h : x ∈ rep c n) : 0 ≤ x ∧ x < 256 := by
  rw [rep, List.mem_replicate] at h
  rw [h.2]; exact h0

/-- A text's bytes. -/
def By (xs : List Int) : Prop := ∀ x ∈ xs, 0 ≤ x ∧ x < 256
theorem By.nil : By [] := by intro x h; simp at h
theorem By.app {a b : List Int} (h : By a) (k : By b) : By (a ++ b) := by
  intro x hx
  rcases List.mem_append.1 hx with q | q
  · exact h x q
  · exact k x q
theorem By.rep {c n : Int} (h0 : 0 ≤ c ∧ c < 256) : By (rep c n) := fun _ h => rep_by h0 h
theorem By.take {a : List Int} (h : By a) (k : Nat) : By (a.take k) := fun x hx => h x (List.mem_of_mem_take hx)
theorem By.cons {c : Int} {a : List Int} (h0 : 0 ≤ c ∧ c < 256) (h : By a) : By (c :: a) := by
  intro x hx
  rcases List.mem_cons.1 hx with q | q
  · rw [q]; exact h0
  · exact h x q

/-- Head and body brought to the width. -/
def padT (F W : Int) (z : Bool) (h b : List Int) : List Int :=
  if bit F 1 = true then h ++ b ++ rep 32 (W - h.length - b.length)
  else if bit F 16 = true ∧ z = true then h ++ rep 48 (W - h.length - b.length) ++ b
  else rep 32 (W - h.length - b.length) ++ h ++ b
def padE (F W P : Int) (h b : List Int) : Int := if chk F W P = 0 then (if 16777216 < h.length + b.length then 3 else 0) else chk F W P
def pad (F W P : Int) (z : Bool) (h b : List Int) : List Int := if padE F W P h b = 0 then padT F W z h b else []
theorem padT_by {F W : Int} {z : Bool} {h b : List Int} (hh : By h) (hb : By b) : By (padT F W z h b) := by
  unfold padT
  split
  · exact (hh.app hb).app (By.rep (by omega))
  · split
    · exact (hh.app (By.rep (by omega))).app hb
    · exact ((By.rep (by omega)).app hh).app hb
theorem padT_zero (F : Int) (z : Bool) (h b : List Int) : padT F 0 z h b = h ++ b := by
  have e : ∀ c, rep c (0 - (h.length : Int) - (b.length : Int)) = [] := fun c => rep_neg (by omega)
  unfold padT
  rw [e, e]
  split
  · simp
  · split <;> simp
theorem padT_len (F W : Int) (z : Bool) (h b : List Int) : (padT F W z h b).length = h.length + b.length + (W - h.length - b.length).toNat := by
  unfold padT
  split
  · simp [rep_len] <;> omega
  · split <;> simp [rep_len] <;> omega

def cut (P : Int) (t : List Int) : List Int := if P = -1 then t else t.take P.toNat
end Wh
end Go.Proofs.YtigmhnlcmhpepaaGreatDoor

namespace Go.Proofs.YtigmhnlcmhpepaaGreatDoor
open Go Go.RowKit Go.Deep Go.Shelf

def jren : Go.Shelf.Ren := ⟨fun | 105 => 141 | 212 => 172 | 99 => 173 | 165 => 140 | 166 => 110 | 170 => 174 | 169 => 111 | 263 => 190 | 264 => 191 | 206 => 192 | 240 => 137 | 241 => 171 | 276 => 170 | 277 => 189 | 158 => 179 | 167 => 109 | 230 => 194 | 203 => 195 | 197 => 159 | 118 => 203 | 168 => 204 | 270 => 205 | 262 => 206 | 260 => 184 | 242 => 215 | 313 => 216 | 278 => 229 | 274 => 230 | 275 => 231 | 137 => 91 | 217 => 108 | 266 => 136 | n => n, fun | 9 => 9 | 3 => 3 | 4 => 4 | 20 => 20 | 0 => 0 | 46 => 102 | 109 => 250 | 5 => 5 | 72 => 186 | 76 => 190 | 51 => 125 | 146 => 262 | 53 => 22 | 148 => 264 | 70 => 184 | 37 => 172 | 75 => 188 | 127 => 173 | 164 => 248 | 80 => 192 | 107 => 268 | 21 => 21 | 105 => 237 | 162 => 294 | 203 => 292 | 119 => 273 | 139 => 276 | 138 => 275 | 160 => 310 | 208 => 322 | 206 => 320 | n => n, fun | 13 => 6 | 3 => 2 | 4 => 3 | n => n⟩
theorem repLays : Go.Proofs.Lays.n105 Tryz.prog jren where
  mixed := by kernel_rfl
  f99 := Tryz.func173.trans (congrArg some (by kernel_rfl))
  f105 := Tryz.func141.trans (congrArg some (by kernel_rfl))
  f165 := Tryz.func140.trans (congrArg some (by kernel_rfl))
  f166 := Tryz.func110.trans (congrArg some (by kernel_rfl))
  f169 := Tryz.func111.trans (congrArg some (by kernel_rfl))
  f170 := Tryz.func174.trans (congrArg some (by kernel_rfl))
  f206 := Tryz.func192.trans (congrArg some (by kernel_rfl))
  f212 := Tryz.func172.trans (congrArg some (by kernel_rfl))
  f240 := Tryz.func137.trans (congrArg some (by kernel_rfl))
  f241 := Tryz.func171.trans (congrArg some (by kernel_rfl))
  f263 := Tryz.func190.trans (congrArg some (by kernel_rfl))
  f264 := Tryz.func191.trans (congrArg some (by kernel_rfl))
  f276 := Tryz.func170.trans (congrArg some (by kernel_rfl))
  f277 := Tryz.func189.trans (congrArg some (by kernel_rfl))
  t0 := by kernel_rfl
  a0 := fun _ => by kernel_rfl
  z0 := fun _ => by kernel_rfl
  v0 := fun _ => by kernel_rfl
  t3 := by kernel_rfl
  a3 := fun _ => by kernel_rfl
  z3 := fun _ => by kernel_rfl
  v3 := fun _ => by kernel_rfl
  t4 := by kernel_rfl
  a4 := fun _ => by kernel_rfl
  z4 := fun _ => by kernel_rfl
  v4 := fun _ => by kernel_rfl
  t5 := by kernel_rfl
  a5 := fun _ => by kernel_rfl
  z5 := fun _ => by kernel_rfl
  v5 := fun _ => by kernel_rfl
  t9 := by kernel_rfl
  a9 := fun _ => by kernel_rfl
  z9 := fun _ => by kernel_rfl
  v9 := fun _ => by kernel_rfl
  t20 := by kernel_rfl
  a20 := fun _ => by kernel_rfl
  z20 := fun _ => by kernel_rfl
  v20 := fun _ => by kernel_rfl
  t37 := by kernel_rfl
  a37 := fun _ => by kernel_rfl
  z37 := fun _ => by kernel_rfl
  v37 := fun _ => by kernel_rfl
  t46 := by kernel_rfl
  a46 := fun _ => by kernel_rfl
  z46 := fun _ => by kernel_rfl
  v46 := fun _ => by kernel_rfl
  t51 := by kernel_rfl
  a51 := fun _ => by kernel_rfl
  z51 := fun _ => by kernel_rfl
  v51 := fun _ => by kernel_rfl
  t53 := by kernel_rfl
  a53 := fun _ => by kernel_rfl
  z53 := fun _ => by kernel_rfl
  v53 := fun _ => by kernel_rfl
  t70 := by kernel_rfl
  a70 := fun _ => by kernel_rfl
  z70 := fun _ => by kernel_rfl
  v70 := fun _ => by kernel_rfl
  t72 := by kernel_rfl
  a72 := fun _ => by kernel_rfl
  z72 := fun _ => by kernel_rfl
  v72 := fun _ => by kernel_rfl
  t75 := by kernel_rfl
  a75 := fun _ => by kernel_rfl
  z75 := fun _ => by kernel_rfl
  v75 := fun _ => by kernel_rfl
  t76 := by kernel_rfl
  a76 := fun _ => by kernel_rfl
  z76 := fun _ => by kernel_rfl
  v76 := fun _ => by kernel_rfl
  t109 := by kernel_rfl
  a109 := fun _ => by kernel_rfl
  z109 := fun _ => by kernel_rfl
  v109 := fun _ => by kernel_rfl
  t127 := by kernel_rfl
  a127 := fun _ => by kernel_rfl
  z127 := fun _ => by kernel_rfl
  v127 := fun _ => by kernel_rfl
  t146 := by kernel_rfl
  a146 := fun _ => by kernel_rfl
  z146 := fun _ => by kernel_rfl
  v146 := fun _ => by kernel_rfl
  t148 := by kernel_rfl
  a148 := fun _ => by kernel_rfl
  z148 := fun _ => by kernel_rfl
  v148 := fun _ => by kernel_rfl
  t164 := by kernel_rfl
  a164 := fun _ => by kernel_rfl
  z164 := fun _ => by kernel_rfl
  v164 := fun _ => by kernel_rfl
theorem jwsLays : Go.Proofs.Lays.n166 Tryz.prog jren where
  mixed := by kernel_rfl
  f166 := Tryz.func110.trans (congrArg some (by kernel_rfl))
  f240 := Tryz.func137.trans (congrArg some (by kernel_rfl))
  f276 := Tryz.func170.trans (congrArg some (by kernel_rfl))
  t0 := by kernel_rfl
  a0 := fun _ => by kernel_rfl
  z0 := fun _ => by kernel_rfl
  v0 := fun _ => by kernel_rfl
  t3 := by kernel_rfl
  a3 := fun _ => by kernel_rfl
  z3 := fun _ => by kernel_rfl
  v3 := fun _ => by kernel_rfl
  t4 := by kernel_rfl
  a4 := fun _ => by kernel_rfl
  z4 := fun _ => by kernel_rfl
  v4 := fun _ => by kernel_rfl
  t9 := by kernel_rfl
  a9 := fun _ => by kernel_rfl
  z9 := fun _ => by kernel_rfl
  v9 := fun _ => by kernel_rfl
  t20 := by kernel_rfl
  a20 := fun _ => by kernel_rfl
  z20 := fun _ => by kernel_rfl
  v20 := fun _ => by kernel_rfl
  t37 := by kernel_rfl
  a37 := fun _ => by kernel_rfl
  z37 := fun _ => by kernel_rfl
  v37 := fun _ => by kernel_rfl
  t70 := by kernel_rfl
  a70 := fun _ => by kernel_rfl
  z70 := fun _ => by kernel_rfl
  v70 := fun _ => by kernel_rfl
  t72 := by kernel_rfl
  a72 := fun _ => by kernel_rfl
  z72 := fun _ => by kernel_rfl
  v72 := fun _ => by kernel_rfl
  t75 := by kernel_rfl
  a75 := fun _ => by kernel_rfl
  z75 := fun _ => by kernel_rfl
  v75 := fun _ => by kernel_rfl
  t164 := by kernel_rfl
  a164 := fun _ => by kernel_rfl
  z164 := fun _ => by kernel_rfl
  v164 := fun _ => by kernel_rfl
theorem idxLays : Go.Proofs.Lays.n137 Tryz.prog jren where
  mixed := by kernel_rfl
  f137 := Tryz.func91.trans (congrArg some (by kernel_rfl))
  f217 := Tryz.func108.trans (congrArg some (by kernel_rfl))
  f266 := Tryz.func136.trans (congrArg some (by kernel_rfl))
  t3 := by kernel_rfl
  a3 := fun _ => by kernel_rfl
  z3 := fun _ => by kernel_rfl
  v3 := fun _ => by kernel_rfl
  t5 := by kernel_rfl
  a5 := fun _ => by kernel_rfl
  z5 := fun _ => by kernel_rfl
  v5 := fun _ => by kernel_rfl
  t9 := by kernel_rfl
  a9 := fun _ => by kernel_rfl
  z9 := fun _ => by kernel_rfl
  v9 := fun _ => by kernel_rfl
theorem jExtra : Builder.Extra Tryz.prog jren where
  sizeBuilder := by kernel_rfl
  liesBuilder := by kernel_rfl
  t5 := by kernel_rfl
  a5 := fun _ => by kernel_rfl
  z5 := fun _ => by kernel_rfl
  v5 := fun _ => by kernel_rfl
  infoByte := by kernel_rfl
  cellsByte := by kernel_rfl
  sizeByte := by kernel_rfl
  neB5 := by decide
end Go.Proofs.YtigmhnlcmhpepaaGreatDoor

namespace Go.Proofs.YtigmhnlcmhpepaaGreatDoor
open Go Go.RowKit Go.Deep

/-- Four cells that may be written. -/
def S4 (w : World) (b : Nat) (v0 v1 v2 v3 : Value) : Prop := w.heap[b]? = some (.cells #[v0, v1, v2, v3] 141 (0, 0))
theorem S4.new (w : World) (v0 v1 v2 v3 : Value) : S4 (w.alloc (.cells #[v0, v1, v2, v3] 141)) w.heap.size v0 v1 v2 v3 := heap_alloc_new w _
theorem S4.lt {w : World} {b : Nat} {v0 v1 v2 v3 : Value} (h : S4 w b v0 v1 v2 v3) : b < w.heap.size := by
  rcases Nat.lt_or_ge b w.heap.size with hl | hl
  · exact hl
  · simp [S4, Array.getElem?_eq_none hl] at h
theorem S4.below {w w' : World} {b : Nat} {v0 v1 v2 v3 : Value} (h : S4 w b v0 v1 v2 v3) (hB : Below w.heap.size w w') : S4 w' b v0 v1 v2 v3 := by
  rw [S4, hB.block b h.lt]; exact h
theorem S4.cells {w : World} {b : Nat} {v0 v1 v2 v3 : Value} (h : S4 w b v0 v1 v2 v3) :
    (w.cell? ⟨b, 0, none⟩ = some v0 ∧ w.cell? ⟨b, 1, none⟩ = some v1 ∧ w.cell? ⟨b, 2, none⟩ = some v2 ∧ w.cell? ⟨b, 3, none⟩ = some v3) ∧
    (w.frozen? ⟨b, 0, none⟩ = false ∧ w.frozen? ⟨b, 1, none⟩ = false ∧ w.frozen? ⟨b, 2, none⟩ = false ∧ w.frozen? ⟨b, 3, none⟩ = false) := by
  simp only [S4] at h
  refine ⟨⟨?_, ?_, ?_, ?_⟩, ⟨?_, ?_, ?_, ?_⟩⟩ <;> simp [World.cell?, World.frozen?, h]
theorem S4.far {w : World} {b c o : Nat} {v v0 v1 v2 v3 : Value} (h : S4 w b v0 v1 v2 v3) (hc : c ≠ b) : S4 (w.setCell ⟨c, o, none⟩ v) b v0 v1 v2 v3 := by
  simp only [S4] at *
  simp only [World.setCell, Array.getElem?_modify]
  rw [if_neg hc]; exact h

/-- A Spec's box among what stays. -/
structure SB (w0 : World) (bx : Nat) (V F W P : Int) (wk : World) : Prop where
  bel : Below w0.heap.size w0 wk
  box : S4 wk bx (.int .u8 V) (.int .i64 F) (.int .i64 W) (.int .i64 P)
theorem SB.new (w : World) (V F W P : Int) : SB w w.heap.size V F W P (w.alloc (.cells #[.int .u8 V, .int .i64 F, .int .i64 W, .int .i64 P] 141)) := ⟨alloc_b w _, S4.new w _ _ _ _⟩
theorem SB.on {w0 wk w' : World} {bx : Nat} {V F W P : Int} (h : SB w0 bx V F W P wk) (k : Below wk.heap.size wk w') : SB w0 bx V F W P w' := ⟨below_on h.bel k, h.box.below k⟩
theorem SB.drew {w0 wk : World} {bx : Nat} {V F W P : Int} (h : SB w0 bx V F W P wk) : SB w0 bx V F W P wk.drew := ⟨h.bel.drew, h.box⟩
theorem SB.flat {w0 wk : World} {bx : Nat} {V F W P : Int} (h : SB w0 bx V F W P wk) : wk.cell? ⟨bx, 0, none⟩ = some (.int .u8 V) ∧ wk.cell? ⟨bx, 1, none⟩ = some (.int .i64 F) ∧ wk.cell? ⟨bx, 2, none⟩ = some (.int .i64 W) ∧ wk.cell? ⟨bx, 3, none⟩ = some (.int .i64 P) := h.box.cells.1
end Go.Proofs.YtigmhnlcmhpepaaGreatDoor

namespace Go.Proofs.YtigmhnlcmhpepaaGreatDoor
open Go.RowKit Go.Deep

theorem wpList_append_b {ty : TypeId} {ops : Array Oper} {rest : List Oper} {o : Oper} {a : Act} {Q : Exit → Act → World → Prop} (hgd : o.guard = none) (s x : Operand)
    (ho : o.op = .call { callee := .builtin .append, args := #[s, x], argTypes := #[ty, ty] }) {v y v' : Value} {w w' : World} (hr : (Builtin.append_ #[ty, ty] o.type #[v, y]).run Tryz.prog w = .ok v' w') (hs : a.eval s = v) (hx : a.eval x = y)
    (h : wpList Tryz.prog ops Q rest (a.put o.dst v') w') : wpList Tryz.prog ops Q (o :: rest) a w := by
  refine wpList_plain hgd fun K hK => ?_
  unfold Oper.wp execOp
  simp only [ho, resolve, invoke, builtin, Sem.run_bind, Sem.run_pure, Result.andThen_ok, List.map_toArray, List.map_cons, List.map_nil, hs, hx, hr]
  exact hK _ _ h

/-- The bytes, in a block of our own from base on. -/
def Row8 (base : Nat) (w : World) (mv : Value) (xs : List Int) : Prop := w.ownsRow base 5 1 mv xs.length (xs.map (Value.int .u8))

theorem Row8.below {base : Nat} {w w' : World} {mv : Value} {xs : List Int} (h : Row8 base w mv xs) (hb : Below w.heap.size w w') : Row8 base w' mv xs :=
  World.ownsRow.kept (row := none) h ⟨hb.os, hb.tape, hb.output, hb.size, fun j hj _ => hb.block j hj⟩ (by cases h : Value.ownBlock mv <;> simp)

theorem Row8.push {base : Nat} {w : World} {mv : Value} {xs : List Int} (ho : Row8 base w mv xs) (x : Int) (hn : xs.length < 140737488351232) (hb : base ≤ w.heap.size) :
    ∃ mv' w', (Builtin.append_ #[172, 172] 172 #[mv, .slice (some ⟨w.heap.size, 0, none⟩) 1 1]).run Tryz.prog (w.alloc (.cells #[.int .u8 x] 5)) = .ok mv' w' ∧ Row8 base w' mv' (xs ++ [x]) ∧ w.heap.size ≤ w'.heap.size ∧
      Below base w w' ∧ (∀ j, j < w.heap.size → some j ≠ mv.ownBlock → w'.heap[j]? = w.heap[j]?) := by
  obtain ⟨i, hi, hz⟩ := Option.map_eq_some_iff.1 info8
  simp only [Prod.mk.injEq] at hz
  obtain ⟨z1, z2, z3⟩ := hz
  have bm : Below w.heap.size w (w.alloc (.cells #[.int .u8 x] 5)) := (Below.refl _ _).alloc (Nat.le_refl _) _
  have hs : (w.alloc (.cells #[.int .u8 x] 5)).heap.size = w.heap.size + 1 := World.size_alloc _ _
  have ho' := World.ownsRow.alloc ho (.cells #[.int .u8 x] 5)
  have hcell : (w.alloc (.cells #[.int .u8 x] 5)).cell? ⟨w.heap.size, 0, none⟩ = some (.int .u8 x) :=
    (OwnB.alloc w [x]).cell 0 (by simp)
  obtain ⟨v', w', hr, h1, h2, _⟩ := run_append_own (P := Tryz.prog) (w.alloc (.cells #[.int .u8 x] 5)) base 172 172 5 i (.int .u8 0) 1 1 Tryz.underlying172 hi z1 z2 z3 rfl (by omega) mv xs.length (xs.map (Value.int .u8)) ho'
    ⟨w.heap.size, 0, none⟩ 1 1 [.int .u8 x] rfl (fun j u hu => by
      cases j with
      | zero =>
        simp at hu
        subst hu
        rw [Go.WideShapes.add_plain]
        exact hcell
      | succ j => simp at hu) (fun u hu => by simp at hu; subst hu; rfl) (by simp only [maxLen]; omega) (by omega) (by rw [hs]; omega)
  refine ⟨v', w', hr, by simpa [Row8] using h1, by have := h2.size; omega, ?_, fun j hj hne => ?_⟩
  · have hb2 : Below base (w.alloc (.cells #[.int .u8 x] 5)) w' := by
      refine ⟨h2.os, h2.tape, h2.output, h2.size, fun j hj => h2.block j (by rw [hs]; omega) ?_⟩
      intro hk
      have := (ho'.lt j hk.symm).1
      omega
    exact (bm.mono hb).trans hb2
  · rw [h2.block j (by rw [hs]; omega) hne]
    exact bm.block j hj

/-- The row's shape. -/
theorem Row8.shape {base : Nat} {w : World} {mv : Value} {xs : List Int} (h : Row8 base w mv xs) : ∃ pm cp, mv = .slice pm xs.length cp := by
  rcases h.2 with ⟨rfl, h0⟩ | ⟨g, cp, cur, rfl, _⟩
  · exact ⟨none, 0, by rw [h0]⟩
  · exact ⟨_, cp, rfl⟩

/-- string(b) of such a row that has an address. -/
theorem Row8.cells {base : Nat} {w : World} {mv : Value} {xs : List Int} (h : Row8 base w mv xs) (h0 : xs ≠ []) : ∃ g cp, mv = .slice (some ⟨g, 0, none⟩) xs.length cp ∧ ∀ i, i < xs.length → w.cell? ⟨g, 0 + i, none⟩ = some (.int .u8 (xs.getD i 0)) := by
  rcases h.2 with ⟨rfl, hn⟩ | ⟨g, cp, cur, rfl, _⟩
  · exact absurd (List.eq_nil_of_length_eq_zero hn) h0
  · refine ⟨g, cp, rfl, fun i hi => ?_⟩
    have := World.ownsRow.cells h (g := g) rfl i (.int .u8 (xs.getD i 0)) (by simp [List.getD, hi])
    rw [Go.WideShapes.add_plain] at this
    exact this
end Go.Proofs.YtigmhnlcmhpepaaGreatDoor

namespace Go.Proofs.YtigmhnlcmhpepaaGreatDoor
open Go Go.RowKit Go.Deep Go.Shelf

theorem xtab10_below {w w' : World} (h : Tab10 w) (k : Below w.heap.size w w') : Tab10 w' := by
  unfold Tab10 Lib.TabIs World.var? at *
  cases hg : Tryz.prog.globalNamed "internal/strconv.uint64pow10" with
  | none => rw [hg] at h; simp at h
  | some g =>
    rw [hg] at h
    simp only [Option.bind_some] at h ⊢
    have hl : g < w.heap.size := by
      rcases Nat.lt_or_ge g w.heap.size with c | c
      · exact c
      · rw [Array.getElem?_eq_none c] at h; simp at h
    rw [k.block g hl]; exact h
theorem Tab10.bel {w w' : World} (h : Tab10 w) (k : Below w.heap.size w w') : Tab10 w' := xtab10_below h k
end Go.Proofs.YtigmhnlcmhpepaaGreatDoor

namespace Go.Proofs.YtigmhnlcmhpepaaGreatDoor
open Go Go.RowKit Go.Deep

theorem tab_laid : (Rows.laid_math_bits_deBruijn64tab : DataW Unit) = Lib.tabData .u8 (List.map Int.ofNat Lib.deBruijn64tab) := by kernel_rfl

theorem tab_of {W : World} {rest : List (String × DataW Unit)} (h : laidMet Tryz.prog (("math/bits.deBruijn64tab", Rows.laid_math_bits_deBruijn64tab) :: rest) W) : Tab W := by
  rw [tab_laid] at h
  have ht := Lib.tabIs_of_head (g := 5) (t := 279) (e := 5) (n := 64) (k := .u8) (zs := List.map Int.ofNat Lib.deBruijn64tab) (by kernel_rfl) (by kernel_rfl) Tryz.underlying279 Tryz.underlying5 (by kernel_rfl) (by kernel_rfl) h
  intro j hj
  have hl : (List.map Int.ofNat Lib.deBruijn64tab).length = Lib.deBruijn64tab.length := by simp
  rw [ht.cell (g := 5) (by kernel_rfl) j (by omega)]
  simp [List.getD, hj]

end Go.Proofs.YtigmhnlcmhpepaaGreatDoor

namespace Go.Proofs.YtigmhnlcmhpepaaGreatDoor
open Go Go.RowKit Go.Deep

theorem laid_tail12 {P : Program} {W : World} {x : String × DataW Unit} {rest : List (String × DataW Unit)} (h : laidMet P (x :: rest) W) : laidMet P rest W := by
  obtain ⟨ps, ⟨g, t, cs, fuel, p, q, _, _, _, _, hr, rfl⟩, hn, hc⟩ := h
  exact ⟨q, hr, (List.nodup_append.1 hn).2.1, fun b off hm => hc b off (List.mem_append_right _ hm)⟩

theorem pow_laid12 : (Rows.laid_internal_strconv_uint64pow10 : DataW Unit) = Lib.tabData .u64 Lib.pow10Tab := by kernel_rfl

theorem tables12 {W : World} {a : String × DataW Unit} {rest : List (String × DataW Unit)} (h : laidMet Tryz.prog (a :: ("math/bits.deBruijn64tab", Rows.laid_math_bits_deBruijn64tab) :: ("internal/strconv.uint64pow10", Rows.laid_internal_strconv_uint64pow10) :: rest) W) : Tab W ∧ Tab10 W := by
  have h1 := laid_tail12 h
  have h2 := laid_tail12 h1
  rw [pow_laid12] at h2
  exact ⟨tab_of h1, Lib.tabIs_of_head (g := 1) (t := 242) (e := 22) (n := 20) (by kernel_rfl) (by kernel_rfl) Tryz.underlying242 Tryz.underlying22 (by kernel_rfl) (by kernel_rfl) h2⟩
end Go.Proofs.YtigmhnlcmhpepaaGreatDoor
