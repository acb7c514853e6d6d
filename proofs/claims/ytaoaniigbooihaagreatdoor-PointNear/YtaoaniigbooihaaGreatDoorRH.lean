/-
  Texts put together: VRead0, VRead, VNumb, PoPl, LNum3, LNum4.
-/
import Derived.Test.YtaoaniigbooihaaGreatDoorRG
import Derived.Laws.ResultCell
import Derived.BigRegion
import Derived.Deep.Cut
import Derived.Deep.RegionHeld3
import Derived.Test.YtaoaniigbooihaaGreatDoorRE
import Derived.BigQuiet
import Derived.Test.YtaoaniigbooihaaGreatDoorLNum2
namespace Go.Proofs.YtaoaniigbooihaaGreatDoor
open Go Go.RowKit Go.Deep


/-- The room for the answer, empty; the literal in its box. -/
def RM (w w' : World) (neg : Bool) (A B : ByteArray) (sc en : Int) : Prop :=
  Below w.heap.size w w' ∧ Row5 w' w.heap.size 71 (.bool false) (.string ⟨#[]⟩) (.string ⟨#[]⟩) (.int .i64 0) (.int .i64 0) ∧ Row5 w' (w.heap.size + 1) 71 (.bool neg) (.string A) (.string B) (.int .i64 sc) (.int .i64 en)

theorem RM.new (w : World) (neg : Bool) : RM w ((w.alloc (.cells #[.bool false, .string ⟨#[]⟩, .string ⟨#[]⟩, .int .i64 0, .int .i64 0] 71)).alloc (.cells #[.bool neg, .string ⟨#[]⟩, .string ⟨#[]⟩, .int .i64 0, .int .i64 0] 71)) neg ⟨#[]⟩ ⟨#[]⟩ 0 0 := by
  refine ⟨below_on (alloc_b _ _) (alloc_b _ _), heap_alloc2_old _ _ _, heap_alloc2_new _ _ _⟩

theorem RM.cells {w w' : World} {neg : Bool} {A B : ByteArray} {sc en : Int} (h : RM w w' neg A B sc en) :
    (w'.cell? ⟨w.heap.size + 1, 0, none⟩ = some (.bool neg) ∧ w'.cell? ⟨w.heap.size + 1, 1, none⟩ = some (.string A) ∧ w'.cell? ⟨w.heap.size + 1, 2, none⟩ = some (.string B) ∧ w'.cell? ⟨w.heap.size + 1, 3, none⟩ = some (.int .i64 sc) ∧ w'.cell? ⟨w.heap.size + 1, 4, none⟩ = some (.int .i64 en)) ∧
    (w'.frozen? ⟨w.heap.size + 1, 0, none⟩ = false ∧ w'.frozen? ⟨w.heap.size + 1, 1, none⟩ = false ∧ w'.frozen? ⟨w.heap.size + 1, 2, none⟩ = false ∧ w'.frozen? ⟨w.heap.size + 1, 3, none⟩ = false ∧ w'.frozen? ⟨w.heap.size + 1, 4, none⟩ = false) := h.2.2.cells
theorem RM.room {w w' : World} {neg : Bool} {A B : ByteArray} {sc en : Int} (h : RM w w' neg A B sc en) :
    (w'.cell? ⟨w.heap.size, 0, none⟩ = some (.bool false) ∧ w'.cell? ⟨w.heap.size, 1, none⟩ = some (.string ⟨#[]⟩) ∧ w'.cell? ⟨w.heap.size, 2, none⟩ = some (.string ⟨#[]⟩) ∧ w'.cell? ⟨w.heap.size, 3, none⟩ = some (.int .i64 0) ∧ w'.cell? ⟨w.heap.size, 4, none⟩ = some (.int .i64 0)) ∧
    (w'.frozen? ⟨w.heap.size, 0, none⟩ = false ∧ w'.frozen? ⟨w.heap.size, 1, none⟩ = false ∧ w'.frozen? ⟨w.heap.size, 2, none⟩ = false ∧ w'.frozen? ⟨w.heap.size, 3, none⟩ = false ∧ w'.frozen? ⟨w.heap.size, 4, none⟩ = false) := h.2.1.cells
theorem RM.ahead {w w' : World} {neg : Bool} {A B : ByteArray} {sc en : Int} (h : RM w w' neg A B sc en) (A' : ByteArray) : RM w (w'.setCell ⟨w.heap.size + 1, 1, none⟩ (.string A')) neg A' B sc en :=
  ⟨h.1.setCell (p := ⟨w.heap.size + 1, 1, none⟩) (Nat.le_succ _) _, h.2.1.set_far (by omega), set1 h.2.2 (by simp [Array.setIfInBounds])⟩
theorem RM.behind {w w' : World} {neg : Bool} {A B : ByteArray} {sc en : Int} (h : RM w w' neg A B sc en) (B' : ByteArray) : RM w (w'.setCell ⟨w.heap.size + 1, 2, none⟩ (.string B')) neg A B' sc en :=
  ⟨h.1.setCell (p := ⟨w.heap.size + 1, 2, none⟩) (Nat.le_succ _) _, h.2.1.set_far (by omega), set1 h.2.2 (by simp [Array.setIfInBounds])⟩
theorem RM.scale {w w' : World} {neg : Bool} {A B : ByteArray} {sc en : Int} (h : RM w w' neg A B sc en) (x : Int) : RM w (w'.setCell ⟨w.heap.size + 1, 3, none⟩ (.int .i64 x)) neg A B x en :=
  ⟨h.1.setCell (p := ⟨w.heap.size + 1, 3, none⟩) (Nat.le_succ _) _, h.2.1.set_far (by omega), set1 h.2.2 (by simp [Array.setIfInBounds])⟩
theorem RM.en {w w' : World} {neg : Bool} {A B : ByteArray} {sc en : Int} (h : RM w w' neg A B sc en) (x : Int) : RM w (w'.setCell ⟨w.heap.size + 1, 4, none⟩ (.int .i64 x)) neg A B sc x :=
  ⟨h.1.setCell (p := ⟨w.heap.size + 1, 4, none⟩) (Nat.le_succ _) _, h.2.1.set_far (by omega), set1 h.2.2 (by simp [Array.setIfInBounds])⟩
theorem RM.drew {w w' : World} {neg : Bool} {A B : ByteArray} {sc en : Int} (h : RM w w' neg A B sc en) (n : Nat) : RM w (w'.drewN n) neg A B sc en := ⟨below_drewN h.1 n, h.2.1, h.2.2⟩

theorem RM.drew1 {w w' : World} {neg : Bool} {A B : ByteArray} {sc en : Int} (h : RM w w' neg A B sc en) : RM w w'.drew neg A B sc en := h.drew 1

def litV (neg : Bool) (A B : ByteArray) (sc en : Int) : Value := .agg #[.bool neg, .string A, .string B, .int .i64 sc, .int .i64 en]

theorem RM.put {w w' : World} {neg : Bool} {A B : ByteArray} {sc en : Int} (h : RM w w' neg A B sc en) (v0 v1 v2 v3 v4 : Value) :
    (((((w'.setCell ⟨w.heap.size, 0, none⟩ v0).setCell ⟨w.heap.size, 1, none⟩ v1).setCell ⟨w.heap.size, 2, none⟩ v2).setCell ⟨w.heap.size, 3, none⟩ v3).setCell ⟨w.heap.size, 4, none⟩ v4).heap[w.heap.size]? = some (.cells #[v0, v1, v2, v3, v4] 71 (0, 0)) ∧
    Below w.heap.size w (((((w'.setCell ⟨w.heap.size, 0, none⟩ v0).setCell ⟨w.heap.size, 1, none⟩ v1).setCell ⟨w.heap.size, 2, none⟩ v2).setCell ⟨w.heap.size, 3, none⟩ v3).setCell ⟨w.heap.size, 4, none⟩ v4) := by
  have h0 := set1 (o := 0) (v := v0) (c' := #[v0, .string ⟨#[]⟩, .string ⟨#[]⟩, .int .i64 0, .int .i64 0]) h.2.1 (by simp [Array.setIfInBounds])
  have h1 := set1 (o := 1) (v := v1) (c' := #[v0, v1, .string ⟨#[]⟩, .int .i64 0, .int .i64 0]) h0 (by simp [Array.setIfInBounds])
  have h2 := set1 (o := 2) (v := v2) (c' := #[v0, v1, v2, .int .i64 0, .int .i64 0]) h1 (by simp [Array.setIfInBounds])
  have h3 := set1 (o := 3) (v := v3) (c' := #[v0, v1, v2, v3, .int .i64 0]) h2 (by simp [Array.setIfInBounds])
  exact ⟨set1 (o := 4) (v := v4) (c' := #[v0, v1, v2, v3, v4]) h3 (by simp [Array.setIfInBounds]), ((((h.1.setCell (p := ⟨w.heap.size, 0, none⟩) (Nat.le_refl _) v0).setCell (p := ⟨w.heap.size, 1, none⟩) (Nat.le_refl _) v1).setCell (p := ⟨w.heap.size, 2, none⟩) (Nat.le_refl _) v2).setCell (p := ⟨w.heap.size, 3, none⟩) (Nat.le_refl _) v3).setCell (p := ⟨w.heap.size, 4, none⟩) (Nat.le_refl _) v4⟩

/-- What read tells. -/
def RdTold (xs : List Int) (k : Nat) (w : World) (e : Ending) (w' : World) : Prop :=
  ((Sc.some? xs k ∧ ∃ A B, e = .returned (.tuple #[litV (Sc.lit xs k).neg A B (Sc.lit xs k).sc (Sc.lit xs k).en, .bool true]) ∧ Str A (Sc.lit xs k).ah ∧ Str B (Sc.lit xs k).bh) ∨
    (¬ Sc.some? xs k ∧ e = .returned (.tuple #[litV false ⟨#[]⟩ ⟨#[]⟩ 0 0, .bool false]))) ∧ Below w.heap.size w w'

/-- What holds at each label: 0 ahead, 2 behind, 1 number, 3 exponent. -/
inductive RI (xs : List Int) (k : Nat) (w w' : World) : Nat → Nat → Value → Value → Prop
  | ahead (j : Nat) (bel : Value) (h1 : Sc.p1 xs k ≤ j) (h2 : j + Sc.run Sc.dg xs j = Sc.p2 xs k) (m : RM w w' (decide (Sc.pk xs k = 45)) ⟨#[]⟩ ⟨#[]⟩ 0 0) : RI xs k w w' 0 j bel (.int .i64 (Sc.p1 xs k : Nat))
  | behind (j : Nat) (bel : Value) (A : ByteArray) (hA : Str A (Sc.lit xs k).ah) (hp : Sc.pk xs (Sc.p2 xs k) = 46) (h1 : Sc.p2 xs k + 1 ≤ j) (h2 : j + Sc.run Sc.dg xs j = Sc.p3 xs k) (m : RM w w' (decide (Sc.pk xs k = 45)) A ⟨#[]⟩ 0 0) : RI xs k w w' 2 j bel (.int .i64 ((Sc.p2 xs k + 1 : Nat) : Int))
  | number (bel frm : Value) (A B : ByteArray) (hA : Str A (Sc.lit xs k).ah) (hB : Str B (Sc.lit xs k).bh) (m : RM w w' (decide (Sc.pk xs k = 45)) A B 0 0) : RI xs k w w' 1 (Sc.p3 xs k) bel frm
  | power (j : Nat) (frm : Value) (A B : ByteArray) (hs : Sc.some? xs k) (hA : Str A (Sc.lit xs k).ah) (hB : Str B (Sc.lit xs k).bh) (he : Sc.hasE xs (Sc.p3 xs k) = true) (h1 : Sc.p4 xs (Sc.p3 xs k) ≤ j) (h2 : j + Sc.run Sc.dg xs j = Sc.p4 xs (Sc.p3 xs k) + Sc.run Sc.dg xs (Sc.p4 xs (Sc.p3 xs k)))
      (m : RM w w' (decide (Sc.pk xs k = 45)) A B (Sc.cap ((xs.drop (Sc.p4 xs (Sc.p3 xs k))).take (j - Sc.p4 xs (Sc.p3 xs k)))) (Sc.p3 xs k : Nat)) : RI xs k w w' 3 j (.bool (decide (Sc.pk xs (Sc.p3 xs k + 1) = 45))) frm

theorem frame_all (a : Act) (h : a.tmps.size = 109) (hd : a.defers = []) : ∃ u : Nat → Value, a = { tmps := #[u 0, u 1, u 2, u 3, u 4, u 5, u 6, u 7, u 8, u 9, u 10, u 11, u 12, u 13, u 14, u 15, u 16, u 17, u 18, u 19, u 20, u 21, u 22, u 23, u 24, u 25, u 26, u 27, u 28, u 29, u 30, u 31, u 32, u 33, u 34, u 35, u 36, u 37, u 38, u 39, u 40, u 41, u 42, u 43, u 44, u 45, u 46, u 47, u 48, u 49, u 50, u 51, u 52, u 53, u 54, u 55, u 56, u 57, u 58, u 59, u 60, u 61, u 62, u 63, u 64, u 65, u 66, u 67, u 68, u 69, u 70, u 71, u 72, u 73, u 74, u 75, u 76, u 77, u 78, u 79, u 80, u 81, u 82, u 83, u 84, u 85, u 86, u 87, u 88, u 89, u 90, u 91, u 92, u 93, u 94, u 95, u 96, u 97, u 98, u 99, u 100, u 101, u 102, u 103, u 104, u 105, u 106, u 107, u 108], defers := [] } := by
  refine ⟨fun i => a.tmps.toList.getD i undef, ?_⟩
  obtain ⟨⟨l⟩, d⟩ := a
  simp only at hd h
  subst hd
  have e : l = (List.range 109).map (fun i => l.getD i undef) := by
    have h' : l.length = 109 := h
    apply List.ext_getElem
    · simp [h']
    · intro i h1 h2
      simp [List.getD, h1]
  conv => lhs; rw [e]
  rfl
def RJ (s : ByteArray) (xs : List Int) (k : Nat) (w : World) (l : Nat) (a : Act) (w' : World) : Prop :=
  a.tmps.size = 109 ∧ a.defers = [] ∧ ∃ (at_ : Int) (bel frm : Value), a.tmps.getD 0 undef = .string s ∧ a.tmps.getD 1 undef = .int .i64 at_ ∧ a.tmps.getD 4 undef = .pointer (some ⟨w.heap.size, 0, none⟩) ∧ a.tmps.getD 6 undef = .pointer (some ⟨w.heap.size + 1, 0, none⟩) ∧ a.tmps.getD 7 undef = bel ∧ a.tmps.getD 8 undef = frm ∧ ∃ j : Nat, at_ = j ∧ RI xs k w w' l j bel frm
theorem RJ.open {s : ByteArray} {xs : List Int} {k : Nat} {w : World} {l : Nat} {a : Act} {w' : World} (h : RJ s xs k w l a w') : ∃ (u : Nat → Value) (j : Nat) (bel frm : Value), a = { tmps := #[.string s, .int .i64 j, u 2, u 3, .pointer (some ⟨w.heap.size, 0, none⟩), u 5, .pointer (some ⟨w.heap.size + 1, 0, none⟩), bel, frm, u 9, u 10, u 11, u 12, u 13, u 14, u 15, u 16, u 17, u 18, u 19, u 20, u 21, u 22, u 23, u 24, u 25, u 26, u 27, u 28, u 29, u 30, u 31, u 32, u 33, u 34, u 35, u 36, u 37, u 38, u 39, u 40, u 41, u 42, u 43, u 44, u 45, u 46, u 47, u 48, u 49, u 50, u 51, u 52, u 53, u 54, u 55, u 56, u 57, u 58, u 59, u 60, u 61, u 62, u 63, u 64, u 65, u 66, u 67, u 68, u 69, u 70, u 71, u 72, u 73, u 74, u 75, u 76, u 77, u 78, u 79, u 80, u 81, u 82, u 83, u 84, u 85, u 86, u 87, u 88, u 89, u 90, u 91, u 92, u 93, u 94, u 95, u 96, u 97, u 98, u 99, u 100, u 101, u 102, u 103, u 104, u 105, u 106, u 107, u 108], defers := [] } ∧ RI xs k w w' l j bel frm := by
  obtain ⟨h1, h2, at_, bel, frm, e0, e1, e4, e6, e7, e8, j, rfl, I⟩ := h
  obtain ⟨u, rfl⟩ := frame_all a h1 h2
  refine ⟨u, j, bel, frm, ?_, I⟩
  have e0' : u 0 = .string s := e0
  have e1' : u 1 = .int .i64 j := e1
  have e4' : u 4 = .pointer (some ⟨w.heap.size, 0, none⟩) := e4
  have e6' : u 6 = .pointer (some ⟨w.heap.size + 1, 0, none⟩) := e6
  have e7' : u 7 = bel := e7
  have e8' : u 8 = frm := e8
  rw [e0', e1', e4', e6', e7', e8']

def rk : Nat → Nat
  | 0 => 3
  | 2 => 2
  | 1 => 1
  | _ => 0
def rmu (xs : List Int) (l : Nat) (a : Act) (_ : World) : Nat := rk l * (xs.length + 3) + (xs.length + 2 - (match a.tmps.getD 1 undef with | .int _ q => q.toNat | _ => 0))

theorem wp_scope_falls {P : Program} {a : Act} {w : World} {Q : Exit → Act → World → Prop} {c : Code} (J : Nat → Act → World → Prop) (μ : Nat → Act → World → Nat)
    (first : (∀ l' a' w' b', J l' a' w' → findLabel c l' = some (.seq .skip b') → b'.wp P (Exit.jumps J Q) a' w') → c.wp P (Exit.jumps J Q) a w)
    (pass : ∀ l a w, J l a w → ∃ b, findLabel c l = some (.seq .skip b) ∧ ((∀ l' a' w' b', J l' a' w' → μ l' a' w' < μ l a w → findLabel c l' = some (.seq .skip b') → b'.wp P (Exit.jumps (fun l' a' w' => J l' a' w' ∧ μ l' a' w' < μ l a w) Q) a' w') → b.wp P (Exit.jumps (fun l' a' w' => J l' a' w' ∧ μ l' a' w' < μ l a w) Q) a w)) : (Code.scope c).wp P Q a w := by
  have key : ∀ n l a w, μ l a w = n → J l a w → ∃ b, findLabel c l = some (.seq .skip b) ∧ b.wp P (Exit.jumps (fun l' a' w' => J l' a' w' ∧ μ l' a' w' < n) Q) a w := by
    intro n
    induction n using Nat.strongRecOn with
    | _ n ih =>
      intro l a w hn hJ
      obtain ⟨rest, hf, hp⟩ := pass l a w hJ
      rw [hn] at hp
      refine ⟨rest, hf, hp fun l' a' w' rest' hJ' hlt hf' => ?_⟩
      obtain ⟨r2, hf2, h2⟩ := ih _ hlt l' a' w' rfl hJ'
      rw [hf'] at hf2
      cases hf2
      refine wp_mono h2 fun e a1 w1 hq => ?_
      cases e <;> first | exact hq | exact ⟨hq.1, by have := hq.2; omega⟩
  refine wp_scope_labels J μ (first fun l' a' w' rest' hJ' hf' => ?_) fun l a w hJ => ?_
  · obtain ⟨r2, hf2, h2⟩ := key _ l' a' w' rfl hJ'
    rw [hf'] at hf2
    cases hf2
    refine wp_mono h2 fun e a1 w1 hq => ?_
    cases e <;> first | exact hq | exact hq.1
  · obtain ⟨b, hf, hb⟩ := key _ l a w rfl hJ
    exact ⟨_, hf, wp_seq (wp_skip hb)⟩

theorem rd_some {xs : List Int} {k : Nat} {w w' : World} {A B : ByteArray} {sc en : Int} (hs : Sc.some? xs k) (hA : Str A (Sc.lit xs k).ah) (hB : Str B (Sc.lit xs k).bh) (h1 : sc = (Sc.lit xs k).sc) (h2 : en = ((Sc.lit xs k).en : Nat)) (b : Below w.heap.size w w') :
    RdTold xs k w (.returned (.tuple #[.agg #[.bool (decide (Sc.pk xs k = 45)), .string A, .string B, .int .i64 sc, .int .i64 en], .bool true])) w' := by
  subst h1 h2
  exact ⟨.inl ⟨hs, A, B, rfl, hA, hB⟩, b⟩
theorem rd_none {xs : List Int} {k : Nat} {w w' : World} (hs : ¬ Sc.some? xs k) (b : Below w.heap.size w w') :
    RdTold xs k w (.returned (.tuple #[.agg #[.bool false, .string ⟨#[]⟩, .string ⟨#[]⟩, .int .i64 0, .int .i64 0], .bool false])) w' := ⟨.inr ⟨hs, rfl⟩, b⟩
theorem isE_t {x : Int} (h : Sc.isE x = true) : x = 101 ∨ x = 69 := by simpa [Sc.isE] using h
theorem isE_f {x : Int} (h : Sc.isE x = false) : x ≠ 101 ∧ x ≠ 69 := by simpa [Sc.isE] using h
theorem sc_none {xs : List Int} {k : Nat} (h : Sc.hasE xs (Sc.p3 xs k) = false) : (0 : Int) = (Sc.lit xs k).sc ∧ ((Sc.p3 xs k : Nat) : Int) = ((Sc.lit xs k).en : Nat) := by
  unfold Sc.lit; simp [h]
theorem sc_some {xs : List Int} {k : Nat} (h : Sc.hasE xs (Sc.p3 xs k) = true) : (Sc.lit xs k).sc = (if Sc.pk xs (Sc.p3 xs k + 1) = 45 then - Sc.cap ((xs.drop (Sc.p4 xs (Sc.p3 xs k))).take (Sc.run Sc.dg xs (Sc.p4 xs (Sc.p3 xs k)))) else Sc.cap ((xs.drop (Sc.p4 xs (Sc.p3 xs k))).take (Sc.run Sc.dg xs (Sc.p4 xs (Sc.p3 xs k))))) ∧ (Sc.lit xs k).en = Sc.p4 xs (Sc.p3 xs k) + Sc.run Sc.dg xs (Sc.p4 xs (Sc.p3 xs k)) := by
  unfold Sc.lit; simp [h]
theorem ah_len {xs : List Int} {k : Nat} {A : ByteArray} (hA : Str A (Sc.lit xs k).ah) : A.size = Sc.run Sc.dg xs (Sc.p1 xs k) := by
  rw [hA.size]
  have := Sc.run_le Sc.dg xs (Sc.p1 xs k)
  show ((xs.drop _).take _).length = _
  simp; omega
theorem bh_len {xs : List Int} {k : Nat} {B : ByteArray} (hB : Str B (Sc.lit xs k).bh) : B.size = Sc.bn xs k := by
  rw [hB.size]
  show ((xs.drop _).take _).length = _
  have h1 : Sc.bn xs k ≤ xs.length - (Sc.p2 xs k + 1) := by
    unfold Sc.bn
    split
    · exact Sc.run_le _ _ _
    · omega
  simp; omega
theorem cap_more {xs : List Int} {v j : Nat} (h : v ≤ j) (hj : j < xs.length) : Sc.cap ((xs.drop v).take (j + 1 - v)) = min (10 * Sc.cap ((xs.drop v).take (j - v)) + (Sc.pk xs j - 48)) 1000000000000000 := by
  have e := Sc.take_snoc (xs := xs) (v := v) (c := j - v) (by omega)
  rw [show j + 1 - v = j - v + 1 by omega, e, Sc.cap_snoc, show v + (j - v) = j by omega]
theorem cap_bd {xs : List Int} {v j : Nat} (h : v ≤ j) (hr : j + Sc.run Sc.dg xs j = v + Sc.run Sc.dg xs v) : 0 ≤ Sc.cap ((xs.drop v).take (j - v)) ∧ Sc.cap ((xs.drop v).take (j - v)) ≤ 1000000000000000 := by
  apply Sc.cap_b
  intro x hx
  obtain ⟨i, hi, rfl⟩ := List.mem_iff_getElem.1 hx
  rw [List.length_take, List.length_drop] at hi
  have := Sc.run_all (p := Sc.dg) (xs := xs) (i := v) i (by omega)
  have e : Sc.pk xs (v + i) = ((xs.drop v).take (j - v))[i] := by
    have hi2 : v + i < xs.length := by omega
    simp [Sc.pk, List.getD, hi2]
  rw [← e]; exact this
end Go.Proofs.YtaoaniigbooihaaGreatDoor

namespace Go.Proofs.YtaoaniigbooihaaGreatDoor
open Go Go.RowKit Go.Deep

set_option maxRecDepth 100000 in
set_option maxHeartbeats 4000000 in
theorem vread_any (s : ByteArray) (xs : List Int) (k : Nat) (w : World) (hs : Str s xs) (hn : xs.length ≤ 562949953421312) (hk : k ≤ xs.length) : Calls Tryz.prog 37 #[.string s, .int .i64 k] w fun e w' => RdTold xs k w e w' := by
  have PK := hid (fun (j : Nat) (wx : World) => peek_any s xs j wx hs hn)
  have DG := hid (fun (j : Nat) (wx : World) => digit_any (Sc.pk xs j) wx (hs.atb j).1 (hs.atb j).2)
  have PS : Hid (∀ (j p : Nat) (wx : World), p = j + Sc.sg xs j → j ≤ xs.length + 1 → Calls Tryz.prog 66 #[.string s, .int .i64 j] wx fun e w' => e = .returned (.int .i64 (p : Int)) ∧ w' = wx) := fun j p wx hp hj => by subst hp; exact past_any s xs j wx hs hn hj
  have PKz : Hid (∀ (z : Int) (j : Nat) (wx : World), z = j → Calls Tryz.prog 65 #[.string s, .int .i64 z] wx fun e w' => e = .returned (.int .u8 (Sc.pk xs j)) ∧ w' = wx) := fun z j wx hz => by subst hz; exact peek_any s xs j wx hs hn
  have PSz : Hid (∀ (z : Int) (j p : Nat) (wx : World), z = j → p = j + Sc.sg xs j → j ≤ xs.length + 1 → Calls Tryz.prog 66 #[.string s, .int .i64 z] wx fun e w' => e = .returned (.int .i64 (p : Int)) ∧ w' = wx) := fun z j p wx hz hp hj => by subst hz hp; exact past_any s xs j wx hs hn hj
  have HS := hid hs
  have HN := hid hn
  have HK := hid hk
  have hsz := hs.size
  have BE := hid (Sc.en_le xs k hk)
  have B1 := hid (Sc.p1_le xs k hk)
  have B2 := hid (Sc.p2_le xs k hk)
  have B3 := hid (Sc.p3_le xs k hk)
  have B12 : Hid (Sc.p1 xs k ≤ Sc.p2 xs k) := by show _ ≤ _; unfold Sc.p2; omega
  have B23 := hid (Sc.p2_p3 xs k)
  clear hs hn hk
  go_enter Tryz.func37, Tryz.ntmps37
  go_wp2_with fail
  refine wp_scope_falls (RJ s xs k w) (rmu xs) (fun F => ?_) ?_
  · replace F := hid F
    go_wp2_with fail
    refine (PK.out k _).mono ?_
    rintro e w1 ⟨rfl, rfl⟩
    go_wp2_with fail
    refine (PS.out k (Sc.p1 xs k) _ rfl (by have := HK.out; omega)).mono ?_
    rintro e w1 ⟨rfl, rfl⟩
    go_wp2_with fail
    go_step3
    (try simp only [Exit.then])
    rename_i hK
    refine hK _ _ ?_
    exact F.out 0 _ _ _ ⟨rfl, rfl, _, _, _, rfl, rfl, rfl, rfl, rfl, rfl, Sc.p1 xs k, rfl, RI.ahead _ _ (Nat.le_refl _) rfl (RM.new w _)⟩ rfl
  · intro l a w' hJ
    obtain ⟨u, j, bel, frm, rfl, I⟩ := hJ.open
    clear hJ
    cases I with
    | ahead j bel h1 h2 m =>
      refine ⟨_, rfl, fun F => ?_⟩
      replace F := hid F
      replace h1 := hid h1
      replace h2 := hid h2
      have hj : (j : Int) ≤ 562949953421312 := by have := HN.out; have := B2.out; have := h2.out; omega
      have D := hid (fun wx => DG.out j wx)
      cases hd : Sc.dg (Sc.pk xs j) with
      | true =>
        rw [hd] at D
        have R := hid (Sc.run_succ Sc.dg0 hd)
        have hlt : Hid (j < xs.length) := Sc.pk_lt (by have := Sc.dg_iff.1 hd; omega)
        replace m := hid m
        clear hd
        go_wp2_with fail
        refine (PK.out j _).mono ?_; rintro e w1 ⟨rfl, rfl⟩
        go_wp2_with fail
        refine (D.out _).mono ?_; rintro e w1 ⟨rfl, rfl⟩
        go_wp2_with fail
        go_step3; exact ⟨⟨rfl, rfl, _, _, _, rfl, rfl, rfl, rfl, rfl, rfl, j + 1, rfl, RI.ahead _ _ (by have := h1.out; omega) (by have := h2.out; have := R.out; omega) m.out⟩, (show 3 * (xs.length + 3) + (xs.length + 2 - Int.toNat ((j : Int) + 1)) < 3 * (xs.length + 3) + (xs.length + 2 - Int.toNat (j : Int)) by have := HN.out; have := hlt.out; have := B1.out; have := B2.out; have := B3.out; omega)⟩
      | false =>
        rw [hd] at D
        have hj2 : j = Sc.p2 xs k := by have := h2.out; rw [Sc.run_zero Sc.dg0 hd] at this; exact this
        clear hd
        subst hj2
        have q1 : (Sc.p1 xs k : Int) ≤ (Sc.p2 xs k : Int) := by have := B12.out; omega
        have q2 : (Sc.p2 xs k : Int) ≤ (xs.length : Int) := by have := B2.out; omega
        obtain ⟨⟨c0, c1, c2, c3, c4⟩, f0, f1, f2, f3, f4⟩ := m.cells
        have M2 := hid (m.ahead (s.extract (Sc.p1 xs k) (Sc.p2 xs k)))
        have SA : Hid (Str (s.extract (Sc.p1 xs k) (Sc.p2 xs k)) (Sc.lit xs k).ah) := by
          have := HS.out.extract (Sc.p1 xs k) (Sc.p2 xs k)
          rw [show Sc.p2 xs k - Sc.p1 xs k = Sc.run Sc.dg xs (Sc.p1 xs k) by unfold Sc.p2; omega] at this
          exact this
        clear m
        have hp : Sc.pk xs (Sc.p2 xs k) = 46 ∨ ((Sc.pk xs (Sc.p2 xs k) == 46) = false ∧ Sc.pk xs (Sc.p2 xs k) ≠ 46) := by
          by_cases c : Sc.pk xs (Sc.p2 xs k) = 46
          · exact .inl c
          · exact .inr ⟨by rw [beq_eq_false_iff_ne]; exact c, c⟩
        rcases hp with hp | ⟨hp, hp2⟩
        · have HP := hid hp
          clear hp
          go_wp2_with fail
          refine (PK.out (Sc.p2 xs k) _).mono ?_; rintro e w1 ⟨rfl, rfl⟩
          go_wp2_with fail
          refine (D.out _).mono ?_; rintro e w1 ⟨rfl, rfl⟩
          go_wp2_with fail
          refine (PK.out (Sc.p2 xs k) _).mono ?_; rintro e w1 ⟨rfl, rfl⟩
          have hp := HP.out
          go_wp2_with fail
          go_step3; (try simp only [Exit.then]); rename_i hK; refine hK _ _ ?_; exact F.out 2 _ _ _ ⟨rfl, rfl, _, _, _, rfl, rfl, rfl, rfl, rfl, rfl, Sc.p2 xs k + 1, rfl, RI.behind _ _ _ SA.out HP.out (Nat.le_refl _) (by unfold Sc.p3; rw [if_pos HP.out]) M2.out⟩ (show 2 * (xs.length + 3) + (xs.length + 2 - Int.toNat ((Sc.p2 xs k : Int) + 1)) < 3 * (xs.length + 3) + (xs.length + 2 - Int.toNat (Sc.p2 xs k : Int)) by have := HN.out; have := B1.out; have := B2.out; have := B3.out; omega) rfl
        · have hp3 : (Sc.pk xs (Sc.p2 xs k) != 46) = true := by simpa using hp2
          have E3 : Hid (Sc.p3 xs k = Sc.p2 xs k) := by show _ = _; unfold Sc.p3; rw [if_neg hp2]
          have EB : Hid (Str ⟨#[]⟩ (Sc.lit xs k).bh) := by
            show Str _ ((xs.drop _).take (Sc.bn xs k))
            rw [show Sc.bn xs k = 0 by unfold Sc.bn; rw [if_neg hp2]]
            exact str_nil0
          replace hp2 := hid hp2
          go_wp2_with fail
          refine (PK.out (Sc.p2 xs k) _).mono ?_; rintro e w1 ⟨rfl, rfl⟩
          go_wp2_with fail
          refine (D.out _).mono ?_; rintro e w1 ⟨rfl, rfl⟩
          go_wp2_with fail
          refine (PK.out (Sc.p2 xs k) _).mono ?_; rintro e w1 ⟨rfl, rfl⟩
          go_wp2_with fail
          go_step3; exact ⟨⟨rfl, rfl, _, _, _, rfl, rfl, rfl, rfl, rfl, rfl, Sc.p3 xs k, by rw [E3.out], RI.number _ _ _ _ SA.out EB.out M2.out⟩, (show 1 * (xs.length + 3) + (xs.length + 2 - Int.toNat (Sc.p2 xs k : Int)) < 3 * (xs.length + 3) + (xs.length + 2 - Int.toNat (Sc.p2 xs k : Int)) by have := HN.out; have := B1.out; have := B2.out; have := B3.out; omega)⟩
    | behind j bel A hA hp h1 h2 m =>
      refine ⟨_, rfl, fun F => ?_⟩
      replace F := hid F
      replace h1 := hid h1
      replace h2 := hid h2
      replace hp := hid hp
      replace hA := hid hA
      have hj : (j : Int) ≤ 562949953421312 := by have := HN.out; have := B3.out; have := h2.out; omega
      have D := hid (fun wx => DG.out j wx)
      cases hd : Sc.dg (Sc.pk xs j) with
      | true =>
        rw [hd] at D
        have R := hid (Sc.run_succ Sc.dg0 hd)
        have hlt : Hid (j < xs.length) := Sc.pk_lt (by have := Sc.dg_iff.1 hd; omega)
        replace m := hid m
        clear hd
        go_wp2_with fail
        refine (PK.out j _).mono ?_; rintro e w1 ⟨rfl, rfl⟩
        go_wp2_with fail
        refine (D.out _).mono ?_; rintro e w1 ⟨rfl, rfl⟩
        go_wp2_with fail
        go_step3; exact ⟨⟨rfl, rfl, _, _, _, rfl, rfl, rfl, rfl, rfl, rfl, j + 1, rfl, RI.behind _ _ _ hA.out hp.out (by have := h1.out; omega) (by have := h2.out; have := R.out; omega) m.out⟩, (show 2 * (xs.length + 3) + (xs.length + 2 - Int.toNat ((j : Int) + 1)) < 2 * (xs.length + 3) + (xs.length + 2 - Int.toNat (j : Int)) by have := HN.out; have := hlt.out; have := B1.out; have := B2.out; have := B3.out; omega)⟩
      | false =>
        rw [hd] at D
        have hj2 : j = Sc.p3 xs k := by have := h2.out; rw [Sc.run_zero Sc.dg0 hd] at this; exact this
        clear hd
        subst hj2
        have q1 : (Sc.p2 xs k : Int) + 1 ≤ (Sc.p3 xs k : Int) := by have := h1.out; omega
        have q2 : (Sc.p3 xs k : Int) ≤ (xs.length : Int) := by have := B3.out; omega
        obtain ⟨⟨c0, c1, c2, c3, c4⟩, f0, f1, f2, f3, f4⟩ := m.cells
        have M2 := hid (m.behind (s.extract (Sc.p2 xs k + 1) (Sc.p3 xs k)))
        have SB : Hid (Str (s.extract (Sc.p2 xs k + 1) (Sc.p3 xs k)) (Sc.lit xs k).bh) := by
          have := HS.out.extract (Sc.p2 xs k + 1) (Sc.p3 xs k)
          rw [show Sc.p3 xs k - (Sc.p2 xs k + 1) = Sc.bn xs k by unfold Sc.p3 Sc.bn; rw [if_pos hp.out, if_pos hp.out]; omega] at this
          exact this
        clear m
        go_wp2_with fail
        refine (PK.out (Sc.p3 xs k) _).mono ?_; rintro e w1 ⟨rfl, rfl⟩
        go_wp2_with fail
        refine (D.out _).mono ?_; rintro e w1 ⟨rfl, rfl⟩
        go_wp2_with fail
        go_step3; (try simp only [Exit.then]); rename_i hK; refine hK _ _ ?_; exact F.out 1 _ _ _ ⟨rfl, rfl, _, _, _, rfl, rfl, rfl, rfl, rfl, rfl, Sc.p3 xs k, rfl, RI.number _ _ _ _ hA.out SB.out M2.out⟩ (show 1 * (xs.length + 3) + (xs.length + 2 - Int.toNat (Sc.p3 xs k : Int)) < 2 * (xs.length + 3) + (xs.length + 2 - Int.toNat (Sc.p3 xs k : Int)) by have := HN.out; have := B1.out; have := B2.out; have := B3.out; omega) rfl
    | number bel frm A B hA hB m =>
      refine ⟨_, rfl, fun F => ?_⟩
      replace F := hid F
      have sA := ah_len hA
      have sB := bh_len hB
      have hj : (Sc.p3 xs k : Int) ≤ 562949953421312 := by have := HN.out; have := B3.out; omega
      have nA : (Sc.run Sc.dg xs (Sc.p1 xs k) : Int) ≤ 562949953421312 := by have := HN.out; have := Sc.run_le Sc.dg xs (Sc.p1 xs k); omega
      have nB : (Sc.bn xs k : Int) ≤ 562949953421312 := by have := HN.out; have h : Sc.bn xs k ≤ xs.length := (by unfold Sc.bn; split; (exact Nat.le_trans (Sc.run_le _ _ _) (Nat.sub_le _ _)); omega); omega
      replace hA := hid hA
      replace hB := hid hB
      obtain ⟨⟨c0, c1, c2, c3, c4⟩, f0, f1, f2, f3, f4⟩ := m.cells
      obtain ⟨⟨d0, d1, d2, d3, d4⟩, g0, g1, g2, g3, g4⟩ := m.room
      by_cases hs : Sc.some? xs k
      · have hne : ((Sc.run Sc.dg xs (Sc.p1 xs k) : Int) + (Sc.bn xs k : Int) == 0) = false := by
          rw [beq_eq_false_iff_ne]; unfold Sc.some? at hs; omega
        replace hs := hid hs
        have M1 := hid (m.en (Sc.p3 xs k : Nat))
        clear m
        generalize Sc.run Sc.dg xs (Sc.p1 xs k) = rA at *
        generalize Sc.bn xs k = rB at *
        cases hE : Sc.isE (Sc.pk xs (Sc.p3 xs k)) with
        | false =>
          obtain ⟨x1, x2⟩ := isE_f hE
          have y1 : (Sc.pk xs (Sc.p3 xs k) != 101) = true := by simpa using x1
          have y2 : (Sc.pk xs (Sc.p3 xs k) != 69) = true := by simpa using x2
          have y3 : (Sc.pk xs (Sc.p3 xs k) == 101) = false := by rw [beq_eq_false_iff_ne]; exact x1
          have y4 : (Sc.pk xs (Sc.p3 xs k) == 69) = false := by rw [beq_eq_false_iff_ne]; exact x2
          have SN : Hid (_ ∧ _) := sc_none (xs := xs) (k := k) (by unfold Sc.hasE; rw [hE]; rfl)
          clear hE
          go_wp2_with fail
          refine (PK.out (Sc.p3 xs k) _).mono ?_; rintro e w1 ⟨rfl, rfl⟩
          go_wp2_with fail
          (try simp only [Exit.inBlock, Exit.then]); refine bodyPost_ret (results_row_tmp rfl _ _ w.heap.size 71 _ (0, 0) _ rfl (M1.out.put _ _ _ _ _).1 Tryz.underlying71 rfl (by kernel_rfl)) rfl ?_; exact rd_some hs.out hA.out hB.out SN.out.1 SN.out.2 (M1.out.put _ _ _ _ _).2
        | true =>
          have B4 : Hid (Sc.p4 xs (Sc.p3 xs k) ≤ xs.length) := Sc.p4_le xs _ (Sc.isE_lt hE)
          have hj4 : (Sc.p4 xs (Sc.p3 xs k) : Int) ≤ 562949953421312 := by have := HN.out; have := B4.out; omega
          have hE2 := isE_t hE
          have HE := hid hE
          clear hE
          have D4 := hid (fun wx => DG.out (Sc.p4 xs (Sc.p3 xs k)) wx)
          cases hd : Sc.dg (Sc.pk xs (Sc.p4 xs (Sc.p3 xs k))) with
          | false =>
            rw [hd] at D4
            have SN : Hid (_ ∧ _) := sc_none (xs := xs) (k := k) (by unfold Sc.hasE; rw [hd, Bool.and_false])
            clear hd
            rcases hE2 with hE2 | hE2
            all_goals go_wp2_with fail
            all_goals (refine (PK.out (Sc.p3 xs k) _).mono ?_; rintro e w1 ⟨rfl, rfl⟩; go_wp2_with fail; refine (PKz.out _ (Sc.p3 xs k + 1) _ rfl).mono ?_; rintro e w1 ⟨rfl, rfl⟩; go_wp2_with fail; refine (PSz.out _ (Sc.p3 xs k + 1) (Sc.p4 xs (Sc.p3 xs k)) _ rfl rfl (by have := B3.out; omega)).mono ?_; rintro e w1 ⟨rfl, rfl⟩; go_wp2_with fail; refine (PK.out (Sc.p4 xs (Sc.p3 xs k)) _).mono ?_; rintro e w1 ⟨rfl, rfl⟩; go_wp2_with fail; refine (D4.out _).mono ?_; rintro e w1 ⟨rfl, rfl⟩; go_wp2_with fail)
            all_goals ((try simp only [Exit.inBlock, Exit.then]); refine bodyPost_ret (results_row_tmp rfl _ _ w.heap.size 71 _ (0, 0) _ rfl (M1.out.put _ _ _ _ _).1 Tryz.underlying71 rfl (by kernel_rfl)) rfl ?_; exact rd_some hs.out hA.out hB.out SN.out.1 SN.out.2 (M1.out.put _ _ _ _ _).2)
          | true =>
            rw [hd] at D4
            have HH : Hid (Sc.hasE xs (Sc.p3 xs k) = true) := by show _ = _; unfold Sc.hasE; rw [hd, HE.out]; rfl
            clear hd
            have M3 : Hid (RM w (w'.setCell ⟨w.heap.size + 1, 4, none⟩ (.int .i64 (Sc.p3 xs k : Nat))) (decide (Sc.pk xs k = 45)) A B (Sc.cap ((xs.drop (Sc.p4 xs (Sc.p3 xs k))).take (Sc.p4 xs (Sc.p3 xs k) - Sc.p4 xs (Sc.p3 xs k)))) (Sc.p3 xs k : Nat)) := by
              show RM _ _ _ _ _ _ _
              rw [Nat.sub_self]
              exact M1.out
            rcases hE2 with hE2 | hE2
            all_goals go_wp2_with fail
            all_goals (refine (PK.out (Sc.p3 xs k) _).mono ?_; rintro e w1 ⟨rfl, rfl⟩; go_wp2_with fail; refine (PKz.out _ (Sc.p3 xs k + 1) _ rfl).mono ?_; rintro e w1 ⟨rfl, rfl⟩; go_wp2_with fail; refine (PSz.out _ (Sc.p3 xs k + 1) (Sc.p4 xs (Sc.p3 xs k)) _ rfl rfl (by have := B3.out; omega)).mono ?_; rintro e w1 ⟨rfl, rfl⟩; go_wp2_with fail; refine (PK.out (Sc.p4 xs (Sc.p3 xs k)) _).mono ?_; rintro e w1 ⟨rfl, rfl⟩; go_wp2_with fail; refine (D4.out _).mono ?_; rintro e w1 ⟨rfl, rfl⟩; go_wp2_with fail)
            all_goals (go_step3; (try simp only [Exit.then]); rename_i hK; refine hK _ _ ?_; exact F.out 3 _ _ _ ⟨rfl, rfl, _, _, _, rfl, rfl, rfl, rfl, rfl, rfl, Sc.p4 xs (Sc.p3 xs k), rfl, RI.power _ _ _ _ hs.out hA.out hB.out HH.out (Nat.le_refl _) rfl M3.out⟩ (show 0 * (xs.length + 3) + (xs.length + 2 - Int.toNat (Sc.p4 xs (Sc.p3 xs k) : Int)) < 1 * (xs.length + 3) + (xs.length + 2 - Int.toNat (Sc.p3 xs k : Int)) by have := HN.out; have := B4.out; have := B1.out; have := B2.out; have := B3.out; omega) rfl)
      · have z1 : Sc.run Sc.dg xs (Sc.p1 xs k) = 0 := by unfold Sc.some? at hs; omega
        have z2 : Sc.bn xs k = 0 := by unfold Sc.some? at hs; omega
        rw [z1] at sA
        rw [z2] at sB
        clear z1 z2 nA nB
        replace m := hid m
        replace hs := hid hs
        go_wp2_with fail
        (try simp only [Exit.inBlock, Exit.then]); refine bodyPost_ret (results_row_tmp rfl _ _ w.heap.size 71 _ (0, 0) _ rfl (m.out.put _ _ _ _ _).1 Tryz.underlying71 rfl (by kernel_rfl)) rfl ?_; exact rd_none hs.out (m.out.put _ _ _ _ _).2
    | power j frm A B hs hA hB he h1 h2 m =>
      refine ⟨_, rfl, fun F => ?_⟩
      replace F := hid F
      have SS := hid (sc_some he)
      have B4 : Hid (j + Sc.run Sc.dg xs j ≤ xs.length) := by show _ ≤ _; rw [h2, ← (sc_some he).2]; exact BE.out
      have hj : (j : Int) ≤ 562949953421312 := by have := HN.out; have := B4.out; omega
      have cb := cap_bd h1 h2
      replace hs := hid hs
      replace hA := hid hA
      replace hB := hid hB
      replace he := hid he
      have D := hid (fun wx => DG.out j wx)
      obtain ⟨⟨c0, c1, c2, c3, c4⟩, f0, f1, f2, f3, f4⟩ := m.cells
      obtain ⟨⟨d0, d1, d2, d3, d4⟩, g0, g1, g2, g3, g4⟩ := m.room
      cases hd : Sc.dg (Sc.pk xs j) with
      | true =>
        rw [hd] at D
        have R := hid (Sc.run_succ Sc.dg0 hd)
        have hlt : j < xs.length := Sc.pk_lt (by have := Sc.dg_iff.1 hd; omega)
        have hx := HS.out.pk j
        have xb := Sc.dg_iff.1 hd
        have CM := hid (cap_more h1 hlt)
        have HLT := hid hlt
        have hli : (j : Int) < (xs.length : Int) := by omega
        replace h1 := hid h1
        replace h2 := hid h2
        replace m := hid m
        have M2 : Hid (∀ v : Int, v = min (10 * Sc.cap ((xs.drop (Sc.p4 xs (Sc.p3 xs k))).take (j - Sc.p4 xs (Sc.p3 xs k))) + (Sc.pk xs j - 48)) 1000000000000000 → RM w ((w'.setCell ⟨w.heap.size + 1, 3, none⟩ (.int .i64 v)).drew) (decide (Sc.pk xs k = 45)) A B (Sc.cap ((xs.drop (Sc.p4 xs (Sc.p3 xs k))).take (j + 1 - Sc.p4 xs (Sc.p3 xs k)))) (Sc.p3 xs k : Nat)) := fun v hv => by
          rw [CM.out, ← hv]
          exact (m.out.scale v).drew1
        clear hd hlt
        generalize Sc.cap ((xs.drop (Sc.p4 xs (Sc.p3 xs k))).take (j - Sc.p4 xs (Sc.p3 xs k))) = c at *
        have PKj := hid (fun wx => PK.out j wx)
        generalize Sc.pk xs j = x at *
        go_wp2_with fail
        refine (PKj.out _).mono ?_; rintro e w1 ⟨rfl, rfl⟩
        go_wp2_with fail
        refine (D.out _).mono ?_; rintro e w1 ⟨rfl, rfl⟩
        go_upto_region 26 with fail
        go_region
        go_wp2_with fail
        all_goals (go_step3; exact ⟨⟨rfl, rfl, _, _, _, rfl, rfl, rfl, rfl, rfl, rfl, j + 1, rfl, RI.power _ _ _ _ hs.out hA.out hB.out he.out (by have := h1.out; omega) (by have := h2.out; have := R.out; omega) (M2.out _ (by omega))⟩, (show 0 * (xs.length + 3) + (xs.length + 2 - Int.toNat ((j : Int) + 1)) < 0 * (xs.length + 3) + (xs.length + 2 - Int.toNat (j : Int)) by have := HN.out; have := HLT.out; have := B1.out; have := B2.out; have := B3.out; omega)⟩)
      | false =>
        rw [hd] at D
        have hj2 : j = Sc.p4 xs (Sc.p3 xs k) + Sc.run Sc.dg xs (Sc.p4 xs (Sc.p3 xs k)) := by have := h2; rw [Sc.run_zero Sc.dg0 hd] at this; exact this
        have EJ : Hid (j - Sc.p4 xs (Sc.p3 xs k) = Sc.run Sc.dg xs (Sc.p4 xs (Sc.p3 xs k))) := by show _ = _; omega
        have EN : Hid ((j : Int) = ((Sc.lit xs k).en : Nat)) := by show _ = _; rw [SS.out.2, ← hj2]
        clear hd hj2
        replace h1 := hid h1
        replace h2 := hid h2
        by_cases hn : Sc.pk xs (Sc.p3 xs k + 1) = 45
        · have E1 : Hid (- Sc.cap ((xs.drop (Sc.p4 xs (Sc.p3 xs k))).take (j - Sc.p4 xs (Sc.p3 xs k))) = (Sc.lit xs k).sc) := by show _ = _; rw [SS.out.1, if_pos hn, EJ.out]
          have M2 := hid ((m.scale (- Sc.cap ((xs.drop (Sc.p4 xs (Sc.p3 xs k))).take (j - Sc.p4 xs (Sc.p3 xs k))))).en (j : Int))
          rw [decide_eq_true hn]
          clear hn m
          generalize Sc.cap ((xs.drop (Sc.p4 xs (Sc.p3 xs k))).take (j - Sc.p4 xs (Sc.p3 xs k))) = c at *
          go_wp2_with fail
          refine (PK.out j _).mono ?_; rintro e w1 ⟨rfl, rfl⟩
          go_wp2_with fail
          refine (D.out _).mono ?_; rintro e w1 ⟨rfl, rfl⟩
          go_wp2_with fail
          (try simp only [Exit.inBlock, Exit.then]); refine bodyPost_ret (results_row_tmp rfl _ _ w.heap.size 71 _ (0, 0) _ rfl (M2.out.put _ _ _ _ _).1 Tryz.underlying71 rfl (by kernel_rfl)) rfl ?_; exact rd_some hs.out hA.out hB.out E1.out EN.out (M2.out.put _ _ _ _ _).2
        · have E1 : Hid (Sc.cap ((xs.drop (Sc.p4 xs (Sc.p3 xs k))).take (j - Sc.p4 xs (Sc.p3 xs k))) = (Sc.lit xs k).sc) := by show _ = _; rw [SS.out.1, if_neg hn, EJ.out]
          have M2 := hid (m.en (j : Int))
          rw [decide_eq_false hn]
          clear hn m
          generalize Sc.cap ((xs.drop (Sc.p4 xs (Sc.p3 xs k))).take (j - Sc.p4 xs (Sc.p3 xs k))) = c at *
          go_wp2_with fail
          refine (PK.out j _).mono ?_; rintro e w1 ⟨rfl, rfl⟩
          go_wp2_with fail
          refine (D.out _).mono ?_; rintro e w1 ⟨rfl, rfl⟩
          go_wp2_with fail
          (try simp only [Exit.inBlock, Exit.then]); refine bodyPost_ret (results_row_tmp rfl _ _ w.heap.size 71 _ (0, 0) _ rfl (M2.out.put _ _ _ _ _).1 Tryz.underlying71 rfl (by kernel_rfl)) rfl ?_; exact rd_some hs.out hA.out hB.out E1.out EN.out (M2.out.put _ _ _ _ _).2
end Go.Proofs.YtaoaniigbooihaaGreatDoor

namespace Go.Proofs.YtaoaniigbooihaaGreatDoor
open Go Go.RowKit Go.Deep




theorem Str.append {s t : ByteArray} {xs ys : List Int} (h : Str s xs) (k : Str t ys) : Str (s ++ t) (xs ++ ys) := by
  unfold Str at *
  rw [ByteArray.data_append, Array.toList_append, List.map_append, h, k]

/-- A literal's box and room for a Dec. -/
def LitBox (w w' : World) (neg : Bool) (A B : ByteArray) (sc en : Int) : Prop := Below w.heap.size w w' ∧ Row5 w' w.heap.size 71 (.bool neg) (.string A) (.string B) (.int .i64 sc) (.int .i64 en) ∧ Row3 w' (w.heap.size + 1) (.bool false) (.string ⟨#[]⟩) (.int .i64 0)
theorem LitBox.new (w : World) (neg : Bool) (A B : ByteArray) (sc en : Int) : LitBox w ((w.alloc (.cells #[.bool neg, .string A, .string B, .int .i64 sc, .int .i64 en] 71)).alloc (.cells #[.bool false, .string ⟨#[]⟩, .int .i64 0] 39)) neg A B sc en :=
  ⟨below_on (alloc_b _ _) (alloc_b _ _), heap_alloc2_old _ _ _, heap_alloc2_new _ _ _⟩
theorem LitBox.on {w w' w'' : World} {neg : Bool} {A B : ByteArray} {sc en : Int} (h : LitBox w w' neg A B sc en) (k : Below w'.heap.size w' w'') : LitBox w w'' neg A B sc en :=
  ⟨below_on h.1 k, h.2.1.below k h.2.1.lt, h.2.2.below k h.2.2.lt⟩
theorem LitBox.put {w w' : World} {neg : Bool} {A B : ByteArray} {sc en : Int} (h : LitBox w w' neg A B sc en) (x0 x1 x2 : Value) :
    Row3 (((w'.setCell ⟨w.heap.size + 1, 0, none⟩ x0).setCell ⟨w.heap.size + 1, 1, none⟩ x1).setCell ⟨w.heap.size + 1, 2, none⟩ x2) (w.heap.size + 1) x0 x1 x2 ∧ Below w.heap.size w (((w'.setCell ⟨w.heap.size + 1, 0, none⟩ x0).setCell ⟨w.heap.size + 1, 1, none⟩ x1).setCell ⟨w.heap.size + 1, 2, none⟩ x2) :=
  ⟨h.2.2.put _ _ _, set3_below h.1 (Nat.le_succ _)⟩



set_option maxRecDepth 100000 in
set_option maxHeartbeats 1000000 in
theorem ldec_any (neg : Bool) (A B : ByteArray) (xs ys : List Int) (sc en : Int) (w : World) (hA : Str A xs) (hB : Str B ys) (hn : xs.length + ys.length ≤ 281474976710655) (s0 : -1000000000000000 ≤ sc) (s1 : sc ≤ 1000000000000000) :
    Calls Tryz.prog 39 #[litV neg A B sc en] w fun r w' => ∃ v, r = .returned v ∧ DecIs v (Sc.nrm neg (xs ++ ys) (sc - ys.length)) ∧ Below w.heap.size w w' := by
  have T := hid (fun wx => dtrim_any neg (A ++ B) (xs ++ ys) (sc - ys.length) wx (hA.append hB) (by simp; omega) (by omega) (by omega))
  have O : Hid (∀ s wx, Str s (Sc.nrm neg (xs ++ ys) (sc - ys.length)).ds → Calls Tryz.prog 69 #[decV (Sc.nrm neg (xs ++ ys) (sc - ys.length)).neg s (Sc.nrm neg (xs ++ ys) (sc - ys.length)).e] wx fun r w' => r = .returned (decV (Sc.nrm neg (xs ++ ys) (sc - ys.length)).neg s (Sc.nrm neg (xs ++ ys) (sc - ys.length)).e) ∧ Below wx.heap.size wx w') := fun s wx h => own_any _ s _ wx (by rw [h.size]; exact nrm_ds_len _ _ _ (by simp; omega))
  have Z := hid (LitBox.new w neg A B sc en)
  have hsA := hA.size
  have hsB := hB.size
  have yb : (ys.length : Int) ≤ 281474976710655 := by omega
  have ncat : ¬ (9223372036854775807 < xs.length + ys.length) := by omega
  clear hA hB hn
  generalize Sc.nrm neg (xs ++ ys) (sc - ys.length) = D at *
  unfold litV
  unfold decV at T O
  go_enter Tryz.func39, Tryz.ntmps39
  go_wp2_with fail
  refine (T.out _).mono ?_
  rintro r w1 ⟨v, rfl, ⟨s2, hv, h2⟩, hB⟩
  unfold decV at hv
  subst hv
  have O2 := hid (fun wx => O.out s2 wx h2)
  have H2 := hid h2
  have S1 := hid (Z.out.on hB)
  clear h2 hB O T Z
  go_wp2_with fail
  refine (O2.out _).mono ?_
  rintro r w2 ⟨rfl, hB⟩
  have S2 := hid (S1.out.on hB)
  obtain ⟨⟨d0, d1, d2⟩, g0, g1, g2⟩ := S2.out.2.2.cells
  clear hB S1 O2
  go_wp2_with fail
  (try simp only [Exit.inBlock, Exit.then])
  refine bodyPost_ret (results_cell_row rfl _ _ (w.heap.size + 1) 39 _ (0, 0) _ rfl (S2.out.put _ _ _).1 Tryz.underlying39 rfl (by kernel_rfl)) rfl ?_
  exact dec_ret ⟨_, rfl, H2.out⟩ (S2.out.put _ _ _).2

/-- Room for the answer; the literal in its box. -/
def NSt (w wx : World) (b : Nat) (neg : Bool) (A B : ByteArray) (sc en : Int) : Prop :=
  Below w.heap.size w wx ∧ Row3 wx w.heap.size (.bool false) (.string ⟨#[]⟩) (.int .i64 0) ∧ Row5 wx b 71 (.bool neg) (.string A) (.string B) (.int .i64 sc) (.int .i64 en)
theorem NSt.new {w w1 : World} (hB : Below (w.alloc (.cells #[.bool false, .string ⟨#[]⟩, .int .i64 0] 39)).heap.size (w.alloc (.cells #[.bool false, .string ⟨#[]⟩, .int .i64 0] 39)) w1) (neg : Bool) (A B : ByteArray) (sc en : Int) :
    NSt w (w1.alloc (.cells #[.bool neg, .string A, .string B, .int .i64 sc, .int .i64 en] 71)) w1.heap.size neg A B sc en := by
  have r := (Row3.new w (.bool false) (.string ⟨#[]⟩) (.int .i64 0)).below hB (Row3.new w _ _ _).lt
  exact ⟨below_on (below_on (alloc_b _ _) hB) (alloc_b _ _), r.below (alloc_b _ _) r.lt, heap_alloc_new _ _⟩
theorem NSt.on {w wx w' : World} {b : Nat} {neg : Bool} {A B : ByteArray} {sc en : Int} (h : NSt w wx b neg A B sc en) (k : Below wx.heap.size wx w') : NSt w w' b neg A B sc en :=
  ⟨below_on h.1 k, h.2.1.below k h.2.1.lt, h.2.2.below k h.2.2.lt⟩
theorem NSt.drew {w wx : World} {b : Nat} {neg : Bool} {A B : ByteArray} {sc en : Int} (h : NSt w wx b neg A B sc en) : NSt w wx.drew b neg A B sc en :=
  h.on (below_drewN (Below.refl _ _) 1)
theorem NSt.flat {w wx : World} {b : Nat} {neg : Bool} {A B : ByteArray} {sc en : Int} (h : NSt w wx b neg A B sc en) :
    (wx.cell? ⟨b, 0, none⟩ = some (.bool neg) ∧ wx.cell? ⟨b, 1, none⟩ = some (.string A) ∧ wx.cell? ⟨b, 2, none⟩ = some (.string B) ∧ wx.cell? ⟨b, 3, none⟩ = some (.int .i64 sc) ∧ wx.cell? ⟨b, 4, none⟩ = some (.int .i64 en)) ∧
    (wx.cell? ⟨w.heap.size, 0, none⟩ = some (.bool false) ∧ wx.cell? ⟨w.heap.size, 1, none⟩ = some (.string ⟨#[]⟩) ∧ wx.cell? ⟨w.heap.size, 2, none⟩ = some (.int .i64 0)) ∧
    (wx.frozen? ⟨w.heap.size, 0, none⟩ = false ∧ wx.frozen? ⟨w.heap.size, 1, none⟩ = false ∧ wx.frozen? ⟨w.heap.size, 2, none⟩ = false) :=
  ⟨h.2.2.cells.1, h.2.1.cells.1, h.2.1.cells.2⟩
def Five (wx : World) (b : Nat) (neg : Bool) (A B : ByteArray) (sc en : Int) : Prop := wx.cell? ⟨b, 0, none⟩ = some (.bool neg) ∧ wx.cell? ⟨b, 1, none⟩ = some (.string A) ∧ wx.cell? ⟨b, 2, none⟩ = some (.string B) ∧ wx.cell? ⟨b, 3, none⟩ = some (.int .i64 sc) ∧ wx.cell? ⟨b, 4, none⟩ = some (.int .i64 en)
theorem NSt.five {w wx : World} {b : Nat} {neg : Bool} {A B : ByteArray} {sc en : Int} (h : NSt w wx b neg A B sc en) : wx.cell? ⟨b, 0, none⟩ = some (.bool neg) ∧ wx.cell? ⟨b, 1, none⟩ = some (.string A) ∧ wx.cell? ⟨b, 2, none⟩ = some (.string B) ∧ wx.cell? ⟨b, 3, none⟩ = some (.int .i64 sc) ∧ wx.cell? ⟨b, 4, none⟩ = some (.int .i64 en) := h.2.2.cells.1
theorem NSt.fiveP {w wx : World} {b : Nat} {neg : Bool} {A B : ByteArray} {sc en : Int} (h : NSt w wx b neg A B sc en) (hb : w.heap.size ≠ b) (x0 x1 x2 : Value) :
    (((wx.setCell ⟨w.heap.size, 0, none⟩ x0).setCell ⟨w.heap.size, 1, none⟩ x1).setCell ⟨w.heap.size, 2, none⟩ x2).cell? ⟨b, 0, none⟩ = some (.bool neg) ∧ (((wx.setCell ⟨w.heap.size, 0, none⟩ x0).setCell ⟨w.heap.size, 1, none⟩ x1).setCell ⟨w.heap.size, 2, none⟩ x2).cell? ⟨b, 1, none⟩ = some (.string A) ∧ (((wx.setCell ⟨w.heap.size, 0, none⟩ x0).setCell ⟨w.heap.size, 1, none⟩ x1).setCell ⟨w.heap.size, 2, none⟩ x2).cell? ⟨b, 2, none⟩ = some (.string B) ∧ (((wx.setCell ⟨w.heap.size, 0, none⟩ x0).setCell ⟨w.heap.size, 1, none⟩ x1).setCell ⟨w.heap.size, 2, none⟩ x2).cell? ⟨b, 3, none⟩ = some (.int .i64 sc) ∧ (((wx.setCell ⟨w.heap.size, 0, none⟩ x0).setCell ⟨w.heap.size, 1, none⟩ x1).setCell ⟨w.heap.size, 2, none⟩ x2).cell? ⟨b, 4, none⟩ = some (.int .i64 en) :=
  (((h.2.2.set_far hb).set_far hb).set_far hb).cells.1
theorem NSt.put {w wx : World} {b : Nat} {neg : Bool} {A B : ByteArray} {sc en : Int} (h : NSt w wx b neg A B sc en) (x0 x1 x2 : Value) :
    Row3 (((wx.setCell ⟨w.heap.size, 0, none⟩ x0).setCell ⟨w.heap.size, 1, none⟩ x1).setCell ⟨w.heap.size, 2, none⟩ x2) w.heap.size x0 x1 x2 ∧ Below w.heap.size w (((wx.setCell ⟨w.heap.size, 0, none⟩ x0).setCell ⟨w.heap.size, 1, none⟩ x1).setCell ⟨w.heap.size, 2, none⟩ x2) :=
  ⟨h.2.1.put _ _ _, set3_below h.1 (Nat.le_refl _)⟩

/-- What Number tells. -/
def NumTold (xs : List Int) (w : World) (e : Ending) (w' : World) : Prop := ∃ v, e = .returned (.tuple #[v, .int .i64 ((Sc.num xs).2 : Nat)]) ∧ DecIs v (Sc.num xs).1 ∧ Below w.heap.size w w'
def WhlTold (xs : List Int) (w : World) (e : Ending) (w' : World) : Prop := ∃ v, e = .returned (.tuple #[v, .bool (Sc.whl xs).2]) ∧ DecIs v (Sc.whl xs).1 ∧ Below w.heap.size w w'

set_option maxRecDepth 100000 in
set_option maxHeartbeats 2000000 in
theorem number_any (s : ByteArray) (xs : List Int) (w : World) (hs : Str s xs) (hn : xs.length ≤ 562949953421312) (hn2 : Sc.some? xs (Sc.run Sc.bl xs 0) → (Sc.lit xs (Sc.run Sc.bl xs 0)).ah.length + (Sc.lit xs (Sc.run Sc.bl xs 0)).bh.length ≤ 281474976710655) :
    Calls Tryz.prog 34 #[.string s] w fun e w' => NumTold xs w e w' := by
  have BL : Hid (∀ wx, Calls Tryz.prog 38 #[.string s, .int .i64 0] wx fun e w' => e = .returned (.int .i64 (Sc.run Sc.bl xs 0 : Nat)) ∧ w' = wx) := fun wx => by
    have := blanks_any s xs 0 wx hs hn (Nat.zero_le _)
    rw [Nat.zero_add] at this
    exact this
  have RD := hid (fun wx => vread_any s xs (Sc.run Sc.bl xs 0) wx hs hn (by have := Sc.run_le Sc.bl xs 0; omega))
  have NE : Hid (Sc.some? xs (Sc.run Sc.bl xs 0) → Sc.num xs = ((Sc.lit xs (Sc.run Sc.bl xs 0)).d, (Sc.lit xs (Sc.run Sc.bl xs 0)).en)) := fun c => by unfold Sc.num; rw [if_pos c]
  have NZ : Hid (¬ Sc.some? xs (Sc.run Sc.bl xs 0) → Sc.num xs = (⟨false, [], 0⟩, 0)) := fun c => by unfold Sc.num; rw [if_neg c]
  have LS := hid (Sc.lit_sc xs (Sc.run Sc.bl xs 0))
  have H2 := hid hn2
  clear hs hn hn2
  generalize Sc.run Sc.bl xs 0 = K at *
  go_enter Tryz.func34, Tryz.ntmps34
  go_wp2_with fail
  refine (BL.out _).mono ?_
  rintro e w1 ⟨rfl, rfl⟩
  go_wp2_with fail
  refine (RD.out _).mono ?_
  rintro e w1 ⟨h | ⟨h, rfl⟩, hB⟩
  · obtain ⟨hs, A, B, rfl, hA, hB'⟩ := h
    have ST := hid (NSt.new hB (Sc.lit xs K).neg A B (Sc.lit xs K).sc ((Sc.lit xs K).en : Nat))
    have DC := hid (fun wx => ldec_any (Sc.lit xs K).neg A B (Sc.lit xs K).ah (Sc.lit xs K).bh (Sc.lit xs K).sc ((Sc.lit xs K).en : Nat) wx hA hB' (H2.out hs) LS.out.1 LS.out.2)
    have NB0 : Hid (w.heap.size ≠ w1.heap.size) := by
      have := hB.size
      rw [show (w.alloc (.cells #[.bool false, .string ⟨#[]⟩, .int .i64 0] 39)).heap.size = w.heap.size + 1 by simp] at this
      show _ ≠ _; omega
    have NE' := hid (NE.out hs)
    clear hB hA hB' hs H2 LS NE NZ RD BL
    have ED : Hid (Sc.nrm (Sc.lit xs K).neg ((Sc.lit xs K).ah ++ (Sc.lit xs K).bh) ((Sc.lit xs K).sc - (Sc.lit xs K).bh.length) = (Sc.num xs).1) := by rw [NE'.out]; rfl
    have EE : Hid ((Sc.lit xs K).en = (Sc.num xs).2) := by rw [NE'.out]; rfl
    rw [ED.out] at DC
    rw [EE.out] at DC ST
    unfold litV at DC ⊢
    rw [EE.out]
    clear ED EE NE'
    generalize Sc.lit xs K = l at *
    go_upto_region 4 with fail
    generalize w1.alloc (.cells #[.bool l.neg, .string A, .string B, .int .i64 l.sc, .int .i64 ((Sc.num xs).2 : Nat)] 71) = wA at *
    have NB : Hid (w.heap.size ≠ w1.heap.size) := NB0.out
    generalize w1.heap.size = b at *
    have SD := hid ST.out.drew
    have FF : Hid (∀ v, DecIs v (Sc.num xs).1 → ∃ t, v = .agg #[.bool (Sc.num xs).1.neg, .string t, .int .i64 (Sc.num xs).1.e] ∧ Str t (Sc.num xs).1.ds) := fun v h => h
    go_region_held3 (fun w' => w'.cell? ⟨b, 0, none⟩ = some (.bool l.neg) ∧ w'.cell? ⟨b, 1, none⟩ = some (.string A) ∧ w'.cell? ⟨b, 2, none⟩ = some (.string B) ∧ w'.cell? ⟨b, 3, none⟩ = some (.int .i64 l.sc) ∧ w'.cell? ⟨b, 4, none⟩ = some (.int .i64 ((Sc.num xs).2 : Nat))) (first | (with_reducible exact T1.out.fiveP NB.out _ _ _) | (with_reducible exact T1.out.five) | (with_reducible exact SD.out.five)) (first | (go_at_call 39; refine (DC.out _).mono ?_; rintro e w2 ⟨v, rfl, hv, hB⟩; obtain ⟨t, rfl, ht⟩ := FF.out _ hv; have HT := hid ht; have T1 := hid (SD.out.on hB); obtain ⟨-, ⟨d0, d1, d2⟩, g0, g1, g2⟩ := T1.out.flat; clear hv hB ht))
    all_goals go_wp2_with fail
    all_goals (try simp only [Exit.inBlock, Exit.then])
    all_goals (refine bodyPost_ret (results_row_tmp rfl _ _ w.heap.size 39 _ (0, 0) _ rfl (T1.out.put _ _ _).1 Tryz.underlying39 rfl (by kernel_rfl)) rfl ?_; exact ⟨_, rfl, ⟨_, rfl, HT.out⟩, (T1.out.put _ _ _).2⟩)
  · have ST := hid (NSt.new hB false ⟨#[]⟩ ⟨#[]⟩ 0 0)
    obtain ⟨-, ⟨d0, d1, d2⟩, g0, g1, g2⟩ := ST.out.flat
    have NZ' := hid (NZ.out h)
    clear hB h H2 LS NE NZ RD BL
    have EE : Hid ((Sc.num xs).2 = 0) := by rw [NZ'.out]; rfl
    unfold litV
    have F : Hid (∀ w', Below w.heap.size w w' → NumTold xs w (.returned (.tuple #[.agg #[.bool false, .string ⟨#[]⟩, .int .i64 0], .int .i64 0])) w') := fun w' b => ⟨_, by rw [NZ'.out]; rfl, by rw [NZ'.out]; exact ⟨_, rfl, str_nil0⟩, b⟩
    clear EE NZ'
    go_wp2_with fail
    (try simp only [Exit.inBlock, Exit.then])
    refine bodyPost_ret (results_row_tmp rfl _ _ w.heap.size 39 _ (0, 0) _ rfl (ST.out.put _ _ _).1 Tryz.underlying39 rfl (by kernel_rfl)) rfl ?_
    exact F.out _ (ST.out.put _ _ _).2

end Go.Proofs.YtaoaniigbooihaaGreatDoor

namespace Go.Proofs.YtaoaniigbooihaaGreatDoor
open Go Go.RowKit Go.Deep Go.Shelf

theorem numb_any (xs : List Int) (w : World) (hx : Wh.By xs) (hl : xs.length ≤ 100000) :
    Calls Tryz.prog 34 #[.string (strOfNums xs)] w fun e w' => NumTold xs w e w' :=
  number_any _ xs w (Str.of_nums hx) (by omega) (fun _ => by have := Sc.lit_len xs (Sc.run Sc.bl xs 0); omega)

/-- What places tells. -/
def Po.pn (q : Int) : Int := if q < 0 then 0 else q
structure Po.PlI (xs : List Int) (j : Nat) (E : Int) : Prop where
  by_ : Wh.By xs
  len : xs.length ≤ 40000
  le : j ≤ xs.length
  no : ∀ i, i < j → xs.getD i 0 ≠ 101 ∧ xs.getD i 0 ≠ 69
  fin : (j = xs.length ∧ E = 0) ∨ (j < xs.length ∧ (xs.getD j 0 = 101 ∨ xs.getD j 0 = 69) ∧ Sc.num (49 :: xs.drop j) = (⟨false, [49], E⟩, xs.length - j + 1))

set_option maxRecDepth 100000 in
set_option maxHeartbeats 4000000 in
theorem pplaces_any (xs : List Int) (j : Nat) (E : Int) (w : World) (h : Po.PlI xs j E) :
    Calls Tryz.prog 17 #[.string (strOfNums xs)] w fun e w' => e = .returned (.tuple #[.int .i64 (Po.pn (Po.nst (xs.take j))), .int .i64 E]) ∧ Below w.heap.size w w' := by
  have HH := hid h
  have sz : (strOfNums xs).size = xs.length := strOfNums_size xs
  have AT : Hid (∀ t (k : t < (strOfNums xs).size), (((strOfNums xs)[t]'k).toNat : Int) = xs.getD t 0) := fun t k => (Str.of_nums h.by_).at t k
  have lb : (xs.length : Int) ≤ 40000 := by have := h.len; omega
  have NS := hid (fun t (k : t < xs.length) => Po.nst_take k)
  have NB := hid (fun t => Po.nst_bd (xs.take t))
  have PN : Hid (∀ q, Po.pn q = if q < 0 then 0 else q) := fun q => rfl
  have LE := hid h.le
  generalize hL : xs.length = L at *
  generalize hS : strOfNums xs = s at *
  clear h
  go_enter Tryz.func17, Tryz.ntmps17
  go_wp2_with fail
  go_loopg [4, 6] j (fun k n i wr => ∃ t : Nat, t + k = j ∧ n = .int .i64 (Po.nst (xs.take t)) ∧ i = .int .i64 (t : Int) ∧ wr = w)
  case atStart => exact ⟨0, by omega, rfl, rfl, rfl⟩
  case round =>
    obtain ⟨t, ht, rfl, rfl, hw⟩ := hrel
    have hw := hw.symm
    subst hw
    have nb := NB.out t
    obtain ⟨x, hx⟩ : ∃ x, xs.getD t 0 = x := ⟨_, rfl⟩
    have at' : ∀ k : t < s.size, ((s[t]'k).toNat : Int) = x := fun k => by rw [AT.out t k, hx]
    have n0 : -1 ≤ Po.nst (xs.take t) := nb.1
    have n1 : Po.nst (xs.take t) ≤ 40000 := by have := nb.2; rw [List.length_take] at this; omega
    by_cases hj : t < j
    · have htl : t < L := by have := LE.out; omega
      have hti : (t : Int) < (L : Int) := by omega
      have no := HH.out.no t hj
      rw [hx] at no
      have k1 : (x == 101) = false := by rw [beq_eq_false_iff_ne]; exact no.1
      have k2 : (x == 69) = false := by rw [beq_eq_false_iff_ne]; exact no.2
      have ns := NS.out t htl
      rw [hx] at ns
      by_cases h46 : x = 46
      · rw [if_pos h46] at ns
        have ns := hid ns
        have hx := hid hx
        subst h46
        clear nb no
        go_wp2_with fail
        go_roundg (j - (t + 1))
        case measure => omega
        case rel => exact ⟨t + 1, by omega, by rw [ns.out], by go_num, rfl⟩
      · rw [if_neg h46] at ns
        have k3 : (x == 46) = false := by rw [beq_eq_false_iff_ne]; exact h46
        by_cases hq : 0 ≤ Po.nst (xs.take t)
        · rw [if_pos hq] at ns
          have ns := hid ns
          have hx := hid hx
          clear nb no h46
          generalize Po.nst (xs.take t) = q at *
          go_wp2_with fail
          go_roundg (j - (t + 1))
          case measure => omega
          case rel => exact ⟨t + 1, by omega, by rw [ns.out], by go_num, rfl⟩
        · rw [if_neg hq] at ns
          have ns := hid ns
          have hx := hid hx
          clear nb no h46
          generalize Po.nst (xs.take t) = q at *
          go_wp2_with fail
          go_roundg (j - (t + 1))
          case measure => omega
          case rel => exact ⟨t + 1, by omega, by rw [ns.out], by go_num, rfl⟩
    · have htj : t = j := by omega
      subst htj
      have pn := PN.out (Po.nst (xs.take t))
      rcases HH.out.fin with ⟨e1, e2⟩ | ⟨e1, e2, e3⟩
      · rw [hL] at e1
        have hti : ¬ (t : Int) < (L : Int) := by omega
        subst e2
        have B := hid (Below.refl w.heap.size w)
        have hx := hid hx
        clear nb hj HH e1
        by_cases hq : Po.nst (xs.take t) < 0
        · rw [if_pos hq] at pn
          replace pn := hid pn
          generalize hqq : Po.nst (xs.take t) = q at n0 n1 hq ⊢
          replace hqq := hid hqq
          go_wp2_with fail
          go_ret2
          exact ⟨by first | (rw [pn.out]; rfl) | (rw [pn.out, hqq.out]; rfl), B.out⟩
        · rw [if_neg hq] at pn
          replace pn := hid pn
          generalize hqq : Po.nst (xs.take t) = q at n0 n1 hq ⊢
          replace hqq := hid hqq
          go_wp2_with fail
          go_ret2
          exact ⟨by first | (rw [pn.out]; rfl) | (rw [pn.out, hqq.out]; rfl), B.out⟩
      · rw [hL] at e1 e3
        rw [hx] at e2
        have hti : (t : Int) < (L : Int) := by omega
        have DR : Str (s.extract t L) (xs.drop t) := by
          have q := (Str.of_nums HH.out.by_).extract t L
          rw [hS, List.take_of_length_le (by rw [List.length_drop]; omega)] at q
          exact q
        have DB : Wh.By (49 :: xs.drop t) := Wh.By.cons (by omega) (fun y hy => HH.out.by_ y (List.mem_of_mem_drop hy))
        have dz : ((s.extract t L).size : Int) ≤ 40000 := by rw [DR.size, List.length_drop]; omega
        have NM : Hid (∀ wk, Calls Tryz.prog 34 #[.string ((⟨#[49]⟩ : ByteArray) ++ s.extract t L)] wk fun e w' => ∃ q, e = .returned (.tuple #[.agg #[.bool false, .string q, .int .i64 E], .int .i64 ((L : Int) - t + 1)]) ∧ Below wk.heap.size wk w') := by
          intro wk
          have e : (⟨#[49]⟩ : ByteArray) ++ s.extract t L = strOfNums (49 :: xs.drop t) := str_is (Str.app (show Str ⟨#[49]⟩ [49] from rfl) DR)
          rw [e]
          refine (numb_any _ wk DB (by rw [List.length_cons, List.length_drop]; omega)).mono ?_
          rintro e w' ⟨v, rfl, hv, hB⟩
          rw [e3] at hv ⊢
          obtain ⟨q, rfl, hq⟩ := hv
          refine ⟨q, ?_, hB⟩
          show Ending.returned (.tuple #[.agg #[.bool false, .string q, .int .i64 E], .int .i64 ((L - t + 1 : Nat) : Int)]) = _
          rw [show ((L - t + 1 : Nat) : Int) = (L : Int) - t + 1 by omega]
        have hx := hid hx
        clear nb hj HH e1 DR DB e3
        rcases e2 with rfl | rfl
        · by_cases hq : Po.nst (xs.take t) < 0
          · rw [if_pos hq] at pn
            replace pn := hid pn
            generalize hqq : Po.nst (xs.take t) = q at n0 n1 hq ⊢
            replace hqq := hid hqq
            go_wp2_with fail
            with_reducible refine (NM.out _).mono ?_
            rintro e w1 ⟨q1, rfl, b1⟩
            have A1 := hid (below_on b1 (alloc_b w1 (.cells #[.bool false, .string q1, .int .i64 E] 39)))
            have A2 : Hid (∀ k, Below w.heap.size w ((w1.alloc (.cells #[.bool false, .string q1, .int .i64 E] 39)).drewN k)) := fun k => below_drewN A1.out k
            clear b1 NM
            go_upto_region 14 with fail
            go_quiet (fail)
            go_wp2_with fail
            go_ret2
            exact ⟨by first | (rw [pn.out]; rfl) | (rw [pn.out, hqq.out]; rfl), A2.out _⟩
          · rw [if_neg hq] at pn
            replace pn := hid pn
            generalize hqq : Po.nst (xs.take t) = q at n0 n1 hq ⊢
            replace hqq := hid hqq
            go_wp2_with fail
            with_reducible refine (NM.out _).mono ?_
            rintro e w1 ⟨q1, rfl, b1⟩
            have A1 := hid (below_on b1 (alloc_b w1 (.cells #[.bool false, .string q1, .int .i64 E] 39)))
            have A2 : Hid (∀ k, Below w.heap.size w ((w1.alloc (.cells #[.bool false, .string q1, .int .i64 E] 39)).drewN k)) := fun k => below_drewN A1.out k
            clear b1 NM
            go_upto_region 14 with fail
            go_quiet (fail)
            go_wp2_with fail
            go_ret2
            exact ⟨by first | (rw [pn.out]; rfl) | (rw [pn.out, hqq.out]; rfl), A2.out _⟩
        · by_cases hq : Po.nst (xs.take t) < 0
          · rw [if_pos hq] at pn
            replace pn := hid pn
            generalize hqq : Po.nst (xs.take t) = q at n0 n1 hq ⊢
            replace hqq := hid hqq
            go_wp2_with fail
            with_reducible refine (NM.out _).mono ?_
            rintro e w1 ⟨q1, rfl, b1⟩
            have A1 := hid (below_on b1 (alloc_b w1 (.cells #[.bool false, .string q1, .int .i64 E] 39)))
            have A2 : Hid (∀ k, Below w.heap.size w ((w1.alloc (.cells #[.bool false, .string q1, .int .i64 E] 39)).drewN k)) := fun k => below_drewN A1.out k
            clear b1 NM
            go_upto_region 14 with fail
            go_quiet (fail)
            go_wp2_with fail
            go_ret2
            exact ⟨by first | (rw [pn.out]; rfl) | (rw [pn.out, hqq.out]; rfl), A2.out _⟩
          · rw [if_neg hq] at pn
            replace pn := hid pn
            generalize hqq : Po.nst (xs.take t) = q at n0 n1 hq ⊢
            replace hqq := hid hqq
            go_wp2_with fail
            with_reducible refine (NM.out _).mono ?_
            rintro e w1 ⟨q1, rfl, b1⟩
            have A1 := hid (below_on b1 (alloc_b w1 (.cells #[.bool false, .string q1, .int .i64 E] 39)))
            have A2 : Hid (∀ k, Below w.heap.size w ((w1.alloc (.cells #[.bool false, .string q1, .int .i64 E] 39)).drewN k)) := fun k => below_drewN A1.out k
            clear b1 NM
            go_upto_region 14 with fail
            go_quiet (fail)
            go_wp2_with fail
            go_ret2
            exact ⟨by first | (rw [pn.out]; rfl) | (rw [pn.out, hqq.out]; rfl), A2.out _⟩

/-- The place and the exponent of what Render writes. -/
theorem Po.pl_text {V k : Int} {g a b : List Int} {h : Bool} (hg : ∀ x ∈ g, x = 45) (gl : g.length ≤ 1) (ha : Digs a) (hb : Digs b) (la : a.length ≤ 10000) (lb : b.length ≤ 10000) (h0 : -400 ≤ k) (h1 : k ≤ 400) :
    Po.PlI (g ++ Po.wrt a b (Po.ex V k) h) (g ++ Po.hd a b h).length k ∧ Po.pn (Po.nst ((g ++ Po.wrt a b (Po.ex V k) h).take (g ++ Po.hd a b h).length)) = b.length := by
  have e : g ++ Po.wrt a b (Po.ex V k) h = (g ++ Po.hd a b h) ++ Po.ex V k := by rw [Po.wrt_hd, List.append_assoc]
  have nE := Po.noE_hd (g := g) (h := h) (fun x hx => by have := hg x hx; omega) ha hb
  have hl : (Po.hd a b h).length ≤ a.length + b.length + 1 := by
    unfold Po.hd
    split
    · omega
    · rw [List.length_append, List.length_cons]; omega
  have xl := Po.ex_len (V := V) h0 h1
  rw [e]
  have x0 : (Po.ex V k).getD 0 0 = if Po.cap V = true then 69 else 101 := rfl
  have xp : 0 < (Po.ex V k).length := by simp [Po.ex]
  refine ⟨⟨?_, by simp only [List.length_append]; omega, by simp, ?_, .inr ⟨by simp only [List.length_append]; omega, ?_, ?_⟩⟩, ?_⟩
  · exact ((Wh.By.app (fun x hx => by have := hg x hx; omega) (by unfold Po.hd; split; exact Po.digs_by ha; exact (Po.digs_by ha).app (Wh.By.cons (by omega) (Po.digs_by hb))))).app (Po.ex_by _ _)
  · intro i hi
    have : (g ++ Po.hd a b h ++ Po.ex V k).getD i 0 = (g ++ Po.hd a b h).getD i 0 := by rw [List.getD_eq_getElem?_getD, List.getD_eq_getElem?_getD, List.getElem?_append_left hi]
    rw [this]
    have m : (g ++ Po.hd a b h).getD i 0 ∈ g ++ Po.hd a b h := by simp [List.getD, List.getElem?_eq_getElem hi]
    exact nE _ m
  · have : (g ++ Po.hd a b h ++ Po.ex V k).getD (g ++ Po.hd a b h).length 0 = (Po.ex V k).getD 0 0 := by simp [List.getD, List.getElem?_append_right]
    rw [this, x0]
    split
    · exact .inr rfl
    · exact .inl rfl
  · rw [List.drop_left, Po.num_ex h0 h1, List.length_append, Nat.add_sub_cancel_left]
  · rw [List.take_left]
    exact Po.nst_hd (fun x hx => by have := hg x hx; omega) ha hb
/-- The same without an exponent. -/
theorem Po.pl_text0 {g a b : List Int} {h : Bool} (hg : ∀ x ∈ g, x = 45) (gl : g.length ≤ 1) (ha : Digs a) (hb : Digs b) (la : a.length ≤ 10000) (lb : b.length ≤ 10000) :
    Po.PlI (g ++ Po.wrt a b [] h) (g ++ Po.hd a b h).length 0 ∧ Po.pn (Po.nst ((g ++ Po.wrt a b [] h).take (g ++ Po.hd a b h).length)) = b.length := by
  have e : g ++ Po.wrt a b [] h = g ++ Po.hd a b h := by rw [Po.wrt_hd, List.append_nil]
  have nE := Po.noE_hd (g := g) (h := h) (fun x hx => by have := hg x hx; omega) ha hb
  have hl : (Po.hd a b h).length ≤ a.length + b.length + 1 := by
    unfold Po.hd
    split
    · omega
    · rw [List.length_append, List.length_cons]; omega
  rw [e]
  refine ⟨⟨?_, by simp only [List.length_append]; omega, Nat.le_refl _, ?_, .inl ⟨rfl, rfl⟩⟩, ?_⟩
  · exact Wh.By.app (fun x hx => by have := hg x hx; omega) (by unfold Po.hd; split; exact Po.digs_by ha; exact (Po.digs_by ha).app (Wh.By.cons (by omega) (Po.digs_by hb)))
  · intro i hi
    have m : (g ++ Po.hd a b h).getD i 0 ∈ g ++ Po.hd a b h := by simp [List.getD, List.getElem?_eq_getElem hi]
    exact nE _ m
  · rw [List.take_length]
    exact Po.nst_hd (fun x hx => by have := hg x hx; omega) ha hb

set_option maxRecDepth 100000 in
theorem pjoined_any (a b : List Int) (h : Bool) (w : World) (ha : Wh.By a) (hb : Wh.By b) (la : a.length ≤ 10000) (lb : b.length ≤ 10000) :
    Calls Tryz.prog 24 #[.string (strOfNums a), .string (strOfNums b), .bool h] w fun e w' => e = .returned (.string (strOfNums (Po.hd a b h))) ∧ w' = w := by
  have sa : (strOfNums a).size = a.length := strOfNums_size a
  have sb : (strOfNums b).size = b.length := strOfNums_size b
  have SA := Str.of_nums ha
  have SB := Str.of_nums hb
  have na : ((strOfNums a).size : Int) ≤ 10000 := by rw [sa]; omega
  have nb : ((strOfNums b).size : Int) ≤ 10000 := by rw [sb]; omega
  have EI := isEmpty_nums b
  have EJ := toList_nums b
  have E1 : Hid (b = [] → h = false → strOfNums a = strOfNums (Po.hd a b h)) := fun h1 h2 => by rw [Po.hd, if_pos ⟨h1, h2⟩]
  have E2 : Hid (¬ (b = [] ∧ h = false) → strOfNums a ++ ⟨#[46]⟩ ++ strOfNums b = strOfNums (Po.hd a b h)) := fun hc => by
    rw [Po.hd, if_neg hc]
    have q : Str (strOfNums a ++ ⟨#[46]⟩ ++ strOfNums b) (a ++ [46] ++ b) := (SA.app (show Str ⟨#[46]⟩ [46] from rfl)).app SB
    rw [str_is q]
    simp
  clear SA SB sa sb la lb ha hb
  cases b with
  | nil =>
    rw [show (([] : List Int).isEmpty) = true from rfl] at EI EJ
    cases h with
    | false =>
      have E := hid (E1.out rfl rfl)
      clear E1 E2
      generalize Po.hd a [] false = R at *
      go_enter Tryz.func24, Tryz.ntmps24
      go_wp2_with fail
      go_ret
      exact ⟨ret_str E.out, rfl⟩
    | true =>
      have E := hid (E2.out (fun q => Bool.false_ne_true q.2.symm))
      clear E1 E2
      generalize Po.hd a [] true = R at *
      go_enter Tryz.func24, Tryz.ntmps24
      go_wp2_with fail
      go_ret
      exact ⟨ret_str E.out, rfl⟩
  | cons y l =>
    rw [show ((y :: l).isEmpty) = false from rfl] at EI EJ
    have E := hid (E2.out (fun q => by cases q.1))
    clear E1 E2
    generalize Po.hd a (y :: l) h = R at *
    generalize strOfNums (y :: l) = B at *
    go_enter Tryz.func24, Tryz.ntmps24
    go_wp2_with fail
    go_ret
    exact ⟨ret_str E.out, rfl⟩
end Go.Proofs.YtaoaniigbooihaaGreatDoor

namespace Go.Proofs.YtaoaniigbooihaaGreatDoor
open Go.RowKit Go.Deep
namespace Sh

theorem dg_of {xs : List Int} (h : Digs xs) : ∀ x ∈ xs, Sc.dg x = true := fun x hx => Sc.dg_iff.2 (h x hx)
theorem dv_head0 : ∀ (j : Nat) (xs : List Int), (∀ i, i < j → Sc.pk xs i = 48) → j ≤ xs.length → dv xs = dv (xs.drop j)
  | 0, xs, _, _ => by rw [List.drop_zero]
  | j + 1, [], _, h => by simp at h
  | j + 1, x :: xs, h, hl => by
    have hx : x = 48 := h 0 (by omega)
    rw [dv_cons, hx, Int.sub_self, Int.zero_mul, Int.zero_add, List.drop_succ_cons]
    exact dv_head0 j xs (fun i hi => h (i + 1) (by omega)) (by simpa using hl)

/-- The normal form's number. -/
theorem nrm_uv {xs : List Int} {q : Int} (hd : Digs xs) (hq : -1075 ≤ q) : Ok (Sc.nrm false xs q) ∧ uv (Sc.nrm false xs q) = dv xs * 10 ^ (q + 1075).toNat := by
  by_cases hz : Sc.lz xs = xs.length
  · rw [Sc.nrm_zero hz]
    refine ⟨⟨rfl, by show (-1075 : Int) ≤ 0; omega, .inl ⟨rfl, rfl⟩⟩, ?_⟩
    have e := dv_head0 (Sc.lz xs) xs (fun i hi => Sc.lz_at hi) (Sc.lz_le xs)
    rw [hz, List.drop_length] at e
    rw [uv_zero rfl, e, show dv [] = 0 from rfl, Int.zero_mul]
  · rw [Sc.nrm_pos hz]
    have lt := Sc.lz_tz hz
    have hdd : Digs (xs.drop (Sc.lz xs)) := fun d h => hd d (List.mem_of_mem_drop h)
    have hh : (xs.drop (Sc.lz xs)).getD 0 0 ≠ 48 := by
      have := Sc.lz_end xs
      have e := Sc.pk_drop xs (Sc.lz xs) 0
      rw [Nat.add_zero] at e
      unfold Sc.pk at e this
      rw [e]
      exact this
    have hlen : (xs.drop (Sc.lz xs)).length = xs.length - Sc.lz xs := List.length_drop
    have hv : 0 < dv (xs.drop (Sc.lz xs)) := by
      obtain ⟨n, hn⟩ : ∃ n, (xs.drop (Sc.lz xs)).length = n + 1 := ⟨xs.length - Sc.lz xs - 1, by omega⟩
      have := Fx.head_low hdd hn hh
      have := Fx.p_pos n
      omega
    obtain ⟨kp, nm, v⟩ := Fx.nml_take (ys := xs.drop (Sc.lz xs)) (k := xs.length - Sc.tz xs - Sc.lz xs) hdd hh (by omega) (fun i h1 h2 => by
      have e := Sc.pk_drop xs (Sc.lz xs) i
      unfold Sc.pk at e
      rw [e]
      exact Sc.tz_at (by omega) (by omega)) (fun h => by
      have e := Sc.pk_drop xs (Sc.lz xs) (xs.length - Sc.tz xs - Sc.lz xs - 1)
      have t := Sc.tz_end (ds := xs) (by omega)
      unfold Sc.pk at e t
      rw [e, show Sc.lz xs + (xs.length - Sc.tz xs - Sc.lz xs - 1) = xs.length - Sc.tz xs - 1 by omega]
      exact t) hv
    rw [hlen, show xs.length - Sc.lz xs - (xs.length - Sc.tz xs - Sc.lz xs) = Sc.tz xs by omega] at v
    refine ⟨⟨rfl, by show -1075 ≤ q + Sc.tz xs; omega, .inr nm⟩, ?_⟩
    show dv _ * 10 ^ (q + Sc.tz xs + 1075).toNat = _
    rw [dv_head0 (Sc.lz xs) xs (fun i hi => Sc.lz_at hi) (Sc.lz_le xs), ← v, show (q + (Sc.tz xs : Int) + 1075).toNat = Sc.tz xs + (q + 1075).toNat by omega, Int.pow_add, Int.mul_assoc]
theorem nrm_dd {xs : List Int} {q : Int} (hd : Digs xs) (hq : -1075 ≤ q) : Sc.nrm false xs q = dd (dv xs * 10 ^ (q + 1075).toNat) := by
  have h := nrm_uv hd hq
  rw [← h.2]
  exact h.1.is

theorem isdec {xs : List Int} {q : Int} (hd : Digs xs) (hn : xs ≠ []) (h0 : -1075 ≤ q) (h1 : q ≤ 100000) (hl : xs.length ≤ 100000) : Sc.IsDec xs q := ⟨hn, by omega, by omega, dg_of hd, fun _ => by have := Sc.tz_le xs; omega⟩

/-- A row's head and tail. -/
theorem dv_cut {xs : List Int} {n : Nat} : dv xs = dv (xs.take n) * 10 ^ (xs.length - n) + dv (xs.drop n) := by
  conv => lhs; rw [← List.take_append_drop n xs]
  rw [dv_append, List.length_drop]

/-- The tail against a half. -/
def gt5 (t : List Int) : Bool := decide (53 < t.getD 0 0 ∨ (t.getD 0 0 = 53 ∧ 1 < t.length))
theorem tail5 {t : List Int} (hd : Digs t) (hn : t ≠ []) (hl : t.getD (t.length - 1) 0 ≠ 48) : (gt5 t = true ↔ 10 ^ t.length < 2 * dv t) ∧ (t = [53] ↔ 10 ^ t.length = 2 * dv t) := by
  match t, hn with
  | x :: r, _ =>
    have hx := hd x (by simp)
    have hr : Digs r := fun d h => hd d (by simp [h])
    have b := dv_bd hr
    have e1 : (10 : Int) ^ (x :: r).length = 10 ^ r.length * 10 := by rw [List.length_cons, Int.pow_succ]
    have pp := Fx.p_pos r.length
    have g : (x :: r).getD 0 0 = x := rfl
    have rp : r ≠ [] → 0 < dv r := by
      intro c
      obtain ⟨n, hn⟩ : ∃ n, r.length = n + 1 := ⟨r.length - 1, by have := List.length_pos_iff.2 c; omega⟩
      have q := Fx.dv_mod hr hn
      rw [List.length_cons, hn] at hl
      have q2 := Fx.digs_getD hr (show n < r.length by omega)
      have q3 : (x :: r).getD (n + 1 + 1 - 1) 0 = r.getD n 0 := rfl
      rw [q3] at hl
      omega
    have rn : r = [] ∨ r ≠ [] := by by_cases c : r = []; exact .inl c; exact .inr c
    have rl : r ≠ [] → 1 < (x :: r).length := fun c => by have := List.length_pos_iff.2 c; simp; omega
    unfold gt5
    rw [e1, dv_cons, g, decide_eq_true_iff]
    obtain ⟨y, hy⟩ : ∃ y, x - 48 = y := ⟨_, rfl⟩
    rw [hy]
    have lo : y ≤ 4 → y * 10 ^ r.length ≤ 4 * 10 ^ r.length := fun c => Int.mul_le_mul_of_nonneg_right c (Int.le_of_lt pp)
    have hi : 6 ≤ y → 6 * 10 ^ r.length ≤ y * 10 ^ r.length := fun c => Int.mul_le_mul_of_nonneg_right c (Int.le_of_lt pp)
    have mi : y = 5 → y * 10 ^ r.length = 5 * 10 ^ r.length := fun c => by rw [c]
    rcases rn with c | c
    · subst c
      have z : dv [] = 0 := rfl
      simp only [List.length_cons, List.length_nil, z, Int.pow_zero] at *
      constructor
      · omega
      · constructor
        · intro q; simp at q; omega
        · intro q; rw [show x = 53 by omega]
    · have r1 := rp c
      have r2 := rl c
      generalize (10 : Int) ^ r.length = P at *
      generalize y * P = Y at *
      have ne : x :: r ≠ [53] := fun q => c (List.cons.inj q).2
      constructor
      · constructor
        · intro q
          rcases (show y = 5 ∨ 6 ≤ y by omega) with k | k
          · have := mi k; omega
          · have := hi k; omega
        · intro q
          rcases (show y ≤ 4 ∨ 5 ≤ y by omega) with k | k
          · have := lo k; omega
          · omega
      · constructor
        · intro q; exact absurd q ne
        · intro q
          exfalso
          rcases (show y ≤ 4 ∨ y = 5 ∨ 6 ≤ y by omega) with k | k | k
          · have := lo k; omega
          · have := mi k; omega
          · have := hi k; omega

/-- What within looks at: the head's number, the tail, the step. -/
theorem head_is {U : Int} {n : Nat} (h : 0 < U) (h1 : 1 ≤ n) (hn : n < ln U) : dv ((dd U).ds.take n) = U / st U n ∧ (decide (gt5 ((dd U).ds.drop n) = true ∨ ((dd U).ds.drop n = [53] ∧ dv ((dd U).ds.take n) % 2 = 1)) = upB U (st U n)) ∧ dv ((dd U).ds.take n) < 10 ^ n := by
  have o := dd_is (Int.le_of_lt h)
  have nm := o.1.nml (by rw [o.2]; exact h)
  have lo := o.1.lo
  have hv : dv (dd U).ds * 10 ^ ((dd U).e + 1075).toNat = U := o.2
  have hl : (dd U).ds.length = ln U := rfl
  have c := dv_cut (xs := (dd U).ds) (n := n)
  have td : Digs ((dd U).ds.drop n) := fun d q => nm.digs d (List.mem_of_mem_drop q)
  have tt : Digs ((dd U).ds.take n) := fun d q => nm.digs d (List.mem_of_mem_take q)
  have tn : (dd U).ds.drop n ≠ [] := by
    intro q
    have := congrArg List.length q
    rw [List.length_drop] at this
    simp at this
    omega
  have tl : ((dd U).ds.drop n).length = ln U - n := by rw [List.length_drop, hl]
  have tlast : ((dd U).ds.drop n).getD (((dd U).ds.drop n).length - 1) 0 ≠ 48 := by
    have e := Sc.pk_drop (dd U).ds n (((dd U).ds.drop n).length - 1)
    unfold Sc.pk at e
    rw [e, tl, show n + (ln U - n - 1) = (dd U).ds.length - 1 by omega]
    exact nm.last
  obtain ⟨t1, t2⟩ := tail5 td tn tlast
  have tb := dv_bd td
  rw [tl] at t1 t2 tb
  have es : st U n = 10 ^ (ln U - n) * 10 ^ ((dd U).e + 1075).toNat := by
    unfold st
    rw [← Int.pow_add]
    congr 1
    omega
  have p1 := Fx.p_pos (ln U - n)
  have p2 := Fx.p_pos ((dd U).e + 1075).toNat
  have eU : U = dv ((dd U).ds.take n) * st U n + dv ((dd U).ds.drop n) * 10 ^ ((dd U).e + 1075).toNat := by
    rw [hl] at c
    rw [es, ← Int.mul_assoc, ← Int.add_mul, ← c]
    exact hv.symm
  have hb := (dv_bd tt).2
  rw [List.length_take, hl, Nat.min_eq_left (by omega)] at hb
  generalize dv ((dd U).ds.take n) = H at *
  generalize dv ((dd U).ds.drop n) = R at *
  generalize (10 : Int) ^ ((dd U).e + 1075).toNat = Q at *
  generalize (10 : Int) ^ (ln U - n) = P at *
  have sp := st_pos U n
  have r0 : 0 ≤ R * Q := Int.mul_nonneg tb.1 (Int.le_of_lt p2)
  have r1 : R * Q < st U n := by rw [es]; exact Int.mul_lt_mul_of_pos_right tb.2 p2
  have hdv : U / st U n = H := by
    have g1 : H ≤ U / st U n := (Int.le_ediv_iff_mul_le sp).2 (by omega)
    have g2 : U / st U n < H + 1 := (Int.ediv_lt_iff_lt_mul sp).2 (by rw [Int.add_mul, Int.one_mul]; omega)
    omega
  have hmd : U % st U n = R * Q := by
    have := (divS (U := U) sp).1
    rw [hdv] at this
    omega
  refine ⟨hdv.symm, ?_, hb⟩
  unfold upB
  rw [hmd, hdv, es]
  congr 1
  have i1 : 10 ^ 0 * (P * Q) < 2 * (R * Q) ↔ P < 2 * R := by
    rw [show (2 : Int) * (R * Q) = 2 * R * Q by rw [Int.mul_assoc], Int.pow_zero, Int.one_mul]
    exact Int.mul_lt_mul_right p2
  have i2 : P * Q = 2 * (R * Q) ↔ P = 2 * R := by
    rw [show (2 : Int) * (R * Q) = 2 * R * Q by rw [Int.mul_assoc]]
    exact ⟨fun q => Int.eq_of_mul_eq_mul_right (by omega) q, fun q => by rw [q]⟩
  rw [Int.pow_zero, Int.one_mul] at i1
  rw [i1, i2, t1, t2]
end Sh
end Go.Proofs.YtaoaniigbooihaaGreatDoor

namespace Go.Proofs.YtaoaniigbooihaaGreatDoor
open Go.RowKit Go.Deep
namespace Sh

/-- One less than the least number of figures. -/
def IsN (a : Int) (f : Nat) : Prop := f ≤ 16 ∧ (∀ i, i < f → (wn a (i + 1)).isSome = false) ∧ (f < 16 → (wn a (f + 1)).isSome = true)
theorem isn_ex (a : Int) : ∃ f, IsN a f := by
  have key : ∀ k, k ≤ 16 → (∃ f, IsN a f) ∨ (∀ i, i < k → (wn a (i + 1)).isSome = false) := by
    intro k
    induction k with
    | zero => intro _; exact .inr fun i h => by omega
    | succ k ih =>
      intro hk
      rcases ih (by omega) with c | c
      · exact .inl c
      · cases h : (wn a (k + 1)).isSome with
        | true => exact .inl ⟨k, by omega, c, fun _ => h⟩
        | false =>
          refine .inr fun i hi => ?_
          rcases (show i < k ∨ i = k by omega) with q | q
          · exact c i q
          · rw [q]; exact h
  rcases key 16 (by omega) with c | c
  · exact c
  · exact ⟨16, by omega, c, fun h => by omega⟩
theorem IsN.one {a : Int} {f g : Nat} (h : IsN a f) (k : IsN a g) : f = g := by
  rcases Nat.lt_trichotomy f g with c | c | c
  · have h1 := h.2.2 (by have := k.1; omega)
    rw [k.2.1 f c] at h1
    exact absurd h1 (by decide)
  · exact c
  · have h1 := k.2.2 (by have := h.1; omega)
    rw [h.2.1 g c] at h1
    exact absurd h1 (by decide)
noncomputable def n0 (a : Int) : Nat := Classical.choose (isn_ex a)
theorem n0_is (a : Int) : IsN a (n0 a) := Classical.choose_spec (isn_ex a)
/-- What a search by halving tells. -/
theorem isn_of {a : Int} {f : Nat} (ha : 0 ≤ a) (hf : f ≤ 16) (h1 : 0 < f → (wn a f).isSome = false) (h2 : f < 16 → (wn a (f + 1)).isSome = true) : f = n0 a := by
  refine IsN.one ⟨hf, fun i hi => ?_, h2⟩ (n0_is a)
  have up : ∀ k : Nat, (wn a (i + 1)).isSome = true → (wn a (i + 1 + k)).isSome = true := by
    intro k
    induction k with
    | zero => exact fun h => h
    | succ k ih => exact fun h => wn_mono ha (ih h)
  cases h : (wn a (i + 1)).isSome with
  | false => rfl
  | true =>
    have q := up (f - (i + 1)) h
    rw [show i + 1 + (f - (i + 1)) = f by omega, h1 (by omega)] at q
    exact absurd q (by decide)
theorem ln0 : ln (V 0) = 1 := by rw [V_zero, ln, dd_zero]; rfl
theorem wn_zero {n : Nat} (h : 1 ≤ n) : wn 0 n = some 0 := by
  unfold wn
  rw [if_pos (by rw [ln0]; exact h), V_zero]
theorem wn_17 {a : Int} (ha : 0 ≤ a) : (wn a 17).isSome = true := by
  rcases (show a = 0 ∨ 0 < a by omega) with c | c
  · rw [c, wn_zero (by omega)]; rfl
  · exact wn17 c
/-- What Digits tells. -/
noncomputable def dgt (a : Int) : Int := (wn a (n0 a + 1)).getD 0
theorem wn_dgt {a : Int} (ha : 0 ≤ a) : wn a (n0 a + 1) = some (dgt a) := by
  have h : (wn a (n0 a + 1)).isSome = true := by
    obtain ⟨h1, h2, h3⟩ := n0_is a
    rcases (show n0 a < 16 ∨ n0 a = 16 by omega) with c | c
    · exact h3 c
    · rw [c]; exact wn_17 ha
  obtain ⟨U, hU⟩ := Option.isSome_iff_exists.1 h
  unfold dgt
  rw [hU]
  rfl
theorem n0_le (a : Int) : n0 a ≤ 16 := (n0_is a).1
theorem dgt_nn {a : Int} (ha : 0 ≤ a) : 0 ≤ dgt a := by
  rcases (show a = 0 ∨ 0 < a by omega) with c | c
  · have := wn_dgt ha
    subst c
    rw [wn_zero (by omega)] at this
    have := Option.some.inj this
    omega
  · exact Int.le_of_lt (wn_pos c (wn_dgt ha))
theorem dgt_zero : dgt 0 = 0 := by
  have := wn_dgt (Int.le_refl 0)
  rw [wn_zero (by omega)] at this
  exact (Option.some.inj this).symm

/-- Closed ones. -/
theorem dd_eq {D : Sc.D} {U : Int} (h : Ok D) (k : uv D = U) : dd U = D := by rw [← k]; exact h.is.symm
theorem ok_of (xs : List Int) (e : Int) (h1 : (xs.all fun x => decide (48 ≤ x) && decide (x ≤ 57)) = true) (h2 : xs ≠ []) (h3 : xs.getD 0 0 ≠ 48) (h4 : xs.getD (xs.length - 1) 0 ≠ 48) (h5 : -1075 ≤ e) : Ok ⟨false, xs, e⟩ :=
  ⟨rfl, h5, .inr ⟨fun d hd => by have := List.all_eq_true.1 h1 d hd; simpa using this, h2, h3, h4⟩⟩
theorem wn_at {a : Int} {n : Nat} {D : Sc.D} {U S : Int} (hD : dd (V a) = D) (hl : n < D.ds.length) (hS : 10 ^ (D.e + ((D.ds.length : Int) - n) + 1075).toNat = S) (h1 : inB a (k1 (V a) S * S) = true) (hU : k1 (V a) S * S = U) : wn a n = some U := by
  have e1 : ln (V a) = D.ds.length := by rw [ln, hD]
  have e2 : st (V a) n = S := by rw [st, e1, hD, hS]
  unfold wn
  rw [if_neg (by omega), e2, if_pos h1, hU]
theorem wn_not {a : Int} {n : Nat} {D : Sc.D} {S : Int} (hD : dd (V a) = D) (hl : n < D.ds.length) (hS : 10 ^ (D.e + ((D.ds.length : Int) - n) + 1075).toNat = S) (h1 : inB a (k1 (V a) S * S) = false) (h2 : inB a (k2 (V a) S * S) = false) : wn a n = none := by
  have e1 : ln (V a) = D.ds.length := by rw [ln, hD]
  have e2 : st (V a) n = S := by rw [st, e1, hD, hS]
  unfold wn
  rw [if_neg (by omega), e2, if_neg (by rw [h1]; decide), if_neg (by rw [h2]; decide)]
theorem wn_all {a : Int} {n : Nat} {D : Sc.D} (hD : dd (V a) = D) (hl : D.ds.length ≤ n) : wn a n = some (V a) := by
  have e1 : ln (V a) = D.ds.length := by rw [ln, hD]
  unfold wn
  rw [if_pos (by omega)]

/-- The exact digits of the doubles next to 0.1 and 1/3; of 2.5. -/
def tenth : List Int := [49,48,48,48,48,48,48,48,48,48,48,48,48,48,48,48,48,53,53,53,49,49,49,53,49,50,51,49,50,53,55,56,50,55,48,50,49,49,56,49,53,56,51,52,48,52,53,52,49,48,49,53,54,50,53]
def third : List Int := [51,51,51,51,51,51,51,51,51,51,51,51,51,51,51,51,49,52,56,50,57,54,49,54,50,53,54,50,52,55,51,57,48,57,57,50,57,51,57,52,55,50,49,57,56,52,56,54,51,50,56,49,50,53]
def threes : List Int := [51,51,51,51,51,51,51,51,51,51,51,51,51,51,51,51]
set_option maxRecDepth 100000 in
theorem dd01 : dd (V 4591870180066957722) = ⟨false, tenth, -55⟩ := dd_eq (ok_of _ _ (by decide +kernel) (by decide +kernel) (by decide +kernel) (by decide +kernel) (by decide)) (by decide +kernel)
set_option maxRecDepth 100000 in
theorem dd13 : dd (V 4599676419421066581) = ⟨false, third, -54⟩ := dd_eq (ok_of _ _ (by decide +kernel) (by decide +kernel) (by decide +kernel) (by decide +kernel) (by decide)) (by decide +kernel)
set_option maxRecDepth 100000 in
theorem dd25 : dd (V 4612811918334230528) = ⟨false, [50, 53], -1⟩ := dd_eq (ok_of _ _ (by decide +kernel) (by decide +kernel) (by decide +kernel) (by decide +kernel) (by decide)) (by decide +kernel)
theorem wn01 : wn 4591870180066957722 1 = some (10 ^ 1074) := wn_at (S := 10 ^ 1074) dd01 (by decide +kernel) (by decide +kernel) (by decide +kernel) (by decide +kernel)
theorem wn13 : wn 4599676419421066581 16 = some (3333333333333333 * 10 ^ 1059) := wn_at (S := 10 ^ 1059) dd13 (by decide +kernel) (by decide +kernel) (by decide +kernel) (by decide +kernel)
theorem wn25 : wn 4612811918334230528 1 = none := wn_not (S := 10 ^ 1075) dd25 (by decide +kernel) (by decide +kernel) (by decide +kernel) (by decide +kernel)
theorem wn25b : wn 4612811918334230528 2 = some (V 4612811918334230528) := wn_all dd25 (by decide +kernel)
theorem n001 : n0 4591870180066957722 = 0 := (isn_of (by decide) (by decide) (fun h => absurd h (by decide)) (fun _ => by rw [show 0 + 1 = 1 from rfl, wn01]; rfl)).symm
theorem n025 : n0 4612811918334230528 = 1 := (isn_of (by decide) (by decide) (fun _ => by rw [wn25]; rfl) (fun _ => by rw [show 1 + 1 = 2 from rfl, wn25b]; rfl)).symm
theorem dgt01 : dgt 4591870180066957722 = 10 ^ 1074 := by rw [dgt, n001, show 0 + 1 = 1 from rfl, wn01]; rfl
theorem dgt25 : dgt 4612811918334230528 = V 4612811918334230528 := by rw [dgt, n025, show 1 + 1 = 2 from rfl, wn25b]; rfl
set_option maxRecDepth 100000 in
theorem ddt01 : dd (10 ^ 1074) = ⟨false, [49], -1⟩ := dd_eq (ok_of _ _ (by decide +kernel) (by decide +kernel) (by decide +kernel) (by decide +kernel) (by decide)) (by decide +kernel)
set_option maxRecDepth 100000 in
theorem ddt13 : dd (3333333333333333 * 10 ^ 1059) = ⟨false, threes, -16⟩ := dd_eq (ok_of _ _ (by decide +kernel) (by decide +kernel) (by decide +kernel) (by decide +kernel) (by decide)) (by decide +kernel)
theorem in01 : inB 4591870180066957722 (10 ^ 1074) = true := wn_in (by decide) wn01
end Sh
end Go.Proofs.YtaoaniigbooihaaGreatDoor
