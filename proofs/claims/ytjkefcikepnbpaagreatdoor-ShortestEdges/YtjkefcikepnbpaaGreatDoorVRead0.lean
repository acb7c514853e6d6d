/-
  scan's read: the longest literal at a place (made by mkvread.py).
-/
import Derived.Test.YtjkefcikepnbpaaGreatDoorVWalk1
import Derived.Laws.ResultCell
namespace Go.Proofs.YtjkefcikepnbpaaGreatDoor
open Go Go.RowKit Go.Deep


/-- The room for the answer, empty; the literal in its box. -/
def RM (w w' : World) (neg : Bool) (A B : ByteArray) (sc en : Int) : Prop :=
  Below w.heap.size w w' ∧ Row5 w' w.heap.size 87 (.bool false) (.string ⟨#[]⟩) (.string ⟨#[]⟩) (.int .i64 0) (.int .i64 0) ∧ Row5 w' (w.heap.size + 1) 87 (.bool neg) (.string A) (.string B) (.int .i64 sc) (.int .i64 en)

theorem RM.new (w : World) (neg : Bool) : RM w ((w.alloc (.cells #[.bool false, .string ⟨#[]⟩, .string ⟨#[]⟩, .int .i64 0, .int .i64 0] 87)).alloc (.cells #[.bool neg, .string ⟨#[]⟩, .string ⟨#[]⟩, .int .i64 0, .int .i64 0] 87)) neg ⟨#[]⟩ ⟨#[]⟩ 0 0 := by
  refine ⟨below_on (alloc_b _ _) (alloc_b _ _), heap_alloc2_old _ _ _, heap_alloc2_new _ _ _⟩

theorem RM.cells {w w' : World} {neg : Bool} {A B : ByteArray} {sc en : Int} (h : RM w w' neg A B sc en) :
    (w'.cell? ⟨w.heap.size + 1, 0, none⟩ = some (.bool neg) ∧ w'.cell? ⟨w.heap.size + 1, 1, none⟩ = some (.string A) ∧ w'.cell? ⟨w.heap.size + 1, 2, none⟩ = some (.string B) ∧ w'.cell? ⟨w.heap.size + 1, 3, none⟩ = some (.int .i64 sc) ∧ w'.cell? ⟨w.heap.size + 1, 4, none⟩ = some (.int .i64 en)) ∧
    (w'.frozen? ⟨w.heap.size + 1, 0, none⟩ = false ∧ w'.frozen? ⟨w.heap.size + 1, 1, none⟩ = false ∧ w'.frozen? ⟨w.heap.size + 1, 2, none⟩ = false ∧ w'.frozen? ⟨w.heap.size + 1, 3, none⟩ = false ∧ w'.frozen? ⟨w.heap.size + 1, 4, none⟩ = false) := h.2.2.cells
theorem RM.room {w w' : World} {neg : Bool} {A B : ByteArray} {sc en : Int} (h : RM w w' neg A B sc en) :
    (w'.cell? ⟨w.heap.size, 0, none⟩ = some (.bool false) ∧ w'.cell? ⟨w.heap.size, 1, none⟩ = some (.string ⟨#[]⟩) ∧ w'.cell? ⟨w.heap.size, 2, none⟩ = some (.string ⟨#[]⟩) ∧ w'.cell? ⟨w.heap.size, 3, none⟩ = some (.int .i64 0) ∧ w'.cell? ⟨w.heap.size, 4, none⟩ = some (.int .i64 0)) ∧
    (w'.frozen? ⟨w.heap.size, 0, none⟩ = false ∧ w'.frozen? ⟨w.heap.size, 1, none⟩ = false ∧ w'.frozen? ⟨w.heap.size, 2, none⟩ = false ∧ w'.frozen? ⟨w.heap.size, 3, none⟩ = false ∧ w'.frozen? ⟨w.heap.size, 4, none⟩ = false) := h.2.1.cells
theorem RM.ahead {w w' : World} {neg : Bool} {A B : ByteArray} {sc en : Int} (h : RM w w' neg A B sc en) (A' : ByteArray) : RM w (w'.setCell ⟨w.heap.size + 1, 1, none⟩ (.string A')) neg A' B sc en :=
  ⟨h.1.setCell (p := ⟨w.heap.size + 1, 1, none⟩) (Nat.le_succ _) _, h.2.1.set_far (by omega), set1 h.2.2 (by simp [Array.setIfInBounds])⟩
theorem RM.behind {w w' : World} {neg : Bool} {A B : ByteArray} {sc en : Int} (h : RM w w' neg A B sc en) (B' : ByteArray) : RM w (w'.setCell ⟨w.heap.size + 1, 2, none⟩ (.string B')) neg A B' sc en :=
  ⟨h.1.setCell (p := ⟨w.heap.size + 1, 2, none⟩) (Nat.le_succ _) _, h.2.1.set_far (by omega), set1 h.2.2 (by simp [Array.setIfInBounds])⟩
theorem RM.scale {w w' : World} {neg : Bool} {A B : ByteArray} {sc en : Int} (h : RM w w' neg A B sc en) (x : Int) : RM w (w'.setCell ⟨w.heap.size + 1, 3, none⟩ (.int .i64 x)) neg A B x en :=
  ⟨h.1.setCell (p := ⟨w.heap.size + 1, 3, none⟩) (Nat.le_succ _) _, h.2.1.set_far (by omega), set1 h.2.2 (by simp [Array.setIfInBounds])⟩
theorem RM.en {w w' : World} {neg : Bool} {A B : ByteArray} {sc en : Int} (h : RM w w' neg A B sc en) (x : Int) : RM w (w'.setCell ⟨w.heap.size + 1, 4, none⟩ (.int .i64 x)) neg A B sc x :=
  ⟨h.1.setCell (p := ⟨w.heap.size + 1, 4, none⟩) (Nat.le_succ _) _, h.2.1.set_far (by omega), set1 h.2.2 (by simp [Array.setIfInBounds])⟩
theorem RM.drew {w w' : World} {neg : Bool} {A B : ByteArray} {sc en : Int} (h : RM w w' neg A B sc en) (n : Nat) : RM w (w'.drewN n) neg A B sc en := ⟨below_drewN h.1 n, h.2.1, h.2.2⟩

theorem RM.drew1 {w w' : World} {neg : Bool} {A B : ByteArray} {sc en : Int} (h : RM w w' neg A B sc en) : RM w w'.drew neg A B sc en := h.drew 1

def litV (neg : Bool) (A B : ByteArray) (sc en : Int) : Value := .agg #[.bool neg, .string A, .string B, .int .i64 sc, .int .i64 en]

theorem RM.put {w w' : World} {neg : Bool} {A B : ByteArray} {sc en : Int} (h : RM w w' neg A B sc en) (v0 v1 v2 v3 v4 : Value) :
    (((((w'.setCell ⟨w.heap.size, 0, none⟩ v0).setCell ⟨w.heap.size, 1, none⟩ v1).setCell ⟨w.heap.size, 2, none⟩ v2).setCell ⟨w.heap.size, 3, none⟩ v3).setCell ⟨w.heap.size, 4, none⟩ v4).heap[w.heap.size]? = some (.cells #[v0, v1, v2, v3, v4] 87 (0, 0)) ∧
    Below w.heap.size w (((((w'.setCell ⟨w.heap.size, 0, none⟩ v0).setCell ⟨w.heap.size, 1, none⟩ v1).setCell ⟨w.heap.size, 2, none⟩ v2).setCell ⟨w.heap.size, 3, none⟩ v3).setCell ⟨w.heap.size, 4, none⟩ v4) := by
  have h0 := set1 (o := 0) (v := v0) (c' := #[v0, .string ⟨#[]⟩, .string ⟨#[]⟩, .int .i64 0, .int .i64 0]) h.2.1 (by simp [Array.setIfInBounds])
  have h1 := set1 (o := 1) (v := v1) (c' := #[v0, v1, .string ⟨#[]⟩, .int .i64 0, .int .i64 0]) h0 (by simp [Array.setIfInBounds])
  have h2 := set1 (o := 2) (v := v2) (c' := #[v0, v1, v2, .int .i64 0, .int .i64 0]) h1 (by simp [Array.setIfInBounds])
  have h3 := set1 (o := 3) (v := v3) (c' := #[v0, v1, v2, v3, .int .i64 0]) h2 (by simp [Array.setIfInBounds])
  exact ⟨set1 (o := 4) (v := v4) (c' := #[v0, v1, v2, v3, v4]) h3 (by simp [Array.setIfInBounds]), ((((h.1.setCell (p := ⟨w.heap.size, 0, none⟩) (Nat.le_refl _) v0).setCell (p := ⟨w.heap.size, 1, none⟩) (Nat.le_refl _) v1).setCell (p := ⟨w.heap.size, 2, none⟩) (Nat.le_refl _) v2).setCell (p := ⟨w.heap.size, 3, none⟩) (Nat.le_refl _) v3).setCell (p := ⟨w.heap.size, 4, none⟩) (Nat.le_refl _) v4⟩

/-- What read tells. -/
def RdTold (xs : List Int) (k : Nat) (w : World) (e : Ending) (w' : World) : Prop :=
  ((Sc.some? xs k ∧ ∃ A B, e = .returned (.tuple #[litV (Sc.lit xs k).neg A B (Sc.lit xs k).sc (Sc.lit xs k).en, .bool true]) ∧ Str A (Sc.lit xs k).ah ∧ Str B (Sc.lit xs k).bh) ∨
    (¬ Sc.some? xs k ∧ e = .returned (.tuple #[litV false ⟨#[]⟩ ⟨#[]⟩ 0 0, .bool false]))) ∧ Below w.heap.size w w'

/-- What holds at each label: 0 ahead, 2 behind, 1 number, 3 exponent. -/
inductive RI (xs : List Int) (k : Nat) (w w' : World) : Nat → Nat → Value → Value → Prop
  | ahead (j : Nat) (bel : Value) (h1 : Sc.p1 xs k ≤ j) (h2 : j + Sc.run Sc.dg xs j = Sc.p2 xs k) (m : RM w w' (decide (Sc.pk xs k = 45)) ⟨#[]⟩ ⟨#[]⟩ 0 0) : RI xs k w w' 0 j bel (.int .i64 (Sc.p1 xs k : Nat))
  | behind (j : Nat) (bel : Value) (A : ByteArray) (hA : Str A (Sc.lit xs k).ah) (hp : Sc.pk xs (Sc.p2 xs k) = 46) (h1 : Sc.p2 xs k + 1 ≤ j) (h2 : j + Sc.run Sc.dg xs j = Sc.p3 xs k) (m : RM w w' (decide (Sc.pk xs k = 45)) A ⟨#[]⟩ 0 0) : RI xs k w w' 2 j bel (.int .i64 ((Sc.p2 xs k + 1 : Nat) : Int))
  | number (bel frm : Value) (A B : ByteArray) (hA : Str A (Sc.lit xs k).ah) (hB : Str B (Sc.lit xs k).bh) (m : RM w w' (decide (Sc.pk xs k = 45)) A B 0 0) : RI xs k w w' 1 (Sc.p3 xs k) bel frm
  | power (j : Nat) (frm : Value) (A B : ByteArray) (hs : Sc.some? xs k) (hA : Str A (Sc.lit xs k).ah) (hB : Str B (Sc.lit xs k).bh) (he : Sc.hasE xs (Sc.p3 xs k) = true) (h1 : Sc.p4 xs (Sc.p3 xs k) ≤ j) (h2 : j + Sc.run Sc.dg xs j = Sc.p4 xs (Sc.p3 xs k) + Sc.run Sc.dg xs (Sc.p4 xs (Sc.p3 xs k)))
      (m : RM w w' (decide (Sc.pk xs k = 45)) A B (Sc.cap ((xs.drop (Sc.p4 xs (Sc.p3 xs k))).take (j - Sc.p4 xs (Sc.p3 xs k)))) (Sc.p3 xs k : Nat)) : RI xs k w w' 3 j (.bool (decide (Sc.pk xs (Sc.p3 xs k + 1) = 45))) frm

theorem frame_all (a : Act) (h : a.tmps.size = 109) (hd : a.defers = []) : ∃ u : Nat → Value, a = { tmps := #[u 0, u 1, u 2, u 3, u 4, u 5, u 6, u 7, u 8, u 9, u 10, u 11, u 12, u 13, u 14, u 15, u 16, u 17, u 18, u 19, u 20, u 21, u 22, u 23, u 24, u 25, u 26, u 27, u 28, u 29, u 30, u 31, u 32, u 33, u 34, u 35, u 36, u 37, u 38, u 39, u 40, u 41, u 42, u 43, u 44, u 45, u 46, u 47, u 48, u 49, u 50, u 51, u 52, u 53, u 54, u 55, u 56, u 57, u 58, u 59, u 60, u 61, u 62, u 63, u 64, u 65, u 66, u 67, u 68, u 69, u 70, u 71, u 72, u 73, u 74, u 75, u 76, u 77, u 78, u 79, u 80, u 81, u 82, u 83, u 84, u 85, u 86, u 87, u 88, u 89, u 90, u 91, u 92, u 93, u 94, u 95, u 96, u 97, u 98, u 99, u 100, u 101, u 102, u 103, u 104, u 105, u 106, u 107, u 108], defers := [] } := by
  refine ⟨fun i => a.tmps.toList.getD i undef, ?_⟩
  obtain ⟨⟨l⟩, d⟩ := a
  simp only at hd h
  subst hd
  have e : l = (List.range 109).map (fun i => l.getD i undef) := by
    have h' : l.length = 109 := h
    apply List.ext_getElem
    · simp [h']
    · intro i h1 h2
      simp [List.getD, h1]
  conv => lhs; rw [e]
  rfl
def RJ (s : ByteArray) (xs : List Int) (k : Nat) (w : World) (l : Nat) (a : Act) (w' : World) : Prop :=
  a.tmps.size = 109 ∧ a.defers = [] ∧ ∃ (at_ : Int) (bel frm : Value), a.tmps.getD 0 undef = .string s ∧ a.tmps.getD 1 undef = .int .i64 at_ ∧ a.tmps.getD 4 undef = .pointer (some ⟨w.heap.size, 0, none⟩) ∧ a.tmps.getD 6 undef = .pointer (some ⟨w.heap.size + 1, 0, none⟩) ∧ a.tmps.getD 7 undef = bel ∧ a.tmps.getD 8 undef = frm ∧ ∃ j : Nat, at_ = j ∧ RI xs k w w' l j bel frm
theorem RJ.open {s : ByteArray} {xs : List Int} {k : Nat} {w : World} {l : Nat} {a : Act} {w' : World} (h : RJ s xs k w l a w') : ∃ (u : Nat → Value) (j : Nat) (bel frm : Value), a = { tmps := #[.string s, .int .i64 j, u 2, u 3, .pointer (some ⟨w.heap.size, 0, none⟩), u 5, .pointer (some ⟨w.heap.size + 1, 0, none⟩), bel, frm, u 9, u 10, u 11, u 12, u 13, u 14, u 15, u 16, u 17, u 18, u 19, u 20, u 21, u 22, u 23, u 24, u 25, u 26, u 27, u 28, u 29, u 30, u 31, u 32, u 33, u 34, u 35, u 36, u 37, u 38, u 39, u 40, u 41, u 42, u 43, u 44, u 45, u 46, u 47, u 48, u 49, u 50, u 51, u 52, u 53, u 54, u 55, u 56, u 57, u 58, u 59, u 60, u 61, u 62, u 63, u 64, u 65, u 66, u 67, u 68, u 69, u 70, u 71, u 72, u 73, u 74, u 75, u 76, u 77, u 78, u 79, u 80, u 81, u 82, u 83, u 84, u 85, u 86, u 87, u 88, u 89, u 90, u 91, u 92, u 93, u 94, u 95, u 96, u 97, u 98, u 99, u 100, u 101, u 102, u 103, u 104, u 105, u 106, u 107, u 108], defers := [] } ∧ RI xs k w w' l j bel frm := by
  obtain ⟨h1, h2, at_, bel, frm, e0, e1, e4, e6, e7, e8, j, rfl, I⟩ := h
  obtain ⟨u, rfl⟩ := frame_all a h1 h2
  refine ⟨u, j, bel, frm, ?_, I⟩
  have e0' : u 0 = .string s := e0
  have e1' : u 1 = .int .i64 j := e1
  have e4' : u 4 = .pointer (some ⟨w.heap.size, 0, none⟩) := e4
  have e6' : u 6 = .pointer (some ⟨w.heap.size + 1, 0, none⟩) := e6
  have e7' : u 7 = bel := e7
  have e8' : u 8 = frm := e8
  rw [e0', e1', e4', e6', e7', e8']

def rk : Nat → Nat
  | 0 => 3
  | 2 => 2
  | 1 => 1
  | _ => 0
def rmu (xs : List Int) (l : Nat) (a : Act) (_ : World) : Nat := rk l * (xs.length + 3) + (xs.length + 2 - (match a.tmps.getD 1 undef with | .int _ q => q.toNat | _ => 0))

theorem wp_scope_falls {P : Program} {a : Act} {w : World} {Q : Exit → Act → World → Prop} {c : Code} (J : Nat → Act → World → Prop) (μ : Nat → Act → World → Nat)
    (first : (∀ l' a' w' b', J l' a' w' → findLabel c l' = some (.seq .skip b') → b'.wp P (Exit.jumps J Q) a' w') → c.wp P (Exit.jumps J Q) a w)
    (pass : ∀ l a w, J l a w → ∃ b, findLabel c l = some (.seq .skip b) ∧ ((∀ l' a' w' b', J l' a' w' → μ l' a' w' < μ l a w → findLabel c l' = some (.seq .skip b') → b'.wp P (Exit.jumps (fun l' a' w' => J l' a' w' ∧ μ l' a' w' < μ l a w) Q) a' w') → b.wp P (Exit.jumps (fun l' a' w' => J l' a' w' ∧ μ l' a' w' < μ l a w) Q) a w)) : (Code.scope c).wp P Q a w := by
  have key : ∀ n l a w, μ l a w = n → J l a w → ∃ b, findLabel c l = some (.seq .skip b) ∧ b.wp P (Exit.jumps (fun l' a' w' => J l' a' w' ∧ μ l' a' w' < n) Q) a w := by
    intro n
    induction n using Nat.strongRecOn with
    | _ n ih =>
      intro l a w hn hJ
      obtain ⟨rest, hf, hp⟩ := pass l a w hJ
      rw [hn] at hp
      refine ⟨rest, hf, hp fun l' a' w' rest' hJ' hlt hf' => ?_⟩
      obtain ⟨r2, hf2, h2⟩ := ih _ hlt l' a' w' rfl hJ'
      rw [hf'] at hf2
      cases hf2
      refine wp_mono h2 fun e a1 w1 hq => ?_
      cases e <;> first | exact hq | exact ⟨hq.1, by have := hq.2; omega⟩
  refine wp_scope_labels J μ (first fun l' a' w' rest' hJ' hf' => ?_) fun l a w hJ => ?_
  · obtain ⟨r2, hf2, h2⟩ := key _ l' a' w' rfl hJ'
    rw [hf'] at hf2
    cases hf2
    refine wp_mono h2 fun e a1 w1 hq => ?_
    cases e <;> first | exact hq | exact hq.1
  · obtain ⟨b, hf, hb⟩ := key _ l a w rfl hJ
    exact ⟨_, hf, wp_seq (wp_skip hb)⟩

theorem rd_some {xs : List Int} {k : Nat} {w w' : World} {A B : ByteArray} {sc en : Int} (hs : Sc.some? xs k) (hA : Str A (Sc.lit xs k).ah) (hB : Str B (Sc.lit xs k).bh) (h1 : sc = (Sc.lit xs k).sc) (h2 : en = ((Sc.lit xs k).en : Nat)) (b : Below w.heap.size w w') :
    RdTold xs k w (.returned (.tuple #[.agg #[.bool (decide (Sc.pk xs k = 45)), .string A, .string B, .int .i64 sc, .int .i64 en], .bool true])) w' := by
  subst h1 h2
  exact ⟨.inl ⟨hs, A, B, rfl, hA, hB⟩, b⟩
theorem rd_none {xs : List Int} {k : Nat} {w w' : World} (hs : ¬ Sc.some? xs k) (b : Below w.heap.size w w') :
    RdTold xs k w (.returned (.tuple #[.agg #[.bool false, .string ⟨#[]⟩, .string ⟨#[]⟩, .int .i64 0, .int .i64 0], .bool false])) w' := ⟨.inr ⟨hs, rfl⟩, b⟩
theorem isE_t {x : Int} (h : Sc.isE x = true) : x = 101 ∨ x = 69 := by simpa [Sc.isE] using h
theorem isE_f {x : Int} (h : Sc.isE x = false) : x ≠ 101 ∧ x ≠ 69 := by simpa [Sc.isE] using h
theorem sc_none {xs : List Int} {k : Nat} (h : Sc.hasE xs (Sc.p3 xs k) = false) : (0 : Int) = (Sc.lit xs k).sc ∧ ((Sc.p3 xs k : Nat) : Int) = ((Sc.lit xs k).en : Nat) := by
  unfold Sc.lit; simp [h]
theorem sc_some {xs : List Int} {k : Nat} (h : Sc.hasE xs (Sc.p3 xs k) = true) : (Sc.lit xs k).sc = (if Sc.pk xs (Sc.p3 xs k + 1) = 45 then - Sc.cap ((xs.drop (Sc.p4 xs (Sc.p3 xs k))).take (Sc.run Sc.dg xs (Sc.p4 xs (Sc.p3 xs k)))) else Sc.cap ((xs.drop (Sc.p4 xs (Sc.p3 xs k))).take (Sc.run Sc.dg xs (Sc.p4 xs (Sc.p3 xs k))))) ∧ (Sc.lit xs k).en = Sc.p4 xs (Sc.p3 xs k) + Sc.run Sc.dg xs (Sc.p4 xs (Sc.p3 xs k)) := by
  unfold Sc.lit; simp [h]
theorem ah_len {xs : List Int} {k : Nat} {A : ByteArray} (hA : Str A (Sc.lit xs k).ah) : A.size = Sc.run Sc.dg xs (Sc.p1 xs k) := by
  rw [hA.size]
  have := Sc.run_le Sc.dg xs (Sc.p1 xs k)
  show ((xs.drop _).take _).length = _
  simp; omega
theorem bh_len {xs : List Int} {k : Nat} {B : ByteArray} (hB : Str B (Sc.lit xs k).bh) : B.size = Sc.bn xs k := by
  rw [hB.size]
  show ((xs.drop _).take _).length = _
  have h1 : Sc.bn xs k ≤ xs.length - (Sc.p2 xs k + 1) := by
    unfold Sc.bn
    split
    · exact Sc.run_le _ _ _
    · omega
  simp; omega
theorem cap_more {xs : List Int} {v j : Nat} (h : v ≤ j) (hj : j < xs.length) : Sc.cap ((xs.drop v).take (j + 1 - v)) = min (10 * Sc.cap ((xs.drop v).take (j - v)) + (Sc.pk xs j - 48)) 1000000000000000 := by
  have e := Sc.take_snoc (xs := xs) (v := v) (c := j - v) (by omega)
  rw [show j + 1 - v = j - v + 1 by omega, e, Sc.cap_snoc, show v + (j - v) = j by omega]
theorem cap_bd {xs : List Int} {v j : Nat} (h : v ≤ j) (hr : j + Sc.run Sc.dg xs j = v + Sc.run Sc.dg xs v) : 0 ≤ Sc.cap ((xs.drop v).take (j - v)) ∧ Sc.cap ((xs.drop v).take (j - v)) ≤ 1000000000000000 := by
  apply Sc.cap_b
  intro x hx
  obtain ⟨i, hi, rfl⟩ := List.mem_iff_getElem.1 hx
  rw [List.length_take, List.length_drop] at hi
  have := Sc.run_all (p := Sc.dg) (xs := xs) (i := v) i (by omega)
  have e : Sc.pk xs (v + i) = ((xs.drop v).take (j - v))[i] := by
    have hi2 : v + i < xs.length := by omega
    simp [Sc.pk, List.getD, hi2]
  rw [← e]; exact this
end Go.Proofs.YtjkefcikepnbpaaGreatDoor
